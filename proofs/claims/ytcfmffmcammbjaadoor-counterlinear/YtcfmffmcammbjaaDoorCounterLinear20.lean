/- Of the proof of CounterLinear. Part 20 of 26. (Joined, by program, and written short, of: CtI5, CtI6, CtI7, CtL1, CtL2, CtL3, CtL4.) -/
import Derived.Test.YtcfmffmcammbjaaDoorCounterLinear10
import Derived.Test.YtcfmffmcammbjaaDoorCounterLinear16
import Derived.Test.YtcfmffmcammbjaaDoorCounterLinear18
import Derived.Test.YtcfmffmcammbjaaDoorCounterLinear19
set_option linter.unusedSimpArgs false
set_option linter.unusedVariables false
set_option maxHeartbeats 4000000
set_option maxRecDepth 100000
namespace Go.Proofs.YtcfmffmcammbjaaDoor.Gen
open Go Go.Lift Go.Conc Go.RowKit
open Go.ConcN (upd upd_same upd_ne)
theorem CI.answers {N s:Nat}(h0:0<s) {cl:Nat->List Cl}{v v1:Vw}(h:CI N s cl v) {i:Nat}(hi:i<N) {op:Int}{j:Nat}{q:Q}{rest:List Cl}{ii:Nat}{ans:List (Int×Int)}(hl:v.l i=.turn op j q rest ii ans) {l':Ph}{x o n:Int}{X:List Stp}{c:Cl}
 (hrest:rest=(cl i).drop (ii+1)) (hc:(cl i)[ii]? = some c) (hin:inA (v.l i)=if c.po=1 then 1 else 0) (hop:op=1∨op=4)
 (hfw:Fw (mcC s) i false rest (ii+1) ((0:Int)==4) (ans.set ii (0,x)) X l') (e:Els i l' v v1) (hst:v1.stk=v.stk) (hL:v1.L=v.L++⟨i,j,op,o,n⟩ :: ⟨i,-1,10,ii,0⟩ :: X)
 {r1:Rp} (hr1:rs cl (rep cl v.L) ⟨i,j,op,o,n⟩=r1) (kl:v1.K.length=s) (hoth:∀ k,k<N->k≠i->CSeat s (cl k) r1 v1.K k (v.l k)) (hb:r1.busy=busyN N v.l) (hq:∀ k,r1.quiet k=true->r1.busy=0) (ht:r1.total=(v1.K.map R1.amtS).sum)
 (hsm:∀ y∈v1.K,R1.ver y≤doneN N cl v.l+1∧-1000*((doneN N cl v.l:Int)+1)≤R1.amtS y∧R1.amtS y≤1000*((doneN N cl v.l:Int)+1))
 (hans:c.po=2->x∈r1.seen i∧(r1.quiet i=true->r1.count i=2*s)):CI N s cl v1:=by
 have hpo:=(po_of hc).1
 have hlt:ii<(cl i).length:=(List.getElem?_eq_some_iff.1 hc).1
 have hal:ans.length=(cl i).length:=by have:=h.alen i hi;rw[hl] at this;exact this
 have hile:inA (v.l i)≤busyN N v.l:=sumT_le (fun _=>inA) v.l hi
 have e2:=rs_end (cl:=cl) (r:=r1) (i:=i) ii 0
 have hb2:(rs cl r1 ⟨i,-1,10,ii,0⟩).busy=(busyN N v.l:Int) - inA (v.l i):=by
  rw[e2,hin]
  show (if poOf cl i ii=1 then r1.busy - 1 else r1.busy)=_
  rw[hpo,hb]
  split<;>simp
 have hq2:∀ k,(rs cl r1 ⟨i,-1,10,ii,0⟩).quiet k=true->(rs cl r1 ⟨i,-1,10,ii,0⟩).busy=0:=fun k hk=>by
  rw[hb2]
  rw[e2] at hk
  have:=hq k hk
  omega
 have hrep:rep cl v1.L=X.foldl (rs cl) (rs cl r1 ⟨i,-1,10,ii,0⟩):=by
  rw[hL,rep_app,←hr1];rfl
 have f:=fw_ctr h0 (cl:=cl) hfw (rs cl r1 ⟨i,-1,10,ii,0⟩) v1.K hrest hlt (by rw[List.length_set];exact hal) rfl (by rw[hb2];omega) hq2
 rw[←hrep] at f
 have hup:upC (cl i) (v.l i)=ii:=by rw[hl];rfl
 have hul:=f.up
 have hdn:doneN N cl v.l+1≤doneN N cl v1.l:=by
  have:=sumT_upd (fun i=>upC (cl i)) v.l hi l'
  unfold doneN
  rw[e.l]
  omega
 have hbn:=sumT_upd (fun _=>inA) v.l hi l'
 have hsty:Stay N cl v.l v1.l:=fun k hk=>by
  rw[e.l]
  by_cases hne:k=i
  ·subst hne
   rw[upd_same]
   refine ⟨by omega,fun m hm=>?_⟩
   rw[f.old m (by omega),List.getElem?_set,if_neg (by omega),hl]
   rfl
  ·rw[upd_ne _ _ hne];exact ⟨Nat.le_refl _,fun _ _=>rfl⟩
 have hli:v1.l i=l':=by rw[e.l,upd_same]
 refine ⟨kl,by rw[hst];exact h.stk,fun k hk=>?_,fun k hk=>?_,?_,f.qb,?_,fun y hy=>?_,?_⟩
 ·rw[e.l]
  by_cases hne:k=i
  ·subst hne;rw[upd_same];exact f.seat
  ·rw[upd_ne _ _ hne]
   exact ((hoth k hk hne).oth (end_oth cl r1 v1.K ii 0 hne)).oth (f.oth k hne)
 ·rw[e.l]
  by_cases hne:k=i
  ·subst hne;rw[upd_same];exact f.len
  ·rw[upd_ne _ _ hne];exact h.alen k hk
 ·rw[f.busy,hb2,e.l]
  unfold busyN at hile ⊢
  omega
 ·rw[f.tot,e2];exact ht
 ·have:=hsm y hy
  omega
 ·rw[hL]
  have hst1:StC N s cl v1.l v.L ⟨i,j,op,o,n⟩:=⟨i,rfl,hi,fun e9=>by
   have e9:op=9:=e9
   rcases hop with rfl|rfl<;>simp at e9,fun e10=>by
   have e10:op=10:=e10
   rcases hop with rfl|rfl<;>simp at e10⟩
  have hst2:StC N s cl v1.l (v.L++[⟨i,j,op,o,n⟩]) ⟨i,-1,10,ii,0⟩:=by
   refine ⟨i,rfl,hi,fun e9=>absurd (show (10:Int)=9 from e9) (by decide),fun _=>⟨ii,c,rfl,hc,by rw[hli];omega,fun p a ha=>?_⟩⟩
   rw[hli,f.old ii (by omega),List.getElem?_set,if_pos rfl,if_pos (by omega)] at ha
   cases ha
   rw[rep_one,hr1]
   exact hans p
  have:=EndsC.more X (EndsC.one (EndsC.one (fun A st B e'=>(h.ends A st B e').stay hsty) hst1) hst2) (fun A st hs=>xok_stc hi (by rw[hli];exact f.xs st hs) A)
  rw[List.append_assoc,List.append_assoc] at this
  exact this
theorem set_getD {K:List Int}{j:Nat}(hj:j<K.length):K.set j (K.getD j 0)=K∧K[j]? = some (K.getD j 0):=by
 have h:K[j]? = some (K.getD j 0):=by rw[List.getD_eq_getElem?_getD,List.getElem?_eq_getElem hj];rfl
 refine ⟨?_,h⟩
 apply List.ext_getElem?
 intro k
 rw[List.getElem?_set]
 split
 ·rename_i e
  subst e
  first|exact h.symm|rw[if_pos hj,h]
 ·rfl
theorem sum_set (f:Int->Int):∀ (K:List Int) (j:Nat) (x y:Int),K[j]? = some x->((K.set j y).map f).sum=(K.map f).sum - f x+f y
 |a :: K,0,x,y,h=>by
  simp at h
  subst h
  simp only[List.set_cons_zero,List.map_cons,List.sum_cons]
  omega
 |a :: K,j+1,x,y,h=>by
  have:=sum_set f K j x y (by simpa using h)
  simp only[List.set_cons_succ,List.map_cons,List.sum_cons]
  omega
theorem cas_oth (cl:Nat->List Cl) (r:Rp) {K:List Int}{i j k:Nat}{y n:Int}(hne:k≠i) (hy:K[j]? = some y) (hle:Le y (R1.addI y n)) (hp:poOf cl i (r.call i)=1) (hq:r.quiet k=false):Oth r (rs cl r ⟨i,j,4,y,R1.addI y n⟩) K (K.set j (R1.addI y n)) k:=by
 rw[rs_cas j y (R1.addI y n) hp (R1.addI_ne y n)]
 refine ⟨rfl,by show upd r.count i (r.count i+1) k=_;rw[upd_ne _ _ hne],fun x hx=>List.mem_append_left _ hx,fun _=>?_,fun h=>?_,fun m a b ha hb=>?_,by rw[List.length_set]⟩
 ·show _∈r.seen k++[_]
  simp
 ·have h:r.quiet k=true:=h
  rw[hq] at h;cases h
 ·rw[List.getElem?_set] at hb
  split at hb
  ·rename_i e
   subst e
   split at hb
   ·cases hb
    rw[hy] at ha
    cases ha
    exact hle
   ·cases hb
  ·rw[ha] at hb
   cases hb
   exact Le.refl _
theorem ctr_mv {N s:Nat}(h0:0<s) (h16:s≤16) {cl:Nat->List Cl}(hcs:((List.range N).map fun i=>(cl i).length).sum≤512) {v v1:Vw}(h:CI N s cl v) (m:Mv (mcC s) N v v1):CI N s cl v1:=by
 have hd:=h.few hcs
 cases m with
 |stuck hs hall hex e =>
  obtain ⟨i,hi,j,q,r,k,a,hl⟩:=hex
  have:=h.seat i hi
  rw[hl] at this
  exact this.elim
 |wake i j q rest ii ans X l' hi hl _ _ _ _ _ _ _ _ =>
  have:=h.seat i hi
  rw[hl] at this
  exact this.elim
 |free i j q rest ii ans X l' hi hl _ _ _ _ _ _ _ =>
  have:=h.seat i hi
  rw[hl] at this
  exact this.elim
 |turn i op j q rest ii ans X l' hi hl ho e hK hst hchg hL =>
  have hs:=h.seat i hi
  rw[hl] at hs
  obtain ⟨hrest,hcall,htot,hj,c,hc,h5⟩:=hs
  have hpc:=po_of hc
  rcases h5 with ⟨p1,rfl,rfl⟩|⟨p1,rfl,y,rfl⟩|⟨p2,rfl,l,rfl,hF⟩|⟨p2,rfl,d,snap,rfl,hF⟩
  · -- an Add looks
   have hjs:j<v.K.length:=by rw[hj,h.kl];simp only[clC,if_true,List.getD_cons_zero,Int.toNat_natCast];exact Nat.mod_lt _ h0
   obtain ⟨g1,g2⟩:=set_getD hjs
   generalize v.K.getD j 0=x at *
   have e3:(mcC s).turn (0,[((i % s:Nat):Int),c.ca.tmod 1000]) x=((x,x),x,.turn 4 (((i % s:Nat):Int)).toNat (1,[((i % s:Nat):Int),c.ca.tmod 1000,x])):=rfl
   rw[e3] at ho hK hL
   cases ho
   exact h.stays hi hl e (hK.trans g1) hst hL (.inl rfl) (by rw[hl];rfl) ⟨hrest,hcall,htot,rfl,c,hc,.inr (.inl ⟨p1,rfl,x,rfl⟩)⟩
  · -- an Add tries
   have hjs:j<v.K.length:=by rw[hj,h.kl];simp only[clC,show ¬ ((1:Nat)=0) by decide,if_false,if_true,List.getD_cons_zero,Int.toNat_natCast];exact Nat.mod_lt _ h0
   obtain ⟨g1,g2⟩:=set_getD hjs
   generalize v.K.getD j 0=x at *
   by_cases hx:x=y
   ·subst hx
    have e3:(mcC s).turn (1,[((i % s:Nat):Int),c.ca.tmod 1000,x]) x=((x,R1.addI x (c.ca.tmod 1000)),R1.addI x (c.ca.tmod 1000),.ans 0 0):=by
     simp[mcC,Bv,-Int.natCast_emod]
    rw[e3] at ho hK hL
    rw[h.stk] at ho
    have hin:inA (v.l i)=1:=by rw[hl];rfl
    have hile:inA (v.l i)≤busyN N v.l:=sumT_le (fun _=>inA) v.l hi
    have hnq:∀ k,(rep cl v.L).quiet k=false:=fun k=>by
     cases hk:(rep cl v.L).quiet k with
     |false=>rfl
     |true =>
      have h1:=h.qb k hk
      have h2:=h.busy
      omega
    have hxm:x∈v.K:=List.mem_of_getElem? g2
    have hsx:=h.sml x hxm
    have hle:Le x (R1.addI x (c.ca.tmod 1000)):=Le.add _ (by omega)
    have hp:poOf cl i ((rep cl v.L).call i)=1:=by rw[hcall,hpc.1];exact p1
    have hca:caOf cl i ((rep cl v.L).call i)=c.ca:=by rw[hcall];exact hpc.2
    have hn:-1000<c.ca.tmod 1000∧c.ca.tmod 1000<1000:=by
     have h1:=Int.tmod_lt_of_pos c.ca (show (0:Int)<1000 by decide)
     have h2:-1000<c.ca.tmod 1000:=by
      have:=Int.tmod_lt_of_pos (-c.ca) (show (0:Int)<1000 by decide)
      rw[Int.neg_tmod] at this
      omega
     exact ⟨h2,h1⟩
    have ham:=R1.amtS_small hn (show -1000000≤R1.amtS x∧R1.amtS x≤1000000 by omega)
    have hrs:=rs_cas (cl:=cl) (r:=rep cl v.L) (i:=i) j x (R1.addI x (c.ca.tmod 1000)) hp (R1.addI_ne x _)
    cases ho with
    |ans hfw =>
     have hK:v1.K=v.K.set j (R1.addI x (c.ca.tmod 1000)):=hK
     refine h.answers h0 hi hl hrest hc (by rw[hin,if_pos p1]) (.inr rfl) hfw e hst hL rfl (by rw[hK,List.length_set];exact h.kl) (fun k hk hne=>by rw[hK];exact (h.seat k hk).oth (cas_oth cl _ hne g2 hle hp (hnq k))) ?_ (fun k hk=>?_) ?_ (fun z hz=>?_) (fun p=>absurd p (by omega))
     ·rw[hrs];exact h.busy
     ·rw[hrs] at hk
      have hk:(rep cl v.L).quiet k=true:=hk
      rw[hnq k] at hk;cases hk
     ·rw[hrs,hK,sum_set _ _ _ _ _ g2,ham,hca]
      show (rep cl v.L).total+_=_
      rw[h.tot];omega
     ·rw[hK] at hz
      rcases List.mem_or_eq_of_mem_set hz with hz|rfl
      ·have:=h.sml z hz;omega
      ·have hv:=R1.ver_addI x (c.ca.tmod 1000)
       have:=R1.ver_in x
       rw[ham]
       omega
   ·have e3:(mcC s).turn (1,[((i % s:Nat):Int),c.ca.tmod 1000,y]) x=((x,x),x,.turn 1 (((i % s:Nat):Int)).toNat (0,[((i % s:Nat):Int),c.ca.tmod 1000])):=by
     simp[mcC,Bv,hx,-Int.natCast_emod]
    rw[e3] at ho hK hL
    cases ho
    exact h.stays hi hl e (hK.trans g1) hst hL (.inr rfl) (by rw[hl];rfl) ⟨hrest,hcall,htot,rfl,c,hc,.inl ⟨p1,rfl,rfl⟩⟩
  · -- a Sum looks
   have hjl:j=l.length:=hj
   subst hjl
   have hjs:l.length<v.K.length:=by rw[h.kl];exact hF.lt
   obtain ⟨g1,g2⟩:=set_getD hjs
   generalize v.K.getD l.length 0=x at *
   have e3:(mcC s).turn (2,l) x=((x,x),x,nx2 s (l++[x])):=rfl
   rw[e3] at ho hK hL
   have hlen:(l++[x]).length=l.length+1:=by simp
   by_cases hlt:l.length+1<s
   ·have e2:nx2 s (l++[x])=.turn 1 (l++[x]).length (2,l++[x]):=by unfold nx2;rw[if_pos (by rw[hlen];exact hlt)]
    have ho:On (mcC s) i v.stk rest ii ans (nx2 s (l++[x])) X l':=ho
    rw[e2] at ho
    cases ho
    exact h.stays hi hl e (hK.trans g1) hst hL (.inl rfl) (by rw[hl];rfl) ⟨hrest,hcall,htot,rfl,c,hc,.inr (.inr (.inl ⟨p2,rfl,_,rfl,hF.look h.kl g2 hlt⟩))⟩
   ·have e2:nx2 s (l++[x])=.turn 1 0 (3,l++[x]):=by unfold nx2;rw[if_neg (by rw[hlen];exact hlt)]
    have ho:On (mcC s) i v.stk rest ii ans (nx2 s (l++[x])) X l':=ho
    rw[e2] at ho
    cases ho
    have hls:=hF.lt
    exact h.stays hi hl e (hK.trans g1) hst hL (.inl rfl) (by rw[hl];rfl) ⟨hrest,hcall,htot,by simp[clC];omega,c,hc,.inr (.inr (.inr ⟨p2,rfl,_,v.K,rfl,hF.last h.kl g2 (by omega) (by rw[h.totI h16 hd];exact htot)⟩))⟩
  · -- it looks again
   have hjl:j=d.length - s:=hj
   subst hjl
   have hge:=hF.ge
   have hlt2:=hF.lt
   have hjs:d.length - s<v.K.length:=by rw[h.kl];omega
   obtain ⟨g1,g2⟩:=set_getD hjs
   generalize v.K.getD (d.length - s) 0=x at *
   have e3:(mcC s).turn (3,d) x=((x,x),x,nx3 s (d++[x])):=rfl
   rw[e3] at ho hK hL
   have hlen:(d++[x]).length=d.length+1:=by simp
   have ho:On (mcC s) i v.stk rest ii ans (nx3 s (d++[x])) X l':=ho
   by_cases hlt:d.length+1<2*s
   ·have e2:nx3 s (d++[x])=.turn 1 ((d++[x]).length - s) (3,d++[x]):=by unfold nx3;rw[if_pos (by rw[hlen];exact hlt)]
    rw[e2] at ho
    cases ho
    exact h.stays hi hl e (hK.trans g1) hst hL (.inl rfl) (by rw[hl];rfl) ⟨hrest,hcall,htot,rfl,c,hc,.inr (.inr (.inr ⟨p2,rfl,_,snap,rfl,hF.look g2 hlt⟩))⟩
   ·obtain ⟨z1,z2⟩:=hF.last g2 (by omega)
    by_cases ht:(d++[x]).take s=(d++[x]).drop s
    ·have e2:nx3 s (d++[x])=.ans 0 (R1.totI ((d++[x]).drop s)):=by unfold nx3;rw[if_neg (by rw[hlen];exact hlt),if_pos ht]
     rw[e2] at ho
     rw[h.stk] at ho
     have hK:v1.K=v.K:=hK.trans g1
     have hrs:=rs_look (cl:=cl) (r:=rep cl v.L) (i:=i) (d.length - s) x
     cases ho with
     |ans hfw =>
      refine h.answers h0 hi hl hrest hc (by rw[hl,p2];rfl) (.inl rfl) hfw e hst hL hrs (by rw[hK];exact h.kl) (fun k hk hne=>by rw[hK];exact (h.seat k hk).oth (look_oth _ _ hne)) h.busy h.qb (by rw[hK];exact h.tot) (fun y hy=>by rw[hK] at hy;have:=h.sml y hy;omega) (fun _=>⟨z1 ht,fun hq=>?_⟩)
      show upd (rep cl v.L).count i ((rep cl v.L).count i+1) i=_
      rw[upd_same]
      exact (z2 hq).1
    ·have e2:nx3 s (d++[x])=.turn 1 0 (2,[]):=by unfold nx3;rw[if_neg (by rw[hlen];exact hlt),if_neg ht]
     rw[e2] at ho
     cases ho
     exact h.stays hi hl e (hK.trans g1) hst hL (.inl rfl) (by rw[hl];rfl) ⟨hrest,hcall,htot,rfl,c,hc,.inr (.inr (.inl ⟨p2,rfl,[],rfl,⟨h0,fun j a b ha _=>by simp at ha,fun hq=>absurd (z2 hq).2 ht⟩⟩))⟩
theorem sumT_succ (N:Nat) (g:Nat->Ph->Nat) (l:Nat->Ph) (l':Ph):sumT (N+1) g (upd l N l')=sumT N g l+g N l':=by
 unfold sumT
 rw[List.range_succ,List.map_append,List.sum_append]
 simp only[List.map_cons,List.map_nil,List.sum_cons,List.sum_nil,Nat.add_zero]
 rw[upd_same]
 have e1:(List.range N).map (fun k=>g k (upd l N l' k))=(List.range N).map (fun k=>g k (l k)):=List.map_congr_left fun k hk=>by
  have:k<N:=List.mem_range.1 hk
  rw[upd_ne _ _ (by omega)]
 rw[e1]
theorem hi_ctr {s:Nat}(h0:0<s) {cl:Nat->List Cl}{k:Nat}{cs:List (List Cl)}{v v':Vw}(h:Hi (mcC s) k cs v v'):cs=(List.range' k cs.length).map cl->CI k s cl v->CI (k+cs.length) s cl v':=by
 induction h with
 |nil=>exact fun _ hv=>hv
 |@cons k c cs v v1 v2 X l' hF e1 e2 e3 e4 e5 _ ih =>
  intro hc hv
  rw[List.length_cons,List.range'_succ,List.map_cons] at hc
  obtain ⟨hc1,hc2⟩:=List.cons.inj hc
  rw[hv.stk] at hF
  have hbn:(0:Int)≤(rep cl v.L).busy:=by rw[hv.busy];omega
  have f:=fw_ctr h0 (cl:=cl) (i:=k) hF (rep cl v.L) v.K (by rw[hc1];rfl) (Nat.zero_le _) (by rw[List.length_replicate,hc1]) rfl hbn hv.qb
  rw[←rep_app,←e4] at f
  have hl:v1.l=upd v.l k l':=e5.l
  have hsty:∀ {A st},StC k s cl v.l A st->StC (k+1) s cl v1.l A st:=fun {A st} h=>by
   obtain ⟨i,a1,a2,a3,a4⟩:=h
   refine ⟨i,a1,by omega,a3,fun e=>?_⟩
   rw[hl,upd_ne _ _ (by omega)]
   exact a4 e
  have hd:doneN k cl v.l≤doneN (k+1) cl v1.l:=by
   unfold doneN
   rw[hl,sumT_succ]
   omega
  have:=ih hc2 ⟨by rw[e1];exact hv.kl,by rw[e2];exact hv.stk,fun i hi=>?_,fun i hi=>?_,?_,f.qb,by rw[f.tot,e1];exact hv.tot,fun x hx=>?_,?_⟩
  ·rw[show k+(c :: cs).length=k+1+cs.length by simp only[List.length_cons];omega]
   exact this
  ·rw[hl,e1]
   by_cases hne:i=k
   ·subst hne;rw[upd_same];exact f.seat
   ·rw[upd_ne _ _ hne];exact (hv.seat i (by omega)).oth (f.oth i hne)
  ·rw[hl]
   by_cases hne:i=k
   ·subst hne;rw[upd_same];exact f.len
   ·rw[upd_ne _ _ hne];exact hv.alen i (by omega)
  ·rw[f.busy,hv.busy,hl]
   unfold busyN
   rw[sumT_succ]
   simp
  ·rw[e1] at hx
   have:=hv.sml x hx
   omega
  ·rw[e4]
   refine EndsC.more X (fun A st B e'=>hsty (hv.ends A st B e')) (fun A st hs=>xok_stc (i:=k) (ii:=0) (by omega) ?_ A)
   rw[hl,upd_same]
   exact f.xs st hs
theorem ctr_run {s:Nat}(h0:0<s) (h16:s≤16) {ss:List (Scr (mcC s))}{cl:Nat->List Cl}{n:Nat}{S S1:TS}{l0 l1:Nat->Ph}{K:List (Nat×Int)}{m:Nat}{p':PSt}
 (hn:ss.length=n) (hn8:n≤8) (hcs:((List.range n).map fun i=>(cl i).length).sum≤512) (hss:ss.map (·.calls)=(List.range' 0 n).map cl) (ha:∀ x∈ss,x.ans=List.replicate x.calls.length (0,0))
 (ht:S.thr=[]) (htr:S.tr=[]) (hSn:S.n=0) (hsk:S.stk=false) (hK:K.map (·.2)=List.replicate s 0)
 (hH:Hires (mcC s) 0 ss S l0 S1 l1) (hT:Turns (mcC s) m ⟨S1,K,l1⟩ p') :
 ∃ v,p'.S.tr=flat v.L∧p'.S.n=v.L.length∧p'.S.stk=false∧v.l=p'.l∧CI n s cl v∧∀ i,i<n->∃ a,p'.l i=.done a:=by
 let v0:Vw:=⟨List.replicate s 0,false,S.chg,fun i=>(thrI S i).se,l0,[]⟩
 have hs0:Seen ⟨S,K,l0⟩ v0:=⟨hK.symm,hsk.symm,rfl,fun i=>rfl,rfl,htr,hSn,fun i t h=>by rw[ht] at h;cases h⟩
 obtain ⟨v1,hi1,hs1⟩:=hires_hi (K:=K) hH v0 (by rw[ht];rfl) ha hs0
 rw[hss] at hi1
 have hc0:CI 0 s cl v0:=⟨by simp[v0],rfl,fun i hi=>by omega,fun i hi=>by omega,rfl,fun i hi=>(by cases hi),by
  show (0:Int)=((List.replicate s 0).map R1.amtS).sum
  rw[List.map_replicate,R1.amtS_zero]
  induction s with
  |zero=>rfl
  |succ k _=>simp,fun x hx=>by
  have:x=0:=(List.mem_replicate.1 hx).2
  subst this
  have e1:=R1.amtS_zero
  have e2:=R1.ver_zero
  rw[e1,e2]
  omega,fun A st B e=>by simp[v0] at e⟩
 have hci:=hi_ctr h0 hi1 (by simp) hc0
 rw[List.length_map,List.length_range',Nat.zero_add] at hci
 obtain ⟨a1,a2,a3,a4⟩:=Mf.hires_gd (metC s h0 h16) hH (by rw[ht];rfl) (by omega) (fun i t h=>by rw[ht] at h;cases h)
 have g:Mf.Gd (metC s h0 h16) ⟨S1,K,l1⟩:=⟨by show S1.thr.length≤8;omega,a2⟩
 obtain ⟨v',hI,hs',_,hd⟩:=Mf.turns_mv (metC s h0 h16) (N:=n) (Inv:=CI n s cl) (fun v v1 hv hm=>ctr_mv h0 h16 hcs hv hm) hT v1 (by show S1.thr.length=n;omega) g hs1 hci
 exact ⟨v',hs'.tr,hs'.n,by rw[←hs'.stk];exact hI.stk,hs'.l,hI,fun i hi=>by rw[←hs'.l];exact hd i hi⟩
end Go.Proofs.YtcfmffmcammbjaaDoor.Gen
namespace Go.Proofs.YtcfmffmcammbjaaDoor.Gen
open Go Go.Lift Go.Conc Go.RowKit
open Go.Proofs.YtcfmffmcammbjaaDoor.His
open Go.ConcN (upd upd_same upd_ne)
inductive Sn9 (N:Nat) (cl:Nat->List Cl) (an:Nat->List (Int×Int)):List Stp->Prop
 |nil:Sn9 N cl an []
 |other {L:List Stp} {x:Stp}:Sn9 N cl an L->x.op≠9->x.op≠10->(rep cl (L++[x])).total=(rep cl L).total->(rep cl (L++[x])).seen=(rep cl L).seen->Sn9 N cl an (L++[x])
 |beg {L:List Stp} {i k:Nat} {c:Cl}:Sn9 N cl an L->i<N->nt L i=2*k->(cl i)[k]? = some c->No4 (an i) k->Sn9 N cl an (L++[⟨i,-1,9,k,0⟩])
 |add {L:List Stp} {x:Stp} {i k:Nat} {c:Cl}:Sn9 N cl an L->i<N->nt L i=2*k+1->(cl i)[k]? = some c->c.po=1->(an i)[k]? = some (0,0)->x.op≠9->x.op≠10->(rep cl (L++[x])).total=(rep cl L).total+c.ca.tmod 1000->(rep cl (L++[x])).seen=(fun j=>(rep cl L).seen j++[(rep cl L).total+c.ca.tmod 1000])->Sn9 N cl an ((L++[x])++[⟨i,-1,10,k,0⟩])
 |sum {L:List Stp} {i k:Nat} {c:Cl} {y:Int}:Sn9 N cl an L->i<N->nt L i=2*k+1->(cl i)[k]? = some c->c.po=2->(an i)[k]? = some (0,y)->y∈(rep cl L).seen i->Sn9 N cl an (L++[⟨i,-1,10,k,0⟩])
def am (e:His.Ev):Int:=if e.op=1 then e.a.tmod 1000 else 0
def sumA:List His.Ev->Int
 | []=>0
 |e :: r=>am e+sumA r
theorem Gw:∀ (l r:List His.Ev),sumA (l++r)=sumA l+sumA r
 | [],r=>by simp[sumA]
 |e :: l,r=>by simp only[List.cons_append,sumA,Gw l r];omega
def okE (s:Int) (e:His.Ev):Prop:=(e.op=1∧e.ans=(0,0))∨(e.op=2∧e.ans=(0,s))
def okL:Int->List His.Ev->Prop
 |_,[]=>True
 |s,e :: r=>okE s e∧okL (s+am e) r
theorem okL_app:∀ (l r:List His.Ev) (s:Int),okL s (l++r)↔okL s l∧okL (s+sumA l) r
 | [],r,s=>by simp[okL,sumA]
 |e :: l,r,s=>by
  simp only[List.cons_append,okL,sumA,okL_app l r,and_assoc,Int.add_assoc]
theorem am_in (e:His.Ev):-1000<am e∧am e<1000:=by
 unfold am
 split
 ·have h1:=Int.tmod_lt_of_pos e.a (show (0:Int)<1000 by decide)
  have h2:=Int.tmod_lt_of_pos (-e.a) (show (0:Int)<1000 by decide)
  rw[Int.neg_tmod] at h2
  omega
 ·omega
structure LC (cl:Nat->List Cl) (L:List Stp) (E:List His.Ev) (id:Nat->Nat) (ord R:List Nat):Prop where
 perm:R.Perm ord
 rel:R.Pairwise fun m m'=>(E.getD m ev0).beg<(E.getD m' ev0).fin∧((E.getD m ev0).op=1->(E.getD m ev0).fin<(E.getD m' ev0).fin)
 ok:okL 0 (R.map fun m=>E.getD m ev0)
 tot:sumA (R.map fun m=>E.getD m ev0)=(rep cl L).total
 seen:∀ (i k:Nat),nt L i=2*k+1->∀ y∈(rep cl L).seen i,∃ U V,R=U++V∧sumA (U.map fun m=>E.getD m ev0)=y∧(V=[]∨∃ A V',V=A :: V'∧(E.getD A ev0).op=1∧(E.getD (id i) ev0).beg<(E.getD A ev0).fin)
def triv:Ways Unit:=fun _ e=>[(e.ans,())]
section
variable {cl:Nat->List Cl}{an:Nat->List (Int×Int)}{L:List Stp}{E:List His.Ev}{id:Nat->Nat}{ord R:List Nat}
theorem rep_beg (i k:Nat):(rep cl (L++[⟨i,-1,9,k,0⟩])).total=(rep cl L).total∧(rep cl (L++[⟨i,-1,9,k,0⟩])).seen=upd (rep cl L).seen i [(rep cl L).total]:=by
 rw[rep_one]
 by_cases h:poOf cl i k=1
 ·rw[rs_begin1 k h];exact ⟨rfl,rfl⟩
 ·rw[rs_begin k h];exact ⟨rfl,rfl⟩
theorem rep_fin (i k:Nat) (e:Int):(rep cl (L++[⟨i,-1,10,k,e⟩])).total=(rep cl L).total∧(rep cl (L++[⟨i,-1,10,k,e⟩])).seen=(rep cl L).seen:=by
 rw[rep_one,rs_end k e]
 exact ⟨rfl,rfl⟩
theorem LC.skip (h:LC cl L E id ord R) {x:Stp}(h9:x.op≠9) (h10:x.op≠10) (ht:(rep cl (L++[x])).total=(rep cl L).total) (hs:(rep cl (L++[x])).seen=(rep cl L).seen):LC cl (L++[x]) E id ord R :=
 ⟨h.perm,h.rel,h.ok,h.tot.trans ht.symm,fun i k hn y hy=>h.seen i k (by rw[Fb h9 h10] at hn;exact hn) y (by rw[hs] at hy;exact hy)⟩
theorem in_len (hI:EvI cl an triv () L E id ord ()) (hp:R.Perm ord) {m:Nat}(hm:m∈R):∃ e,E[m]? = some e∧e.over=true:=hI.over m (hp.mem_iff.1 hm)
theorem LC.begin (hI:EvI cl an triv () L E id ord ()) (h:LC cl L E id ord R) {i k:Nat}(hn:nt L i=2*k) (ev:His.Ev):LC cl (L++[⟨i,-1,9,k,0⟩]) (E++[ev]) (upd id i E.length) ord R:=by
 have old:∀ (m:Nat) (e:His.Ev),E[m]? = some e->(E++[ev]).getD m ev0=E.getD m ev0:=fun m e he=>by
  rw[List.getD_eq_getElem?_getD,List.getD_eq_getElem?_getD,List.getElem?_append_left (List.getElem?_eq_some_iff.1 he).1]
 have mem:∀ m∈R,(E++[ev]).getD m ev0=E.getD m ev0:=fun m hm=>by
  obtain ⟨e,he,_⟩:=in_len hI h.perm hm
  exact old m e he
 have mapR:∀ U:List Nat,(∀ m∈U,m∈R)->U.map (fun m=>(E++[ev]).getD m ev0)=U.map fun m=>E.getD m ev0:=fun U hU=>List.map_congr_left fun m hm=>mem m (hU m hm)
 obtain ⟨r1,r2⟩:=rep_beg (cl:=cl) (L:=L) i k
 refine ⟨h.perm,h.rel.imp_of_mem fun ha hb hr=>by rw[mem _ ha,mem _ hb];exact hr,by rw[mapR R fun _ hm=>hm];exact h.ok,by rw[mapR R fun _ hm=>hm,r1];exact h.tot,fun j q hq y hy=>?_⟩
 by_cases e:j=i
 ·subst e
  rw[r2,upd_same,List.mem_singleton] at hy
  subst hy
  exact ⟨R,[],(List.append_nil R).symm,by rw[mapR R fun _ hm=>hm];exact h.tot,.inl rfl⟩
 ·rw[r2,upd_ne _ _ e] at hy
  rw[C9 _ e] at hq
  obtain ⟨U,V,hR,hu,hv⟩:=h.seen j q hq y hy
  obtain ⟨e1,c1,k1,_⟩:=hI.act j q hq
  refine ⟨U,V,hR,by rw[mapR U fun m hm=>by rw[hR];exact List.mem_append_left _ hm];exact hu,hv.imp (fun x=>x) fun ⟨A,V',a1,a2,a3⟩=>⟨A,V',a1,?_⟩⟩
  rw[mem A (by rw[hR,a1];simp),upd_ne _ _ e,old _ e1 k1]
  exact ⟨a2,a3⟩
theorem fin_aux (hI:EvI cl an triv () L E id ord ()) (hp:R.Perm ord) {i:Nat}{e0:His.Ev}(he0:E[id i]? = some e0) (hf0:e0.fin=-1) (ht0:e0.thr=(i:Int)) (e':His.Ev) :
 (∀ m∈R,(E.set (id i) e').getD m ev0=E.getD m ev0)∧(E.set (id i) e').getD (id i) ev0=e'∧(∀ j q,j≠i->nt L j=2*q+1->(E.set (id i) e').getD (id j) ev0=E.getD (id j) ev0)∧(∀ m∈R,(E.getD m ev0).beg<L.length∧(E.getD m ev0).fin<L.length):=by
 have hlt0:id i<E.length:=(List.getElem?_eq_some_iff.1 he0).1
 have ne:∀ m,m≠id i->(E.set (id i) e').getD m ev0=E.getD m ev0:=fun m hm=>by
  rw[List.getD_eq_getElem?_getD,List.getD_eq_getElem?_getD,List.getElem?_set,if_neg (fun x=>hm x.symm)]
 refine ⟨fun m hm=>ne m fun x=>?_,?_,fun j q hj hq=>ne _ fun x=>?_,fun m hm=>?_⟩
 ·obtain ⟨e,he,ho⟩:=in_len hI hp hm
  rw[x,he0] at he
  cases he
  exact Eb.1 ho hf0
 ·rw[List.getD_eq_getElem?_getD,List.getElem?_set,if_pos rfl,if_pos hlt0];rfl
 ·obtain ⟨e1,c1,k1,k2,_⟩:=hI.act j q hq
  rw[x,he0] at k1
  cases k1
  rw[ht0] at k2
  exact hj (by omega)
 ·obtain ⟨e,he,ho⟩:=in_len hI hp hm
  rw[Ed he]
  have:=hI.timed m e he
  refine ⟨this.2.1,?_⟩
  rcases this.2.2 with h|h
  ·exact absurd h (Eb.1 ho)
  ·exact h.2
theorem LC.add (hI:EvI cl an triv () L E id ord ()) (h:LC cl L E id ord R) {i k:Nat}{c:Cl}{x:Stp}{e0:His.Ev}(hn:nt L i=2*k+1) (he0:E[id i]? = some e0) (hf0:e0.fin=-1) (ht0:e0.thr=(i:Int)) (hop:e0.op=1) (ha:e0.a=c.ca) (h9:x.op≠9) (h10:x.op≠10)
 (ht:(rep cl (L++[x])).total=(rep cl L).total+c.ca.tmod 1000) (hs:(rep cl (L++[x])).seen=(fun j=>(rep cl L).seen j++[(rep cl L).total+c.ca.tmod 1000])) :
 LC cl ((L++[x])++[⟨i,-1,10,k,0⟩]) (E.set (id i) ⟨e0.thr,e0.op,e0.a,e0.b,e0.beg,(L++[x]).length,0,0⟩) id (ord++[id i]) (R++[id i]):=by
 obtain ⟨f1,f2,f3,f4⟩:=fin_aux hI h.perm he0 hf0 ht0 ⟨e0.thr,e0.op,e0.a,e0.b,e0.beg,(L++[x]).length,0,0⟩
 generalize hE:E.set (id i) (⟨e0.thr,e0.op,e0.a,e0.b,e0.beg,(L++[x]).length,0,0⟩:His.Ev)=E2 at f1 f2 f3
 have hlen:((L++[x]).length:Int)=(L.length:Int)+1:=by simp
 have mapR:∀ U:List Nat,(∀ m∈U,m∈R)->U.map (fun m=>E2.getD m ev0)=U.map fun m=>E.getD m ev0:=fun U hU=>List.map_congr_left fun m hm=>f1 m (hU m hm)
 obtain ⟨r1,r2⟩:=rep_fin (cl:=cl) (L:=L++[x]) i k 0
 have ham:am (⟨e0.thr,e0.op,e0.a,e0.b,e0.beg,(L++[x]).length,0,0⟩:His.Ev)=c.ca.tmod 1000:=by
  unfold am;rw[if_pos hop,←ha]
 have hsum:sumA ((R++[id i]).map fun m=>E2.getD m ev0)=(rep cl L).total+c.ca.tmod 1000:=by
  rw[List.map_append,Gw,mapR R fun _ hm=>hm,h.tot,List.map_singleton,f2]
  show _+(am _+0)=_
  rw[ham];omega
 refine ⟨h.perm.append_right _,?_,?_,by rw[r1,ht];exact hsum,fun j q hq y hy=>?_⟩
 ·rw[List.pairwise_append]
  refine ⟨h.rel.imp_of_mem fun ha hb hr=>by rw[f1 _ ha,f1 _ hb];exact hr,List.pairwise_singleton _ _,fun u hu z hz=>?_⟩
  rw[List.mem_singleton] at hz
  subst hz
  have:=f4 u hu
  rw[f1 u hu,f2]
  exact ⟨by show _<((L++[x]).length:Int);omega,fun _=>by show _<((L++[x]).length:Int);omega⟩
 ·rw[List.map_append,okL_app,mapR R fun _ hm=>hm,List.map_singleton,f2]
  exact ⟨h.ok,.inl ⟨hop,rfl⟩,trivial⟩
 ·have hji:j≠i:=fun e=>by
   subst e
   rw[Ce _ _ _ _ (.inr rfl),Fb h9 h10,hn] at hq
   omega
  rw[C9 _ hji,Fb h9 h10] at hq
  rw[r2,hs] at hy
  have hy:y∈(rep cl L).seen j++[(rep cl L).total+c.ca.tmod 1000]:=hy
  rw[List.mem_append,List.mem_singleton] at hy
  rcases hy with hy|rfl
  ·obtain ⟨U,V,hR,hu,hv⟩:=h.seen j q hq y hy
   refine ⟨U,V++[id i],by rw[hR,List.append_assoc],by rw[mapR U fun m hm=>by rw[hR];exact List.mem_append_left _ hm];exact hu,.inr ?_⟩
   rcases hv with rfl|⟨A,V',rfl,a2,a3⟩
   ·refine ⟨id i,[],rfl,by rw[f2];exact hop,?_⟩
    rw[f3 j q hji hq,f2]
    obtain ⟨e1,c1,k1,_⟩:=hI.act j q hq
    rw[Ed k1]
    have:=(hI.timed _ _ k1).2.1
    show _<((L++[x]).length:Int)
    omega
   ·refine ⟨A,V'++[id i],rfl,?_,?_⟩
    ·rw[f1 A (by rw[hR];simp)];exact a2
    ·rw[f1 A (by rw[hR];simp),f3 j q hji hq];exact a3
  ·exact ⟨R++[id i],[],(List.append_nil _).symm,hsum,.inl rfl⟩
theorem LC.sum (hI:EvI cl an triv () L E id ord ()) (h:LC cl L E id ord R) {i k:Nat}{y:Int}{e0:His.Ev}(hn:nt L i=2*k+1) (he0:E[id i]? = some e0) (hf0:e0.fin=-1) (ht0:e0.thr=(i:Int)) (hop:e0.op=2) (hy:y∈(rep cl L).seen i) :
 ∃ R',LC cl (L++[⟨i,-1,10,k,0⟩]) (E.set (id i) ⟨e0.thr,e0.op,e0.a,e0.b,e0.beg,L.length,0,y⟩) id (ord++[id i]) R':=by
 obtain ⟨f1,f2,f3,f4⟩:=fin_aux hI h.perm he0 hf0 ht0 ⟨e0.thr,e0.op,e0.a,e0.b,e0.beg,L.length,0,y⟩
 generalize hE:E.set (id i) (⟨e0.thr,e0.op,e0.a,e0.b,e0.beg,L.length,0,y⟩:His.Ev)=E2 at f1 f2 f3 ⊢
 have mapR:∀ U:List Nat,(∀ m∈U,m∈R)->U.map (fun m=>E2.getD m ev0)=U.map fun m=>E.getD m ev0:=fun U hU=>List.map_congr_left fun m hm=>f1 m (hU m hm)
 obtain ⟨r1,r2⟩:=rep_fin (cl:=cl) (L:=L) i k 0
 have ham:am (⟨e0.thr,e0.op,e0.a,e0.b,e0.beg,L.length,0,y⟩:His.Ev)=0:=by
  unfold am;rw[if_neg (by show ¬ e0.op=1;rw[hop];decide)]
 obtain ⟨U,V,hR,hu,hv⟩:=h.seen i k hn y hy
 have inU:∀ m∈U,m∈R:=fun m hm=>by rw[hR];exact List.mem_append_left _ hm
 have inV:∀ m∈V,m∈R:=fun m hm=>by rw[hR];exact List.mem_append_right _ hm
 have hrel:=h.rel
 rw[hR,List.pairwise_append] at hrel
 obtain ⟨p1,p2,p3⟩:=hrel
 have hbeg:(E.getD (id i) ev0).beg=e0.beg:=by rw[Ed he0]
 have hok:=h.ok
 rw[hR,List.map_append,okL_app] at hok
 refine ⟨U++id i :: V,?_,?_,?_,?_,fun j q hq z hz=>?_⟩
 ·refine List.perm_middle.trans ((List.perm_append_singleton _ _).symm.trans ?_)
  rw[←hR]
  exact h.perm.append_right _
 ·rw[List.pairwise_append,List.pairwise_cons]
  refine ⟨p1.imp_of_mem fun ha hb hr=>by rw[f1 _ (inU _ ha),f1 _ (inU _ hb)];exact hr,⟨fun v hv'=>?_,p2.imp_of_mem fun ha hb hr=>by rw[f1 _ (inV _ ha),f1 _ (inV _ hb)];exact hr⟩,fun u hu' z hz=>?_⟩
  ·rw[f2,f1 v (inV v hv')]
   refine ⟨?_,fun q=>absurd (q.symm.trans hop) (by decide)⟩
   show e0.beg<_
   rcases hv with rfl|⟨A,V',rfl,a2,a3⟩
   ·cases hv'
   ·rw[hbeg] at a3
    rcases List.mem_cons.1 hv' with rfl|hv'
    ·exact a3
    ·have:=((List.pairwise_cons.1 p2).1 v hv').2 a2
     omega
  ·have:=f4 u (inU u hu')
   rcases List.mem_cons.1 hz with rfl|hz
   ·rw[f1 u (inU u hu'),f2]
    exact ⟨this.1,fun _=>this.2⟩
   ·rw[f1 u (inU u hu'),f1 z (inV z hz)]
    exact p3 u hu' z hz
 ·rw[List.map_append,okL_app,mapR U inU,List.map_cons,mapR V inV,f2]
  refine ⟨hok.1,.inr ⟨hop,?_⟩,?_⟩
  ·rw[hu];show ((0:Int),y)=(0,0+y);rw[Int.zero_add]
  ·rw[ham,Int.add_zero];exact hok.2
 ·have:=h.tot
  rw[hR,List.map_append,Gw] at this
  rw[r1,List.map_append,Gw,mapR U inU,List.map_cons,mapR V inV,f2]
  show _+(am _+_)=_
  rw[ham];omega
 ·have hji:j≠i:=fun e=>by
   subst e
   rw[Ce _ _ _ _ (.inr rfl),hn] at hq
   omega
  rw[C9 _ hji] at hq
  rw[r2] at hz
  obtain ⟨U2,V2,hR2,hu2,hv2⟩:=h.seen j q hq z hz
  have inU2:∀ m∈U2,m∈R:=fun m hm=>by rw[hR2];exact List.mem_append_left _ hm
  have inV2:∀ m∈V2,m∈R:=fun m hm=>by rw[hR2];exact List.mem_append_right _ hm
  have hv3:V2=[]∨∃ A V',V2=A :: V'∧(E2.getD A ev0).op=1∧(E2.getD (id j) ev0).beg<(E2.getD A ev0).fin:=hv2.imp (fun x=>x) fun ⟨A,V',a1,a2,a3⟩=>⟨A,V',a1,by
   rw[f1 A (inV2 A (by rw[a1];exact List.mem_cons_self ..)),f3 j q hji hq]
   exact ⟨a2,a3⟩⟩
  rcases List.append_eq_append_iff.1 (hR2.symm.trans hR) with ⟨W,w1,w2⟩|⟨W,w1,w2⟩
  ·cases W with
   |nil =>
    rw[List.append_nil] at w1
    rw[List.nil_append] at w2
    refine ⟨U2++[id i],V2,by rw[w1,w2];simp,?_,hv3⟩
    rw[List.map_append,Gw,mapR U2 inU2,hu2,List.map_singleton,f2]
    show _+(am _+0)=_
    rw[ham];omega
   |cons w W =>
    refine ⟨U2,w :: (W++id i :: V),by rw[w1];simp,by rw[mapR U2 inU2];exact hu2,.inr ?_⟩
    rcases hv3 with q|⟨A,V',q,a2,a3⟩
    ·rw[w2] at q;cases q
    ·rw[w2] at q
     obtain ⟨rfl,_⟩:=List.cons.inj q
     exact ⟨w,_,rfl,a2,a3⟩
  ·refine ⟨U++id i :: W,V2,by rw[w2];simp,?_,hv3⟩
   rw[w1,List.map_append,Gw] at hu2
   rw[List.map_append,Gw,mapR U inU,List.map_cons,mapR W (fun m hm=>inV m (by rw[w2];exact List.mem_append_left _ hm)),f2]
   show _+(am _+_)=_
   rw[ham];omega
end
theorem sn_lin {N:Nat}{cl:Nat->List Cl}{an:Nat->List (Int×Int)}{L:List Stp}(h:Sn9 N cl an L):∃ E id ord R,Ev9 cl an L E id∧EvI cl an triv () L E id ord ()∧LC cl L E id ord R:=by
 induction h with
 |nil=>exact ⟨[],_,[],[],.nil,⟨fun m e he=>by simp at he,fun i k hn=>by simp[nt] at hn,fun m m' e e' _ he=>by simp at he,fun m e i he=>by simp at he,List.nodup_nil,fun m hm=>(nomatch hm),fun m e he=>by simp at he,.nil,rfl⟩,⟨.nil,.nil,trivial,rfl,fun i k hn=>by simp[nt] at hn⟩⟩
 |@other L x h h9 h10 ht hs ih =>
  obtain ⟨E,id,ord,R,h1,h2,h3⟩:=ih
  exact ⟨E,id,ord,R,.other h1 h9 h10,h2.skip x (fun i k hn=>by rw[Fb h9 h10] at hn;exact hn) (fun i m _ _=>.inl (Fb h9 h10 i)),h3.skip h9 h10 ht hs⟩
 |beg h hi hn hc h4 ih =>
  obtain ⟨E,id,ord,R,h1,h2,h3⟩:=ih
  exact ⟨_,_,ord,R,.beg h1 hn hc,h2.begin hn hc h4,LC.begin h2 h3 hn _⟩
 |@add L x i k c h hi hn hc hp ha h9 h10 ht hs ih =>
  obtain ⟨E,id,ord,R,h1,h2,h3⟩:=ih
  obtain ⟨e0,c0,k1,k2,k3,k4,k5,k6,k7⟩:=h2.act i k hn
  obtain rfl:c=c0:=by rw[hc] at k4;exact Option.some.inj k4
  have hn':nt (L++[x]) i=2*k+1:=by rw[Fb h9 h10];exact hn
  have h2':=h2.skip x (fun i k hn=>by rw[Fb h9 h10] at hn;exact hn) (fun i m _ _=>.inl (Fb h9 h10 i))
  exact ⟨_,_,_,_,.fin (a:=(0,0)) (.other h1 h9 h10) hn' ha (by decide) k1,h2'.finish (a:=(0,0)) (o:=((0,0),())) hn' k1 k3 k2 (List.mem_singleton.2 rfl) rfl,LC.add h2 h3 hn k1 k3 k2 (k5.trans hp) k6 h9 h10 ht hs⟩
 |@sum L i k c y h hi hn hc hp ha hy ih =>
  obtain ⟨E,id,ord,R,h1,h2,h3⟩:=ih
  obtain ⟨e0,c0,k1,k2,k3,k4,k5,k6,k7⟩:=h2.act i k hn
  obtain rfl:c=c0:=by rw[hc] at k4;exact Option.some.inj k4
  obtain ⟨R',h4⟩:=LC.sum h2 h3 hn k1 k3 k2 (k5.trans hp) hy
  exact ⟨_,_,_,R',.fin (a:=(0,y)) h1 hn ha (show ¬ (0:Int)=4 by decide) k1,h2.finish (a:=(0,y)) (o:=((0,y),())) hn k1 k3 k2 (List.mem_singleton.2 rfl) rfl,h4⟩
theorem Sn9.mono {N:Nat}{cl:Nat->List Cl}{an an':Nat->List (Int×Int)}{L:List Stp}(h:Sn9 N cl an L):(∀ i k,k<nt L i / 2->(an' i)[k]? = (an i)[k]?)->Sn9 N cl an' L:=by
 induction h with
 |nil=>intro _;exact .nil
 |@other L x h h9 h10 ht hs ih=>intro hk;exact .other (ih fun i k hi=>hk i k (by have:=nt_le L x i;omega)) h9 h10 ht hs
 |@beg L i k c h hi hn hc h4 ih =>
  intro hk
  refine .beg (ih fun j q hq=>hk j q (by have:=nt_le L ⟨i,-1,9,k,0⟩ j;omega)) hi hn hc fun q a hq ha=>h4 q a hq ?_
  rw[←hk i q (by rw[Ce _ _ _ _ (.inl rfl)];omega)];exact ha
 |@add L x i k c h hi hn hc hp ha h9 h10 ht hs ih =>
  intro hk
  refine .add (ih fun j q hq=>hk j q (by have:=nt_le L x j;have:=nt_le (L++[x]) ⟨i,-1,10,k,0⟩ j;omega)) hi hn hc hp ?_ h9 h10 ht hs
  rw[hk i k (by rw[Ce _ _ _ _ (.inr rfl),Fb h9 h10];omega)];exact ha
 |@sum L i k c y h hi hn hc hp ha hy ih =>
  intro hk
  refine .sum (ih fun j q hq=>hk j q (by have:=nt_le L ⟨i,-1,10,k,0⟩ j;omega)) hi hn hc hp ?_ hy
  rw[hk i k (by rw[Ce _ _ _ _ (.inr rfl)];omega)];exact ha
section
variable {s N:Nat}{cl:Nat->List Cl}
theorem opOk_ctr:OpOk (mcC s):=by
 refine ⟨fun i c op j q h=>?_,fun q x op j q' h=>?_,fun q op j q' h=>by cases h⟩
 ·unfold mcC at h
  simp only at h
  split at h
  ·cases h;exact ⟨by decide,by decide⟩
  ·split at h
   ·cases h;exact ⟨by decide,by decide⟩
   ·cases h
 ·unfold mcC at h
  simp only at h
  split at h
  ·cases h;exact ⟨by decide,by decide⟩
  ·split at h
   ·simp only at h
    split at h
    ·cases h
    ·cases h;exact ⟨by decide,by decide⟩
   ·split at h
    ·simp only[nx2] at h
     split at h<;>cases h<;>exact ⟨by decide,by decide⟩
    ·simp only[nx3] at h
     split at h
     ·cases h;exact ⟨by decide,by decide⟩
     ·split at h
      ·cases h
      ·cases h;exact ⟨by decide,by decide⟩
theorem mcC_waitF {i:Nat}{c:Cl}{j:Nat}{q:Q}(h:(mcC s).start i c=.wait j q):False:=by
 unfold mcC at h
 simp only at h
 split at h
 ·cases h
 ·split at h<;>cases h
theorem fw_two {i:Nat}{rest:List Cl}{ii:Nat}{sk:Bool}{ans:List (Int×Int)}{X:List Stp}{l:Ph}(h:Fw (mcC s) i false rest ii sk ans X l):sk=false->(∀ c∈rest,c.po=1∨c.po=2)->l.ans=ans∧(X=[]∨(X=[⟨i,-1,9,ii,0⟩]∧∃ c,rest.head? = some c)):=by
 intro hsk hops
 cases h with
 |nil=>exact ⟨rfl,.inl rfl⟩
 |skip=>cases hsk
 |@ans c _ _ _ _ _ _ _ hst hF =>
  obtain ⟨_,_,h1,h2⟩:=mcC_ans hst
  rcases hops c (List.mem_cons_self ..) with q|q
  ·exact absurd q h1
  ·exact absurd q h2
 |turn hst=>exact ⟨rfl,.inr ⟨rfl,_,rfl⟩⟩
 |wait hst=>exact (mcC_waitF hst).elim
 |waits hst hs=>cases hs
theorem rep_stay (L:List Stp) (i j:Nat) {op:Int}(x:Int) (hop:op=1∨op=4):(rep cl (L++[⟨i,j,op,x,x⟩])).total=(rep cl L).total∧(rep cl (L++[⟨i,j,op,x,x⟩])).seen=(rep cl L).seen:=by
 rw[rep_one]
 rcases hop with rfl|rfl
 ·rw[rs_look];exact ⟨rfl,rfl⟩
 ·rw[rs_vain];exact ⟨rfl,rfl⟩
theorem ctr_sn (h0:0<s) (hops:∀ i,i<N->∀ c∈cl i,c.po=1∨c.po=2) {v v1:Vw}(h:CI N s cl v) (h1:CI N s cl v1) (hN:NI N cl v) (hA:Sn9 N cl (fun i=>(v.l i).ans) v.L) (m:Mv (mcC s) N v v1):Sn9 N cl (fun i=>(v1.l i).ans) v1.L:=by
 cases m with
 |stuck hs hall hex e =>
  obtain ⟨i,hi,j,q,r,k,a,hl⟩:=hex
  have:=h.seat i hi
  rw[hl] at this
  exact this.elim
 |wake i j q rest ii ans X l' hi hl _ _ _ _ _ _ _ _ =>
  have:=h.seat i hi
  rw[hl] at this
  exact this.elim
 |free i j q rest ii ans X l' hi hl _ _ _ _ _ _ _ =>
  have:=h.seat i hi
  rw[hl] at this
  exact this.elim
 |turn i op j q rest ii ans X l' hi hl ho e hK hst hchg hL =>
  have hs:=h.seat i hi
  have hn:=hN.thr i hi
  rw[hl] at hs hn
  obtain ⟨hrest,hcall,htot,hj,c,hc,h5⟩:=hs
  obtain ⟨hlen,hn,hlt,_,hno,h9,h10⟩:=hn
  have hpc:=po_of hc
  have hlen:ans.length=(cl i).length:=hlen
  have hno:No4 ans ii:=hno
  have hE:∀ A st B,v1.L=A++st :: B->StC N s cl v1.l A st:=h1.ends
  have stay:∀ (x:Int),(op=1∨op=4)->v1.L=v.L++[⟨i,j,op,x,x⟩]->l'.ans=ans->Sn9 N cl (fun i=>(v1.l i).ans) v1.L:=fun x k1 k2 k5=>by
   rw[k2,e.l,ans_upd,k5,upd_self (by rw[hl];rfl)]
   obtain ⟨r1,r2⟩:=rep_stay (cl:=cl) v.L i j x k1
   exact .other hA h9 h10 r1 r2
  have done:∀ (x:Stp) (yy:Int) (X':List Stp),x.op≠9->x.op≠10->Fw (mcC s) i false rest (ii+1) ((0:Int)==4) (ans.set ii (0,yy)) X' l'->v1.L=v.L++x :: ⟨i,-1,10,ii,0⟩ :: X' ->
   (Sn9 N cl (upd (fun k=>(v.l k).ans) i (ans.set ii (0,yy))) v.L->(upd (fun k=>(v.l k).ans) i (ans.set ii (0,yy)) i)[ii]? = some (0,yy)->Sn9 N cl (upd (fun k=>(v.l k).ans) i (ans.set ii (0,yy))) ((v.L++[x])++[⟨i,-1,10,ii,0⟩]))->Sn9 N cl (fun i=>(v1.l i).ans) v1.L:=fun x yy X' k9 k10 kf kL kk=>by
   obtain ⟨f1,f2⟩:=fw_two kf rfl (fun c hc'=>hops i hi c (by rw[hrest] at hc';exact List.mem_of_mem_drop hc'))
   rw[kL,e.l,ans_upd,f1]
   have b:=kk (hA.mono fun j k hk=>by
    by_cases ej:j=i
    ·subst ej
     rw[upd_same,List.getElem?_set,if_neg (by omega),hl]
     rfl
    ·rw[upd_ne _ _ ej]) (by rw[upd_same,List.getElem?_set,if_pos rfl,if_pos (by omega)])
   rcases f2 with rfl|⟨rfl,c',hc'⟩
   ·rw[List.append_assoc] at b;exact b
   ·have hc2:(cl i)[ii+1]? = some c':=by
     rw[hrest,List.head?_drop] at hc'
     exact hc'
    have b2:=b.beg (i:=i) (k:=ii+1) (c:=c') hi (by rw[Ce _ _ _ _ (.inr rfl),Fb k9 k10,hn];omega) hc2 (by rw[upd_same];exact hno.next (show ¬ (0:Int)=4 by decide))
    simp only[List.append_assoc,List.singleton_append,List.cons_append,List.nil_append] at b2
    exact b2
  rcases h5 with ⟨p1,rfl,rfl⟩|⟨p1,rfl,y,rfl⟩|⟨p2,rfl,l,rfl,hF⟩|⟨p2,rfl,d,snap,rfl,hF⟩
  · -- an Add looks
   generalize v.K.getD j 0=x at *
   have e3:(mcC s).turn (0,[((i % s:Nat):Int),c.ca.tmod 1000]) x=((x,x),x,.turn 4 (((i % s:Nat):Int)).toNat (1,[((i % s:Nat):Int),c.ca.tmod 1000,x])):=rfl
   rw[e3] at ho hK hL
   cases ho
   exact stay x (.inl rfl) hL rfl
  · -- an Add tries
   generalize v.K.getD j 0=x at *
   by_cases hx:x=y
   ·subst hx
    have e3:(mcC s).turn (1,[((i % s:Nat):Int),c.ca.tmod 1000,x]) x=((x,R1.addI x (c.ca.tmod 1000)),R1.addI x (c.ca.tmod 1000),.ans 0 0):=by
     simp[mcC,Bv,-Int.natCast_emod]
    rw[e3] at ho hK hL
    rw[h.stk] at ho
    have hp:poOf cl i ((rep cl v.L).call i)=1:=by rw[hcall,hpc.1];exact p1
    have hca:caOf cl i ((rep cl v.L).call i)=c.ca:=by rw[hcall];exact hpc.2
    have hrs:=rs_cas (cl:=cl) (r:=rep cl v.L) (i:=i) j x (R1.addI x (c.ca.tmod 1000)) hp (R1.addI_ne x _)
    cases ho with
    |ans hfw =>
     refine done ⟨i,j,4,x,R1.addI x (c.ca.tmod 1000)⟩ 0 _ h9 h10 hfw hL fun b1 b2=>.add b1 hi hn hc p1 b2 h9 h10 ?_ ?_
     ·rw[rep_one,hrs,hca]
     ·rw[rep_one,hrs,hca]
   ·have e3:(mcC s).turn (1,[((i % s:Nat):Int),c.ca.tmod 1000,y]) x=((x,x),x,.turn 1 (((i % s:Nat):Int)).toNat (0,[((i % s:Nat):Int),c.ca.tmod 1000])):=by
     simp[mcC,Bv,hx,-Int.natCast_emod]
    rw[e3] at ho hK hL
    cases ho
    exact stay x (.inr rfl) hL rfl
  · -- a Sum looks
   generalize v.K.getD j 0=x at *
   have e3:(mcC s).turn (2,l) x=((x,x),x,nx2 s (l++[x])):=rfl
   rw[e3] at ho hK hL
   have ho:On (mcC s) i v.stk rest ii ans (nx2 s (l++[x])) X l':=ho
   unfold nx2 at ho
   split at ho
   ·cases ho;exact stay x (.inl rfl) hL rfl
   ·cases ho;exact stay x (.inl rfl) hL rfl
  · -- it looks again
   generalize v.K.getD j 0=x at *
   have e3:(mcC s).turn (3,d) x=((x,x),x,nx3 s (d++[x])):=rfl
   rw[e3] at ho hK hL
   have ho:On (mcC s) i v.stk rest ii ans (nx3 s (d++[x])) X l':=ho
   unfold nx3 at ho
   split at ho
   ·cases ho;exact stay x (.inl rfl) hL rfl
   ·split at ho
    ·rw[h.stk] at ho
     generalize R1.totI ((d++[x]).drop s)=y at ho
     cases ho with
     |@ans _ _ X' _ hfw =>
      obtain ⟨r1,r2⟩:=rep_stay (cl:=cl) v.L i j x (op:=1) (.inl rfl)
      refine done ⟨i,j,1,x,x⟩ y _ h9 h10 hfw hL fun b1 b2=>.sum (.other b1 h9 h10 r1 r2) hi (by rw[Fb h9 h10];exact hn) hc p2 b2 ?_
      obtain ⟨i',t1,_,_,t2⟩:=hE (v.L++[⟨i,j,1,x,x⟩]) ⟨i,-1,10,ii,0⟩ X' (by rw[hL,List.append_assoc];rfl)
      have t1:(i:Int)=i':=t1
      obtain rfl:i=i':=by omega
      obtain ⟨k',c',q1,q2,_,q3⟩:=t2 rfl
      have q1:(ii:Int)=k':=q1
      obtain rfl:ii=k':=by omega
      obtain rfl:c=c':=by rw[hc] at q2;exact Option.some.inj q2
      obtain ⟨f1,_⟩:=fw_two hfw rfl (fun c hc'=>hops i hi c (by rw[hrest] at hc';exact List.mem_of_mem_drop hc'))
      exact (q3 p2 (0,y) (by rw[e.l,upd_same,f1,List.getElem?_set,if_pos rfl,if_pos (by omega)])).1
    ·cases ho;exact stay x (.inl rfl) hL rfl
end
section
variable {s:Nat}{cl:Nat->List Cl}
theorem hi_sn {N:Nat}{k:Nat}{cs:List (List Cl)}{v v':Vw}(h:Hi (mcC s) k cs v v'):cs=(List.range' k cs.length).map cl->k+cs.length=N->v.stk=false->(∀ i,i<N->∀ c∈cl i,c.po=1∨c.po=2)->(∀ i,k≤i->nt v.L i=0)->Sn9 N cl (fun i=>(v.l i).ans) v.L->Sn9 N cl (fun i=>(v'.l i).ans) v'.L:=by
 induction h with
 |nil=>intro _ _ _ _ _ hA;exact hA
 |@cons k c cs v v1 v2 X l' hF e1 e2 e3 e4 e5 h ih =>
  intro hc hN hsk ho h0 hA
  rw[List.length_cons,List.range'_succ,List.map_cons] at hc
  obtain ⟨hc1,hc2⟩:=List.cons.inj hc
  subst hc1
  simp only[List.length_cons] at hN
  rw[hsk] at hF
  obtain ⟨f1,f2⟩:=fw_two hF rfl (ho k (by omega))
  have hA':Sn9 N cl (upd (fun i=>(v.l i).ans) k l'.ans) v.L:=hA.mono fun j q hq=>by
   by_cases e:j=k
   ·subst e;rw[h0 j (Nat.le_refl _)] at hq;omega
   ·rw[upd_ne _ _ e]
  refine ih hc2 (by omega) (e2.trans hsk) ho (fun i hi=>?_) ?_
  ·rw[e4]
   rcases f2 with rfl|⟨rfl,_⟩
   ·rw[List.append_nil];exact h0 i (by omega)
   ·rw[C9 _ (by omega)];exact h0 i (by omega)
  ·rw[e4,e5.l,ans_upd]
   rcases f2 with rfl|⟨rfl,c',hc'⟩
   ·rw[List.append_nil];exact hA'
   ·exact hA'.beg (k:=0) (by omega) (by rw[h0 k (Nat.le_refl _)]) (by rw[←List.head?_eq_getElem?];exact hc') (fun q a hq _=>by omega)
theorem ctr_calls (h0:0<s) (h16:s≤16) {ss:List (Scr (mcC s))}{n:Nat}{S S1:TS}{l0 l1:Nat->Ph}{K:List (Nat×Int)}{m:Nat}{p':PSt}(hl0:∀ i,l0 i=.done [])
 (hn:ss.length=n) (hn8:n≤8) (hcs:((List.range n).map fun i=>(cl i).length).sum≤512) (hss:ss.map (·.calls)=(List.range' 0 n).map cl) (ha:∀ x∈ss,x.ans=List.replicate x.calls.length (0,0)) (hops:∀ i,i<n->∀ c∈cl i,c.po=1∨c.po=2)
 (ht:S.thr=[]) (htr:S.tr=[]) (hSn:S.n=0) (hsk:S.stk=false) (hK:K.map (·.2)=List.replicate s 0)
 (hH:Hires (mcC s) 0 ss S l0 S1 l1) (hT:Turns (mcC s) m ⟨S1,K,l1⟩ p') :
 ∃ L,p'.S.tr=flat L∧p'.S.n=L.length∧Fit9 n cl (fun i=>(p'.l i).ans) L∧Sn9 n cl (fun i=>(p'.l i).ans) L∧∀ i,i<n->(p'.l i).ans.length=(cl i).length:=by
 let v0:Vw:=⟨List.replicate s 0,false,S.chg,fun i=>(thrI S i).se,l0,[]⟩
 have hs0:Seen ⟨S,K,l0⟩ v0:=⟨hK.symm,hsk.symm,rfl,fun i=>rfl,rfl,htr,hSn,fun i t h=>by rw[ht] at h;cases h⟩
 obtain ⟨v1,hi1,hs1⟩:=hires_hi (K:=K) hH v0 (by rw[ht];rfl) ha hs0
 rw[hss] at hi1
 have hc0:CI 0 s cl v0:=⟨by simp[v0],rfl,fun i hi=>by omega,fun i hi=>by omega,rfl,fun i hi=>(by cases hi),by
  show (0:Int)=((List.replicate s 0).map R1.amtS).sum
  rw[List.map_replicate,R1.amtS_zero]
  induction s with
  |zero=>rfl
  |succ k _=>simp,fun x hx=>by
  have:x=0:=(List.mem_replicate.1 hx).2
  subst this
  have e1:=R1.amtS_zero
  have e2:=R1.ver_zero
  rw[e1,e2]
  omega,fun A st B e=>by simp[v0] at e⟩
 have hci:=hi_ctr h0 hi1 (by simp) hc0
 rw[List.length_map,List.length_range',Nat.zero_add] at hci
 have hni:NI n cl v1:=hi_note opOk_ctr hi1 (by simp) (by simp) .nil (fun i hi=>by omega) (fun _ _=>rfl)
 have hsi:Sn9 n cl (fun i=>(v1.l i).ans) v1.L:=hi_sn (N:=n) hi1 (by simp) (by simp) rfl hops (fun _ _=>rfl) .nil
 obtain ⟨a1,a2,a3,a4⟩:=Mf.hires_gd (metC s h0 h16) hH (by rw[ht];rfl) (by omega) (fun i t h=>by rw[ht] at h;cases h)
 have g:Mf.Gd (metC s h0 h16) ⟨S1,K,l1⟩:=⟨by show S1.thr.length≤8;omega,a2⟩
 obtain ⟨v',hI,hs',_,hd⟩:=Mf.turns_mv (metC s h0 h16) (N:=n) (Inv:=fun v=>CI n s cl v∧NI n cl v∧Sn9 n cl (fun i=>(v.l i).ans) v.L) (fun v v1 hv hm=>⟨ctr_mv h0 h16 hcs hv.1 hm,note_mv opOk_ctr hv.2.1 hm,ctr_sn h0 hops hv.1 (ctr_mv h0 h16 hcs hv.1 hm) hv.2.1 hv.2.2 hm⟩) hT v1 (by show S1.thr.length=n;omega) g hs1 ⟨hci,hni,hsi⟩
 refine ⟨v'.L,hs'.tr,hs'.n,?_,?_,fun i hi=>?_⟩
 ·rw[←hs'.l];exact hI.2.1.fit
 ·rw[←hs'.l];exact hI.2.2
 ·rw[←hs'.l];exact (hI.2.1.thr i hi).1
end
theorem okL_acc (B:Int) (hB:B≤1000000000) (l:List His.Ev):∀ (s:Int),okL s l->1000*(l.length:Int) - B≤s->s≤B - 1000*(l.length:Int)->Acc (A0 3 0) [s] l:=by
 induction l with
 |nil=>intro _ _ _ _;trivial
 |cons e r ih =>
  intro s h h1 h2
  obtain ⟨h3,h4⟩:=h
  have hb:=am_in e
  simp only[List.length_cons] at h1 h2
  have hr:=ih (s+am e) h4 (by omega) (by omega)
  rcases h3 with ⟨o1,a1⟩|⟨o2,a2⟩
  ·have ham:am e=e.a.tmod 1000:=by unfold am;rw[if_pos o1]
   rw[ham] at hb hr
   refine ⟨((0,0),[wrap64 (s+e.a.tmod 1000)]),by simp[A0,o1],fun _=>a1.symm,?_⟩
   show Acc (A0 3 0) [wrap64 (s+e.a.tmod 1000)] r
   rw[IntWalk.wrap64_in _ (by omega)]
   exact hr
  ·have ham:am e=0:=by unfold am;rw[if_neg (by rw[o2];decide)]
   rw[ham,Int.add_zero] at hr
   exact ⟨((0,s),[s]),by simp[A0,o2],fun _=>a2.symm,hr⟩
theorem nodup_len:∀ (n:Nat) (l:List Nat),l.Nodup->(∀ m∈l,m<n)->l.length≤n
 |0,[],_,_=>Nat.le_refl _
 |0,m :: _,_,h=>absurd (h m (List.mem_cons_self ..)) (Nat.not_lt_zero _)
 |n+1,l,hn,h=>by
  by_cases e:n∈l
  ·have:=nodup_len n (l.erase n) (hn.erase n) fun m hm=>by
    have h1:=(hn.mem_erase_iff).1 hm
    have:=h m h1.2
    have:=h1.1
    omega
   rw[List.length_erase_of_mem e] at this
   omega
  ·have:=nodup_len n l hn fun m hm=>by
    have:=h m hm
    have:m≠n:=fun q=>e (q▸hm)
    omega
   omega
theorem LC.lin {cl:Nat->List Cl}{an:Nat->List (Int×Int)}{L:List Stp}{E:List His.Ev}{id:Nat->Nat}{ord R:List Nat}(hI:EvI cl an triv () L E id ord ()) (h:LC cl L E id ord R) (h12:E.length≤12):Lin (A0 3 0) (Cc 3 0) E:=by
 have hg:∀ m,m<E.length->E[m]? = some (E.getD m ev0):=fun m hm=>by rw[List.getD_eq_getElem?_getD,List.getElem?_eq_getElem hm];rfl
 have hlt:∀ m∈R,m<E.length:=fun m hm=>by
  obtain ⟨e,he,_⟩:=in_len hI h.perm hm
  exact (List.getElem?_eq_some_iff.1 he).1
 have hnd:R.Nodup:=h.perm.nodup_iff.2 hI.nodup
 have hlen:R.length≤12:=Nat.le_trans (nodup_len _ R hnd hlt) h12
 refine ⟨R,hnd,hlt,fun m hm ho=>h.perm.mem_iff.2 (hI.all m _ (hg m hm) ho),h.rel.imp fun hr=>?_,?_⟩
 ·unfold Bb
  rw[Bool.and_eq_false_iff]
  right
  refine decide_eq_false ?_
  have:=hr.1
  omega
 ·exact okL_acc 1000000 (by decide) _ 0 h.ok (by rw[List.length_map];omega) (by rw[List.length_map];omega)
theorem ops_of {n:Nat}{cl:Nat->List Cl}{m:Int}(h:∀ i,i<(scL n cl).length->∀ k,k<((scL n cl).getD i []).length->R3.OpIn m (((scL n cl).getD i []).getD k R3.Et)):∀ i,i<n->∀ c∈cl i,1≤c.po∧c.po≤m:=fun i hi c hc=>by
 obtain ⟨k,hk,e⟩:=List.mem_iff_getElem.1 hc
 have:=h i (by rw[Ec];exact hi) k (by rw[scL_get cl hi,List.length_map];exact hk)
 rw[scL_get cl hi] at this
 have e2:((cl i).map toCall).getD k R3.Et=toCall c:=by simp[List.getD_eq_getElem?_getD,hk,e]
 rw[e2] at this
 exact this
theorem ctr_lin {s:Nat}{cl:Nat->List Cl}(h0:0<s) (h16:s≤16) {ss:List (Scr (mcC s))}{N:Nat}{S S1:TS}{l0 l1:Nat->Ph}{K:List (Nat×Int)}(hl0:∀ i,l0 i=.done [])
 (hn:ss.length=N) (hn8:N≤8) (hcs:((List.range N).map fun i=>(cl i).length).sum≤512) (hss:ss.map (·.calls)=(List.range' 0 N).map cl) (ha:∀ x∈ss,x.ans=List.replicate x.calls.length (0,0))
 (ht:S.thr=[]) (htr:S.tr=[]) (hSn:S.n=0) (hsk:S.stk=false) (hK:K.map (·.2)=List.replicate s 0) (hH:Hires (mcC s) 0 ss S l0 S1 l1)
 {n:Nat} {p':PSt} (hT:Turns (mcC s) n ⟨S1,K,l1⟩ p') {L:List Stp} (hL:p'.S.tr=flat L)
 (hop:∀ i,i<(scL N cl).length->∀ k,k<((scL N cl).getD i []).length->R3.OpIn 2 (((scL N cl).getD i []).getD k R3.Et)) (h12:R3.sumL (scL N cl) (scL N cl).length≤12) :
 R3.Alike (scL N cl) (anL N fun i=>(p'.l i).ans)∧∀ r,R3.Ofs (scL N cl) (anL N fun i=>(p'.l i).ans) 0 (L.map Eu) R3.st0 r->∃ s,r=some s∧R3.El 3 0∧s.evs.length≤12∧Hist s.evs∧Lin (A0 3 0) (Cc 3 0) s.evs:=by
 obtain ⟨L',t1,t2,hF,hA,hl⟩:=ctr_calls h0 h16 hl0 hn hn8 hcs hss ha (fun i hi c hc=>by have:=ops_of hop i hi c hc;omega) ht htr hSn hsk hK hH hT
 obtain rfl:L'=L:=flat_inj (t1.symm.trans hL)
 obtain ⟨E,id,ord,R,hE,hI,hR⟩:=sn_lin hA
 have hlen:=Nat.le_trans (ev_le hE hF) h12
 exact ⟨alike_of hl,fun r hr=>⟨_,ofs_is hl hE hF hr,.inr (.inl rfl),hlen,hI.hist,hR.lin hI hlen⟩⟩
end Go.Proofs.YtcfmffmcammbjaaDoor.Gen
