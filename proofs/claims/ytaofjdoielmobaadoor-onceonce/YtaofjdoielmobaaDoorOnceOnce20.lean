/- Of the proof of OnceOnce. Part 20 of 35. (Joined, by program, and written short, of: OnI2, OnI3, OnR, OnR2, OnRun, GWp, GObj, GRK.) -/
import Derived.Test.YtaofjdoielmobaaDoorOnceOnce12
import Derived.Test.YtaofjdoielmobaaDoorOnceOnce17
import Derived.Test.YtaofjdoielmobaaDoorOnceOnce19
import Derived.Deep.LoopGhost
set_option linter.unusedSimpArgs false
set_option linter.unusedVariables false
set_option maxHeartbeats 4000000
set_option maxRecDepth 100000
namespace Go.Proofs.YtaofjdoielmobaaDoor.Gen
open Go Go.Lift Go.Conc Go.RowKit
open Go.ConcN (upd upd_same upd_ne)
section
variable {m N:Nat} {cl:Nat→List Cl} {v v1:Vw} {i:Nat} {l':Ph}
theorem OV.go (h:OV N m cl v) (e:Els i l' v v1) (hst:v1.stk=v.stk) (kl:v1.K.length=2*m) (cg:v1.chg.length=2*m) (hseat:SeatO m (cl i) v1.K (v1.se i) i l') (hend:EndO m (cl i) v1.K l')
 (hoth:∀ t,t≠i→t<N→SeatO m (cl t) v1.K (v.se t) t (v.l t)∧EndO m (cl t) v1.K (v.l t)) (hw:∀ o,o<m→WordO N m cl v1 o):OV N m cl v1:=by
 refine ⟨kl,cg,hst.trans h.stk,fun t ht=>?_,hw,fun t ht=>?_⟩
 ·by_cases ht':t=i
  ·subst ht';rw [e.l,upd_same];exact hseat
  ·rw [e.l,upd_ne _ _ ht',e.oth t ht'];exact (hoth t ht' ht).1
 ·by_cases ht':t=i
  ·subst ht';rw [e.l,upd_same];exact hend
  ·rw [e.l,upd_ne _ _ ht'];exact (hoth t ht' ht).2
theorem OV.same (h:OV N m cl v) (hi:i<N) (e:Els i l' v v1) (hst:v1.stk=v.stk) (hK:v1.K=v.K) (hg:v1.chg=v.chg) (hseat:SeatO m (cl i) v.K (v1.se i) i l') (hend:EndO m (cl i) v.K l') (hb:∀ o,BldP o (v.l i)→BldP o l'):OV N m cl v1:=by
 refine h.go e hst (by rw [hK];exact h.kl) (by rw [hg];exact h.cgl) (by rw [hK];exact hseat) (by rw [hK];exact hend) (fun t _ ht=>by rw [hK];exact ⟨h.seat t ht,h.ends t ht⟩) (fun o ho=>?_)
 unfold WordO
 rw [hK,hg]
 rcases h.word o ho with w|⟨t,w1,w2,w3,w4⟩|w
 ·exact .inl w
 ·refine .inr (.inl ⟨t,w1,w2,w3,?_⟩)
  rw [e.l]
  by_cases ht:t=i
  ·subst ht;rw [upd_same];exact hb o w4
  ·rw [upd_ne _ _ ht];exact w4
 ·exact .inr (.inr w)
theorem bld_not {o:Nat} {op:Int} {j:Nat} {q:Q} {r:List Cl} {k:Nat} {a:List (Int×Int)} (h5:q.1≠5) (h6:q.1≠6) (h1:q.1=1→dA q=0):¬ BldP o (.turn op j q r k a):=fun hb=>by
 obtain ⟨op',j',q',r',k',a',e,_,e2⟩:=hb
 cases e
 rcases e2 with e2|e2|⟨e2,e3⟩
 ·exact h5 e2
 ·exact h6 e2
 ·have:=h1 e2;omega
theorem chg_nat (g:List Int) (j:Nat):chgOf g (j:Int)=g.getD j 0:=by
 unfold chgOf
 rw [if_neg (by omega)]
 rfl
theorem dA_0 (n o:Nat) (k b:Int) (d i:Nat):dA (n,lO o k b d i)=d:=by have:=dA_l n o k b d i [];rwa [List.append_nil] at this
theorem oA_0 (n o:Nat) (k b:Int) (d i:Nat):oA (n,lO o k b d i)=o:=by have:=oA_l n o k b d i [];rwa [List.append_nil] at this
theorem ans_go {cs:List Cl} {K:List Int} {c:Cl} {ii:Nat} {rest:List Cl} {ans:List (Int×Int)} {a:Int×Int} {X:List Stp} {se:Int} (hfw:Fw (mcO m) i false rest (ii+1) (a.1==4) (ans.set ii a) X l') (h4:a.1≠4) (hal:ans.length=cs.length) (hr:rest=cs.drop (ii+1)) (hc:cs[ii]? = some c)
 (hst:R1.stI (wdO K (which c.ca m))=2) (ha:a=(R1.codI (wdO K (which c.ca m)),vlO K (which c.ca m)))
 (hold:∀ k c,k<ii→cs[k]? = some c→isO c→R1.stI (wdO K (which c.ca m))=2∧ans[k]? = some (R1.codI (wdO K (which c.ca m)),vlO K (which c.ca m))) :
 SeatO m cs K se i l'∧EndO m cs K l'∧∀ o,¬ BldP o l':=by
 have hlt:=(List.getElem?_eq_some_iff.1 hc).1
 obtain ⟨q1,q2,q3,q4,q5⟩:=fw_O hfw (by simpa using h4) hr hlt (by rw [List.length_set];exact hal) K se
 refine ⟨q1,fun k c' h1 h2 h3=>?_,q5⟩
 by_cases hk:k<ii
 ·obtain ⟨p1,p2⟩:=hold k c' hk h2 h3
  exact ⟨p1,by rw [q4 k (by omega),List.getElem?_set,if_neg (by omega)];exact p2⟩
 ·by_cases hk2:k=ii
  ·subst hk2
   rw [hc] at h2
   cases h2
   refine ⟨hst,?_⟩
   rw [q4 k (by omega),List.getElem?_set,if_pos rfl,if_pos (by omega),ha]
  ·exact absurd h3 (q3 k c' (by omega) h1 h2)
theorem oi_mv (h0:0<m) (hN:N≤256) (h:OV N m cl v) (hm:Mv (mcO m) N v v1):OV N m cl v1:=by
 cases hm with
 |stuck hs hall hex _ =>
  obtain ⟨t,ht,j,q,r,k,a,hl⟩:=hex
  exfalso
  have hse:=h.seat t ht
  rw [hl] at hse
  obtain ⟨_,_,c,_,_,hj,_,hs1⟩:=hse
  have hch:chgOf v.chg j=v.se t:=by
   rcases hall t ht with ⟨a',e⟩|⟨j',q',r',k',a',e,e2⟩
   ·rw [hl] at e;cases e
   ·rw [hl] at e;cases e;exact e2
  have ho:=which_lt c.ca h0
  have hg:v.chg.getD (2*which c.ca m) 0=1:=by
   rw [hs1,hj,chg_nat] at hch
   exact hch
  rcases h.word _ ho with ⟨_,w⟩|⟨b,w1,_,_,op,j',q',r',k',a',e,_⟩|⟨e,_,w,_⟩
  ·rw [w] at hg;cases hg
  ·rcases hall b w1 with ⟨a'',e2⟩|⟨j'',q'',r'',k'',a'',e2,_⟩
   ·rw [e] at e2;cases e2
   ·rw [e] at e2;cases e2
  ·rw [w] at hg;cases hg
 |turn i op j q rest ii ans X l' hi hl ho e hK hst hg hL =>
  rw [h.stk,Mc.set_false] at ho
  have hs:=h.seat i hi
  have hen:=h.ends i hi
  rw [hl] at hs hen
  obtain ⟨hal,hr,c,hc,hco,hse⟩:=hs
  have hold:∀ k c,k<ii→(cl i)[k]? = some c→isO c→R1.stI (wdO v.K (which c.ca m))=2∧ans[k]? = some (R1.codI (wdO v.K (which c.ca m)),vlO v.K (which c.ca m)):=hen
  have hom:=which_lt c.ca h0
  have hw:=h.word _ hom
  have hlw:2*which c.ca m<v.K.length:=by rw [h.kl];omega
  have hlv:2*which c.ca m+1<v.K.length:=by rw [h.kl];omega
  have hgw:2*which c.ca m<v.chg.length:=by rw [h.cgl];omega
  rcases hse with ⟨rfl,rfl,rfl⟩|⟨rfl,rfl,rfl⟩|⟨rfl,rfl,rfl,h2⟩|⟨rfl,rfl,rfl,hp4,hwi⟩|⟨rfl,rfl,rfl,hwi⟩|⟨rfl,rfl,rfl,hwi,hvi⟩
  · -- it looks
   rw [turn1] at ho hK hg
   have hK:v1.K=v.K:=hK.trans set_getD'
   have hg:v1.chg=v.chg:=hg.trans (bump_same _ _ _)
   have hnb:∀ o,BldP o (v.l i)→BldP o l':=fun o hb=>by
    rw [hl] at hb
    exact absurd hb (bld_not (by simp) (by simp) (fun _=>dA_0 _ _ _ _ _ _))
   have ho:On (mcO m) i false rest ii ans (lookO (which c.ca m) (c.po - 1) c.cb 0 i (wdO v.K (which c.ca m))) X l':=ho
   unfold lookO at ho
   rcases hw with ⟨w,_⟩|⟨t,w1,w2,w3,w4⟩|⟨e2,w1,w2,w3,w4,w5⟩
   ·rw [w,if_neg (by rw [st0];decide),if_pos st0] at ho
    cases ho
    exact h.same hi e hst hK hg ⟨hal,hr,c,hc,hco,.inr (.inl ⟨rfl,rfl,rfl⟩)⟩ hen hnb
   ·have hti:t≠i:=fun q=>by
     subst q
     rw [hl] at w4
     exact absurd w4 (bld_not (by simp) (by simp) (fun _=>dA_0 _ _ _ _ _ _))
    rw [w2,if_neg (by rw [st1];decide),if_neg (by rw [st1];decide),if_neg (by rw [who1 (by omega)];omega)] at ho
    cases ho
    refine h.same hi e hst hK hg ⟨hal,hr,c,hc,hco,rfl,rfl,?_⟩ hen hnb
    rw [e.own _ _ _ _ _ rfl,hg,chg_nat]
    exact w3
   ·rw [if_pos (by rw [w1];exact st2 e2)] at ho
    cases ho
    exact h.same hi e hst hK hg ⟨hal,hr,c,hc,hco,.inr (.inr (.inl ⟨rfl,rfl,rfl,by rw [w1];exact st2 e2⟩))⟩ hen hnb
  · -- it tries
   rw [turn3] at ho hK hg
   have hnb:∀ o,BldP o (v.l i)→BldP o l':=fun o hb=>by
    rw [hl] at hb
    exact absurd hb (bld_not (by simp) (by simp) (fun q=>by simp at q))
   by_cases hx:wdO v.K (which c.ca m)=0
   ·rw [if_pos hx] at ho hK hg
    have hK:v1.K=v.K.set (2*which c.ca m) (R1.wordI 1 i 0):=hK
    have hg:v1.chg=bump v.chg (2*which c.ca m) 0 (R1.wordI 1 i 0):=hg
    have ho:On (mcO m) i false rest ii ans (comeO (which c.ca m) (c.po - 1) c.cb 0 i) X l':=ho
    have hne:(0:Int)≠R1.wordI 1 i 0:=fun q=>by
     have:=congrArg R1.stI q
     rw [st0,st1] at this
     cases this
    have sty:Sty (which c.ca m) i v.K v1.K:=⟨fun o' q=>by
     rw [hK]
     unfold wdO vlO
     rw [getD_set hlw,getD_set hlw,if_neg (by omega),if_neg (by omega)]
     exact ⟨rfl,rfl⟩,.inl hx⟩
    have hw1:wdO v1.K (which c.ca m)=R1.wordI 1 i 0:=by rw [hK];unfold wdO;rw [getD_set hlw,if_pos rfl]
    have key:SeatO m (cl i) v1.K (v1.se i) i l'∧EndO m (cl i) v1.K l'∧BldP (which c.ca m) l':=by
     unfold comeO at ho
     split at ho
     ·rename_i h3
      cases ho
      refine ⟨⟨hal,hr,c,hc,hco,.inr (.inr (.inr (.inl ⟨rfl,rfl,rfl,by omega,hw1⟩)))⟩,hen.sta sty,_,_,_,_,_,_,rfl,oA_0 _ _ _ _ _ _,.inr (.inr ⟨rfl,dA_0 _ _ _ _ _ _⟩)⟩
     ·rename_i h3
      cases ho
      have ea:actR c=cmO (c.po - 1) c.cb:=by unfold actR;rw [if_neg (by omega)]
      refine ⟨⟨hal,hr,c,hc,hco,.inr (.inr (.inr (.inr (.inl ⟨rfl,rfl,by rw [ea],hw1⟩))))⟩,hen.sta sty,_,_,_,_,_,_,rfl,oA_l _ _ _ _ _ _ _,.inl rfl⟩
    refine h.go e hst (by rw [hK,List.length_set];exact h.kl) (by rw [hg,bump_len];exact h.cgl) key.1 key.2.1 (fun t q ht=>⟨(h.seat t ht).sta sty (by omega) (by omega) q rfl,(h.ends t ht).sta sty⟩) (fun o ho'=>?_)
    by_cases q:o=which c.ca m
    ·subst q
     refine .inr (.inl ⟨i,hi,hw1,?_,by rw [e.l,upd_same];exact key.2.2⟩)
     rw [hg,bump_get hgw hne,if_pos rfl]
     rcases hw with ⟨_,w⟩|⟨t,w1,w2,_⟩|⟨e2,w1,_⟩
     ·rw [w];simp [wrap64]
     ·rw [hx] at w2
      have:=congrArg R1.stI w2
      rw [st0,st1] at this
      cases this
     ·rw [hx] at w1
      have:=congrArg R1.stI w1
      rw [st0,st2] at this
      cases this
    ·unfold WordO
     rw [(sty.oth o q).1,(sty.oth o q).2,hg,bump_far (by omega)]
     rcases h.word o ho' with w|⟨t,w1,w2,w3,w4⟩|w
     ·exact .inl w
     ·refine .inr (.inl ⟨t,w1,w2,w3,?_⟩)
      rw [e.l]
      by_cases ht:t=i
      ·subst ht;rw [upd_same];exact hnb o w4
      ·rw [upd_ne _ _ ht];exact w4
     ·exact .inr (.inr w)
   ·rw [if_neg hx] at ho hK hg
    have hK:v1.K=v.K:=hK.trans set_getD'
    have hg:v1.chg=v.chg:=hg.trans (bump_same _ _ _)
    have ho:On (mcO m) i false rest ii ans (.turn 1 (2*which c.ca m) (1,lO (which c.ca m) (c.po - 1) c.cb 0 i)) X l':=ho
    cases ho
    exact h.same hi e hst hK hg ⟨hal,hr,c,hc,hco,.inl ⟨rfl,rfl,rfl⟩⟩ hen hnb
  · -- it reads the value
   rw [turn2] at ho hK hg
   have hK:v1.K=v.K:=hK.trans set_getD'
   have hg:v1.chg=v.chg:=hg.trans (bump_same _ _ _)
   have ho:On (mcO m) i false rest ii ans (.ans (R1.codI (wdO v.K (which c.ca m))) (vlO v.K (which c.ca m))) X l':=ho
   have h4:R1.codI (wdO v.K (which c.ca m))≠4:=by
    rcases hw with ⟨w,_⟩|⟨t,_,w,_⟩|⟨e2,w1,_,w3,w4,_⟩
    ·rw [w,st0] at h2;cases h2
    ·rw [w,st1] at h2;cases h2
    ·rw [w1,cod2 w3];exact w4
   cases ho with
   |ans hfw =>
    obtain ⟨k1,k2,k3⟩:=ans_go (a:=(R1.codI (wdO v.K (which c.ca m)),vlO v.K (which c.ca m))) (se:=v1.se i) hfw h4 hal hr hc h2 rfl hold
    refine h.same hi e hst hK hg k1 k2 (fun o hb=>?_)
    rw [hl] at hb
    exact absurd hb (bld_not (by simp) (by simp) (fun q=>by simp at q))
  · -- the act asks again
   rw [turn1] at ho hK hg
   have hK:v1.K=v.K:=hK.trans set_getD'
   have hg:v1.chg=v.chg:=hg.trans (bump_same _ _ _)
   have ho:On (mcO m) i false rest ii ans (lookO (which c.ca m) (c.po - 1) c.cb 1 i (wdO v.K (which c.ca m))) X l':=ho
   unfold lookO at ho
   rw [hwi,if_neg (by rw [st1];decide),if_neg (by rw [st1];decide),if_pos (who1 (by omega))] at ho
   have ho:On (mcO m) i false rest ii ans (.turn 2 (2*which c.ca m+1) (5,lO (which c.ca m) (c.po - 1) c.cb 0 i++[70,72])) X l':=ho
   cases ho
   have ea:actR c=(70,72):=by unfold actR;rw [if_pos hp4]
   refine h.same hi e hst hK hg ⟨hal,hr,c,hc,hco,.inr (.inr (.inr (.inr (.inl ⟨rfl,rfl,by rw [ea],hwi⟩))))⟩ hen (fun o hb=>?_)
   rw [hl] at hb
   obtain ⟨op',j',q',r',k',a',e',e2,_⟩:=hb
   cases e'
   rw [oA_0] at e2
   exact ⟨_,_,_,_,_,_,rfl,(oA_l _ _ _ _ _ _ _).trans e2,.inl rfl⟩
  · -- the value is stored
   rw [turn5] at ho hK hg
   have hK:v1.K=v.K.set (2*which c.ca m+1) (actR c).2:=hK
   have ho:On (mcO m) i false rest ii ans (.turn 2 (2*which c.ca m) (6,lO (which c.ca m) (c.po - 1) c.cb 0 i++[(actR c).1,(actR c).2])) X l':=ho
   cases ho
   have sty:Sty (which c.ca m) i v.K v1.K:=⟨fun o' q=>by
    rw [hK]
    unfold wdO vlO
    rw [getD_set hlv,getD_set hlv,if_neg (by omega),if_neg (by omega)]
    exact ⟨rfl,rfl⟩,.inr hwi⟩
   have hw1:wdO v1.K (which c.ca m)=R1.wordI 1 i 0:=by rw [hK];unfold wdO;rw [getD_set hlv,if_neg (by omega)];exact hwi
   have hv1:vlO v1.K (which c.ca m)=(actR c).2:=by rw [hK];unfold vlO;rw [getD_set hlv,if_pos rfl]
   refine h.go e hst (by rw [hK,List.length_set];exact h.kl) (by rw [hg,bump_len];exact h.cgl) ⟨hal,hr,c,hc,hco,.inr (.inr (.inr (.inr (.inr ⟨rfl,rfl,rfl,hw1,hv1⟩))))⟩ (hen.sta sty) (fun t q ht=>⟨(h.seat t ht).sta sty (by omega) (by omega) q rfl,(h.ends t ht).sta sty⟩) (fun o ho'=>?_)
   have hbl:∀ o,BldP o (v.l i)→BldP o (v1.l i):=fun o hb=>by
    rw [hl] at hb
    obtain ⟨op',j',q',r',k',a',e',e2,_⟩:=hb
    cases e'
    rw [oA_l] at e2
    rw [e.l,upd_same]
    exact ⟨_,_,_,_,_,_,rfl,(oA_l _ _ _ _ _ _ _).trans e2,.inr (.inl rfl)⟩
   have hbt:∀ t o,BldP o (v.l t)→BldP o (v1.l t):=fun t o hb=>by
    by_cases ht:t=i
    ·subst ht;exact hbl o hb
    ·rw [e.l,upd_ne _ _ ht];exact hb
   by_cases q:o=which c.ca m
   ·subst q
    rcases hw with ⟨w,_⟩|⟨t,w1,w2,w3,w4⟩|⟨e2,w1,_⟩
    ·rw [w] at hwi
     have:=congrArg R1.stI hwi
     rw [st0,st1] at this
     cases this
    ·rw [hwi] at w2
     obtain rfl:=word1_inj (by omega) (by omega) w2
     exact .inr (.inl ⟨i,hi,hw1,by rw [hg,bump_far (by omega)];exact w3,hbt i _ w4⟩)
    ·rw [w1] at hwi
     have:=congrArg R1.stI hwi
     rw [st1,st2] at this
     cases this
   ·unfold WordO
    rw [(sty.oth o q).1,(sty.oth o q).2,hg,bump_far (by omega)]
    rcases h.word o ho' with w|⟨t,w1,w2,w3,w4⟩|w
    ·exact .inl w
    ·exact .inr (.inl ⟨t,w1,w2,w3,hbt t o w4⟩)
    ·exact .inr (.inr w)
  · -- the word is stored
   rw [turn6] at ho hK hg
   have hK:v1.K=v.K.set (2*which c.ca m) (R1.wordI 2 0 (actR c).1):=hK
   have hg:v1.chg=bump v.chg (2*which c.ca m) (wdO v.K (which c.ca m)) (R1.wordI 2 0 (actR c).1):=hg
   have ho:On (mcO m) i false rest ii ans (.ans (actR c).1 (actR c).2) X l':=ho
   obtain ⟨hcd,hc4⟩:=actR_code c
   have sty:Sty (which c.ca m) i v.K v1.K:=⟨fun o' q=>by
    rw [hK]
    unfold wdO vlO
    rw [getD_set hlw,getD_set hlw,if_neg (by omega),if_neg (by omega)]
    exact ⟨rfl,rfl⟩,.inr hwi⟩
   have hw1:wdO v1.K (which c.ca m)=R1.wordI 2 0 (actR c).1:=by rw [hK];unfold wdO;rw [getD_set hlw,if_pos rfl]
   have hv1:vlO v1.K (which c.ca m)=(actR c).2:=by rw [hK];unfold vlO;rw [getD_set hlw,if_neg (by omega)];exact hvi
   have hen1:EndO m (cl i) v1.K (.turn 2 (2*which c.ca m) (6,lOc m c 0 i++[(actR c).1,(actR c).2]) rest ii ans):=hen.sta sty
   cases ho with
   |ans hfw =>
    obtain ⟨k1,k2,k3⟩:=ans_go (a:=actR c) (K:=v1.K) (se:=v1.se i) hfw hc4 hal hr hc (by rw [hw1];exact st2 _) (by rw [hw1,hv1,cod2 hcd]) hen1
    refine h.go e hst (by rw [hK,List.length_set];exact h.kl) (by rw [hg,bump_len];exact h.cgl) k1 k2 (fun t q ht=>⟨(h.seat t ht).sta sty (by omega) (by omega) q rfl,(h.ends t ht).sta sty⟩) (fun o ho'=>?_)
    by_cases q:o=which c.ca m
    ·subst q
     have hne:wdO v.K (which c.ca m)≠R1.wordI 2 0 (actR c).1:=fun q=>by
      rw [hwi] at q
      have:=congrArg R1.stI q
      rw [st1,st2] at this
      cases this
     refine .inr (.inr ⟨_,hw1,?_,hcd,hc4,i,hi,ii,c,hc,hco,rfl,by rw [hv1]⟩)
     rw [hg,bump_get hgw hne,if_pos rfl]
     rcases hw with ⟨w,_⟩|⟨t,_,_,w3,_⟩|⟨e2,w1,_⟩
     ·rw [w] at hwi
      have:=congrArg R1.stI hwi
      rw [st0,st1] at this
      cases this
     ·rw [w3];simp [wrap64]
     ·rw [w1] at hwi
      have:=congrArg R1.stI hwi
      rw [st1,st2] at this
      cases this
    ·unfold WordO
     rw [(sty.oth o q).1,(sty.oth o q).2,hg,bump_far (by omega)]
     rcases h.word o ho' with w|⟨t,w1,w2,w3,w4⟩|w
     ·exact .inl w
     ·refine .inr (.inl ⟨t,w1,w2,w3,?_⟩)
      rw [e.l]
      by_cases ht:t=i
      ·subst ht
       rw [hl] at w4
       obtain ⟨op',j',q',r',k',a',e',e2,_⟩:=w4
       cases e'
       rw [oA_l] at e2
       exact absurd e2.symm q
      ·rw [upd_ne _ _ ht];exact w4
     ·exact .inr (.inr w)
 |wake i j q rest ii ans X l' hi hl hs hch ho e hK hst hg hL =>
  have hse:=h.seat i hi
  have hen:=h.ends i hi
  rw [hl] at hse hen
  obtain ⟨hal,hr,c,hc,hco,rfl,rfl,hs1⟩:=hse
  rw [woke4] at ho
  cases ho
  refine h.same hi e (hst.trans h.stk.symm) hK hg ⟨hal,hr,c,hc,hco,.inl ⟨rfl,rfl,rfl⟩⟩ hen (fun o hb=>?_)
  rw [hl] at hb
  obtain ⟨op',j',q',r',k',a',e',_⟩:=hb
  cases e'
 |free i j q rest ii ans X l' hi hl hs=>rw [h.stk] at hs;cases hs
end
section
variable {m:Nat} {cl:Nat→List Cl}
theorem hi_on {k:Nat} {cs:List (List Cl)} {v v':Vw} (h:Hi (mcO m) k cs v v'):cs=(List.range' k cs.length).map cl→OV k m cl v→OV (k+cs.length) m cl v':=by
 induction h with
 |nil=>exact fun _ hv=>hv
 |@cons k c cs v v1 v2 X l' hF e1 e2 e3 e4 e5 _ ih =>
  intro hc hv
  rw [List.length_cons,List.range'_succ,List.map_cons] at hc
  obtain ⟨hc1,hc2⟩:=List.cons.inj hc
  rw [hv.stk] at hF
  obtain ⟨q1,q2,q3,q4,q5⟩:=fw_O (cs:=cl k) hF rfl (by rw [hc1];rfl) (Nat.zero_le _) (by rw [List.length_replicate,hc1]) v.K (v1.se k)
  have hl:v1.l=upd v.l k l':=e5.l
  have:=ih hc2 ⟨by rw [e1];exact hv.kl,by rw [e3];exact hv.cgl,by rw [e2];exact hv.stk,fun i hi=>?_,fun o ho=>?_,fun i hi=>?_⟩
  ·rw [show k+(c :: cs).length=k+1+cs.length by simp only [List.length_cons];omega]
   exact this
  ·rw [hl,e1]
   by_cases hne:i=k
   ·subst hne;rw [upd_same];exact q1
   ·rw [upd_ne _ _ hne,e5.oth i hne];exact hv.seat i (by omega)
  ·unfold WordO
   rw [e1,e3]
   rcases hv.word o ho with w|⟨t,w1,w2,w3,w4⟩|⟨e,w1,w2,w3,w4,i,w5,w6⟩
   ·exact .inl w
   ·exact .inr (.inl ⟨t,by omega,w2,w3,by rw [hl,upd_ne _ _ (by omega)];exact w4⟩)
   ·exact .inr (.inr ⟨e,w1,w2,w3,w4,i,by omega,w6⟩)
  ·rw [hl,e1]
   by_cases hne:i=k
   ·subst hne
    rw [upd_same]
    exact fun j c' h1 h2 h3=>absurd h3 (q3 j c' (Nat.zero_le _) h1 h2)
   ·rw [upd_ne _ _ hne];exact hv.ends i (by omega)
theorem on_meets {N:Nat} {p:PSt} {v:Vw} (hN:N≤256) (hlen:p.S.thr.length=N) (s:Seen p v) (h:OV N m cl v):Meets (metO m) p:=by
 intro i t ht op j q r k a hl h1 hd
 have hi:i<N:=by rw [←hlen];exact (List.getElem?_eq_some_iff.1 ht).1
 have hs:=h.seat i hi
 rw [s.l,hl] at hs
 obtain ⟨_,_,c,_,_,hse⟩:=hs
 have hx:(cellAt p.K j).2=v.K.getD j 0:=by rw [s.K,getD_cell]
 rw [hx]
 rcases hse with ⟨rfl,rfl,rfl⟩|⟨rfl,rfl,rfl⟩|⟨rfl,rfl,rfl,_⟩|⟨rfl,rfl,rfl,_,hwi⟩|⟨rfl,rfl,rfl,_⟩|⟨rfl,rfl,rfl,_⟩
 ·rw [dA_0] at hd;omega
 ·cases h1
 ·cases h1
 ·have hwi:v.K.getD (2*which c.ca m) 0=R1.wordI 1 i 0:=hwi
  rw [hwi]
  have hia:iA (1,lOc m c 1 i)=i:=by have:=iA_l 1 (which c.ca m) (c.po - 1) c.cb 1 i [];rwa [List.append_nil] at this
  rw [hia]
  exact ⟨st1 i,who1 (by omega)⟩
 ·cases h1
 ·cases h1
theorem pturn_len {mc:Mc} {p p1:PSt} (e:pturn mc p=some p1):p1.S.thr.length=p.S.thr.length:=by
 unfold pturn at e
 split at e
 ·split at e
  ·cases e;rfl
  ·cases e
 ·cases e
  show (resume _ _ _ _ _).1.thr.length=_
  rw [(resume_sta _ _ _ _ _).len,going_len]
def OIP (N m:Nat) (cl:Nat→List Cl) (p:PSt):Prop:=p.S.thr.length=N∧∃ v,Seen p v∧OV N m cl v
theorem oip_turn {N:Nat} (h0:0<m) (hN:N≤256) (p p1:PSt) (g:Gd (metO m) p) (h:OIP N m cl p) (e:pturn (mcO m) p=some p1):OIP N m cl p1:=by
 obtain ⟨hl,v,s,hv⟩:=h
 obtain ⟨v1,m1,s1⟩:=pturn_mv (metO m) g s e
 rw [hl] at m1
 exact ⟨(pturn_len e).trans hl,v1,s1,oi_mv h0 hN hv m1⟩
theorem oip_meets {N:Nat} (hN:N≤256) (p:PSt) (h:OIP N m cl p):Meets (metO m) p:=by
 obtain ⟨hl,v,s,hv⟩:=h
 exact on_meets hN hl s hv
theorem once_start {ss:List (Scr (mcO m))} {N:Nat} {S S1:TS} {l0 l1:Nat→Ph} {K:List (Nat×Int)}
 (hn:ss.length=N) (hss:ss.map (·.calls)=(List.range' 0 N).map cl) (ha:∀ x∈ss,x.ans=List.replicate x.calls.length (0,0))
 (ht:S.thr=[]) (htr:S.tr=[]) (hSn:S.n=0) (hsk:S.stk=false) (hchg:S.chg=List.replicate (2*m) 0) (hK:K.map (·.2)=List.replicate (2*m) 0) (hH:Hires (mcO m) 0 ss S l0 S1 l1) :
 ∃ v,Seen ⟨S1,K,l1⟩ v∧OV N m cl v:=by
 let v0:Vw:=⟨List.replicate (2*m) 0,false,S.chg,fun i=>(thrI S i).se,l0,[]⟩
 have hs0:Seen ⟨S,K,l0⟩ v0:=⟨hK.symm,hsk.symm,rfl,fun i=>rfl,rfl,htr,hSn,fun i t h=>by rw [ht] at h;cases h⟩
 obtain ⟨v1,hi1,hs1⟩:=hires_hi (K:=K) hH v0 (by rw [ht];rfl) ha hs0
 rw [hss] at hi1
 have z:∀ j,(List.replicate (2*m) (0:Int)).getD j 0=0:=fun j=>by
  rw [List.getD_eq_getElem?_getD,List.getElem?_replicate]
  split<;>rfl
 have hc0:OV 0 m cl v0:=⟨by simp [v0],by show S.chg.length=_;rw [hchg,List.length_replicate],rfl,fun i hi=>by omega,fun o ho=>.inl ⟨z _,by show S.chg.getD _ 0=0;rw [hchg];exact z _⟩,fun i hi=>by omega⟩
 have hci:=hi_on hi1 (by simp) hc0
 rw [List.length_map,List.length_range',Nat.zero_add] at hci
 exact ⟨v1,hs1,hci⟩
theorem once_ends {ss:List (Scr (mcO m))} {N:Nat} {S S1:TS} {l0 l1:Nat→Ph} {K:List (Nat×Int)} (h0:0<m)
 (hn:ss.length=N) (hn8:N≤8) (hl:lens ss≤512) (hss:ss.map (·.calls)=(List.range' 0 N).map cl) (ha:∀ x∈ss,x.ans=List.replicate x.calls.length (0,0))
 (ht:S.thr=[]) (htr:S.tr=[]) (hSn:S.n=0) (hsk:S.stk=false) (hchg:S.chg=List.replicate (2*m) 0) (hK:K.map (·.2)=List.replicate (2*m) 0) (hH:Hires (mcO m) 0 ss S l0 S1 l1) :
 (∃ n p',n≤300000∧Turns (mcO m) n ⟨S1,K,l1⟩ p'∧p'.S.n*40≤140737488355328)∧∀ n p',Turns (mcO m) n ⟨S1,K,l1⟩ p'→p'.S.n≤400000∧∃ v,Seen p' v∧OV N m cl v:=by
 obtain ⟨v,hs,hv⟩:=once_start hn hss ha ht htr hSn hsk hchg hK hH
 obtain ⟨a1,a2,a3,a4⟩:=hires_gd (metO m) hH (by rw [ht];rfl) (by omega) (fun i t h=>by rw [ht] at h;cases h)
 have g:Gd (metO m) ⟨S1,K,l1⟩:=⟨by show S1.thr.length≤8;omega,a2⟩
 have hip:OIP N m cl ⟨S1,K,l1⟩:=⟨by show S1.thr.length=N;omega,v,hs,hv⟩
 have hm:=mu_le (metO m) ⟨S1,K,l1⟩ g.len
 rw [ht] at a4
 simp only [List.length_nil,List.range_zero,List.map_nil,List.sum_nil] at a4
 have h5:(metO m).L*lens ss≤5*512:=Nat.mul_le_mul (Nat.le_refl 5) hl
 have hm2:mu (metO m) ⟨S1,K,l1⟩≤300000:=by
  refine Nat.le_trans hm ?_
  show 25+32*((List.range S1.thr.length).map fun i=>tot (metO m) (l1 i)).sum≤300000
  omega
 refine ⟨?_,fun n p' hT=>?_⟩
 ·obtain ⟨n,p',k1,k2,k3⟩:=turns_endI (metO m) (I:=OIP N m cl) (fun p p1 g h e=>oip_turn h0 (by omega) p p1 g h e) (fun p h=>oip_meets (by omega) p h) 300000 ⟨S1,K,l1⟩ hm2 g hip
  refine ⟨n,p',k1,k2,?_⟩
  have k3:p'.S.n≤S1.n+mu (metO m) ⟨S1,K,l1⟩:=k3
  omega
 ·obtain ⟨_,hI,k3⟩:=turns_gdI (metO m) (I:=OIP N m cl) (fun p p1 g h e=>oip_turn h0 (by omega) p p1 g h e) (fun p h=>oip_meets (by omega) p h) hT g hip
  have k3:p'.S.n+mu (metO m) p'≤S1.n+mu (metO m) ⟨S1,K,l1⟩:=k3
  obtain ⟨_,v',s',hv'⟩:=hI
  exact ⟨by omega,v',s',hv'⟩
end
structure Ro where
 st:Nat→Nat
 en:Nat→Bool
 la:Nat→Bool
 co:Nat→Nat
 wr:Nat→Nat
def ro0:Ro:=⟨fun _=>0,fun _=>false,fun _=>false,fun _=>0,fun _=>0⟩
def rsO (m:Nat) (cl:Nat→List Cl) (r:Ro) (s:Stp):Ro :=
 if s.op=9 then
  match (cl s.th.toNat)[s.ol.toNat]? with
  |some c=>if 1≤c.po∧c.po≤4 then { r with la:=upd r.la s.th.toNat (r.en (which c.ca m)),co:=upd r.co s.th.toNat 0,wr:=upd r.wr s.th.toNat 0 } else r
  |none=>r
 else if s.op=10 then
  match (cl s.th.toNat)[s.ol.toNat]? with
  |some c=>if 1≤c.po∧c.po≤4 then { r with en:=upd r.en (which c.ca m) true } else r
  |none=>r
 else { r with co:=upd r.co s.th.toNat (r.co s.th.toNat+1),wr:=if s.op=1 then r.wr else upd r.wr s.th.toNat (r.wr s.th.toNat+1),st:=if s.op=2∧s.ce % 2=1∧s.ce / 2<m then upd r.st (s.ce / 2).toNat (r.st (s.ce / 2).toNat+1) else r.st }
def repO (m:Nat) (cl:Nat→List Cl) (L:List Stp):Ro:=L.foldl (rsO m cl) ro0
def StO (N m:Nat) (cl:Nat→List Cl) (r:Ro) (s:Stp):Prop :=
 ∃ t:Nat,s.th=(t:Int)∧t<N∧(s.op=9∨s.op=10→∃ k:Nat,s.ol=(k:Int)∧k<(cl t).length)∧(s.op=10→∀ (k:Nat) (c:Cl),s.ol=(k:Int)→(cl t)[k]? = some c→isO c→r.la t=true→r.co t=2∧r.wr t=0)∧(s.op=2→(∃ k:Nat,s.ce=(k:Int)∧k<2*m)∧∀ o,o<m→s.ce=((2*o+1:Nat):Int)→r.st o=0)
def StsO (N m:Nat) (cl:Nat→List Cl) (r:Ro):List Stp→Prop
 | []=>True
 |s :: L=>StO N m cl r s∧StsO N m cl (rsO m cl r s) L
theorem StsO.app {N m:Nat} {cl:Nat→List Cl}:∀ {L L':List Stp} {r:Ro},StsO N m cl r L→StsO N m cl (L.foldl (rsO m cl) r) L'→StsO N m cl r (L++L')
 | [],L',r,_,h=>h
 |s :: L,L',r,h,h'=>⟨h.1,StsO.app h.2 h'⟩
section
variable {m N:Nat} {cl:Nat→List Cl} {r:Ro} {i:Nat}
theorem rsO_beg {ii:Nat} {c:Cl} (hc:(cl i)[ii]? = some c) (ho:isO c):rsO m cl r ⟨i,-1,9,ii,0⟩={ r with la:=upd r.la i (r.en (which c.ca m)),co:=upd r.co i 0,wr:=upd r.wr i 0 }:=by
 unfold rsO
 simp only [Int.toNat_natCast,hc,if_true]
 rw [if_pos (show 1≤c.po∧c.po≤4 from ho)]
theorem rsO_begN {ii:Nat} {c:Cl} (hc:(cl i)[ii]? = some c) (ho:¬ isO c):rsO m cl r ⟨i,-1,9,ii,0⟩=r:=by
 unfold rsO
 simp only [Int.toNat_natCast,hc,if_true]
 rw [if_neg (show ¬ (1≤c.po∧c.po≤4) from ho)]
theorem rsO_end {ii:Nat} {c:Cl} {e:Int} (hc:(cl i)[ii]? = some c) (ho:isO c):rsO m cl r ⟨i,-1,10,ii,e⟩={ r with en:=upd r.en (which c.ca m) true }:=by
 unfold rsO
 simp only [Int.toNat_natCast,hc]
 rw [if_neg (by decide),if_pos trivial,if_pos (show 1≤c.po∧c.po≤4 from ho)]
theorem rsO_endN {ii:Nat} {c:Cl} {e:Int} (hc:(cl i)[ii]? = some c) (ho:¬ isO c):rsO m cl r ⟨i,-1,10,ii,e⟩=r:=by
 unfold rsO
 simp only [Int.toNat_natCast,hc]
 rw [if_neg (by decide),if_pos trivial,if_neg (show ¬ (1≤c.po∧c.po≤4) from ho)]
theorem rsO_stp {ce op a b:Int} (h9:op≠9) (h10:op≠10):rsO m cl r ⟨i,ce,op,a,b⟩={ r with co:=upd r.co i (r.co i+1),wr:=if op=1 then r.wr else upd r.wr i (r.wr i+1),st:=if op=2∧ce % 2=1∧ce / 2<m then upd r.st (ce / 2).toNat (r.st (ce / 2).toNat+1) else r.st }:=by
 unfold rsO
 simp only [Int.toNat_natCast]
 rw [if_neg h9,if_neg h10]
def LaO (r:Ro) (K:List Int) (i:Nat):Ph→Prop
 |.turn _ _ q _ _ _=>r.la i=true→(q.1=1∧dA q=0∧r.co i=0∧r.wr i=0∧R1.stI (wdO K (oA q))=2)∨(q.1=2∧r.co i=1∧r.wr i=0)
 |.wait _ _ _ _ _=>r.la i=false
 |.done _=>True
theorem fw_T {K:List Int} {rest:List Cl} {ii:Nat} {sk:Bool} {ans:List (Int×Int)} {X:List Stp} {l:Ph} (hi:i<N) (h:Fw (mcO m) i false rest ii sk ans X l) :
 sk=false→rest=(cl i).drop ii→∀ r:Ro,(∀ o,r.en o=true→R1.stI (wdO K o)=2) →
 StsO N m cl r X∧(X.foldl (rsO m cl) r).en=r.en∧(X.foldl (rsO m cl) r).st=r.st∧(∀ t,t≠i→(X.foldl (rsO m cl) r).la t=r.la t∧(X.foldl (rsO m cl) r).co t=r.co t∧(X.foldl (rsO m cl) r).wr t=r.wr t)∧LaO (X.foldl (rsO m cl) r) K i l:=by
 induction h with
 |nil=>exact fun _ _ r _=>⟨trivial,rfl,rfl,fun _ _=>⟨rfl,rfl,rfl⟩,trivial⟩
 |skip=>intro hsk;cases hsk
 |@ans c rest ii ans X l e x hst _ ih =>
  intro _ hr r hen
  rw [Mc.set_false] at hst
  have hcs:(cl i)[ii]? = some c:=by
   have:=congrArg (·[0]?) hr
   simpa using this.symm
  have hlt:=(List.getElem?_eq_some_iff.1 hcs).1
  have hst':(if 1≤c.po∧c.po≤4 then Nx.turn 1 (2*which c.ca m) (1,lO (which c.ca m) (c.po - 1) c.cb 0 i) else .ans 1 0)=.ans e x:=hst
  have hno:¬ isO c:=fun hc=>by
   rw [if_pos (show 1≤c.po∧c.po≤4 from hc)] at hst'
   cases hst'
  rw [if_neg (show ¬ (1≤c.po∧c.po≤4) from hno)] at hst'
  cases hst'
  obtain ⟨q1,q2⟩:=ih rfl (by rw [←List.tail_drop,←hr];rfl) r hen
  have hr9:rsO m cl r ⟨i,-1,9,ii,0⟩=r:=rsO_begN hcs hno
  have hr10:rsO m cl r ⟨i,-1,10,ii,1⟩=r:=rsO_endN hcs hno
  refine ⟨⟨⟨i,rfl,hi,fun _=>⟨ii,rfl,hlt⟩,fun h=>absurd (show (9:Int)=10 from h) (by decide),fun h=>absurd (show (9:Int)=2 from h) (by decide)⟩,?_⟩,?_⟩
  ·rw [hr9]
   refine ⟨⟨i,rfl,hi,fun _=>⟨ii,rfl,hlt⟩,fun _ k c' hk hc' ho=>?_,fun h=>absurd (show (10:Int)=2 from h) (by decide)⟩,by rw [hr10];exact q1⟩
   have hk:(ii:Int)=(k:Int):=hk
   obtain rfl:ii=k:=by omega
   rw [hcs] at hc'
   cases hc'
   exact absurd ho hno
  ·rw [List.foldl_cons,List.foldl_cons,hr9,hr10]
   exact q2
 |@turn c rest ii ans op j q hst =>
  intro _ hr r hen
  rw [Mc.set_false] at hst
  have hcs:(cl i)[ii]? = some c:=by
   have:=congrArg (·[0]?) hr
   simpa using this.symm
  have hlt:=(List.getElem?_eq_some_iff.1 hcs).1
  have hst':(if 1≤c.po∧c.po≤4 then Nx.turn 1 (2*which c.ca m) (1,lO (which c.ca m) (c.po - 1) c.cb 0 i) else .ans 1 0)=.turn op j q:=hst
  by_cases hc:1≤c.po∧c.po≤4
  ·rw [if_pos hc] at hst'
   cases hst'
   refine ⟨⟨⟨i,rfl,hi,fun _=>⟨ii,rfl,hlt⟩,fun h=>absurd (show (9:Int)=10 from h) (by decide),fun h=>absurd (show (9:Int)=2 from h) (by decide)⟩,trivial⟩,?_⟩
   rw [List.foldl_cons,List.foldl_nil,rsO_beg hcs hc]
   refine ⟨rfl,rfl,fun t ht=>⟨upd_ne _ _ ht,upd_ne _ _ ht,upd_ne _ _ ht⟩,fun hla=>.inl ⟨rfl,dA_0 _ _ _ _ _ _,upd_same _ _ _,upd_same _ _ _,?_⟩⟩
   rw [oA_0]
   have hla:upd r.la i (r.en (which c.ca m)) i=true:=hla
   rw [upd_same] at hla
   exact hen _ hla
  ·rw [if_neg hc] at hst'
   cases hst'
 |@wait c rest ii ans j q hst =>
  intro _ hr r hen
  rw [Mc.set_false] at hst
  have hst':(if 1≤c.po∧c.po≤4 then Nx.turn 1 (2*which c.ca m) (1,lO (which c.ca m) (c.po - 1) c.cb 0 i) else .ans 1 0)=.wait j q:=hst
  split at hst'<;>cases hst'
def FsP (o:Nat) (l:Ph):Prop:=∃ op j q r k a,l=.turn op j q r k a∧oA q=o∧q.1=6
structure OT (N m:Nat) (cl:Nat→List Cl) (v:Vw):Prop where
 sts:StsO N m cl ro0 v.L
 en:∀ o,(repO m cl v.L).en o=true→R1.stI (wdO v.K o)=2
 stz:∀ o,o<m→(repO m cl v.L).st o≠0→R1.stI (wdO v.K o)=2∨∃ t,t<N∧FsP o (v.l t)
 late:∀ t,t<N→LaO (repO m cl v.L) v.K t (v.l t)
theorem LaO.oth {r r':Ro} {K K':List Int} {t:Nat} {l:Ph} (h:LaO r K t l) (e1:r'.la t=r.la t) (e2:r'.co t=r.co t) (e3:r'.wr t=r.wr t) (hd:∀ o,R1.stI (wdO K o)=2→R1.stI (wdO K' o)=2):LaO r' K' t l:=by
 cases l with
 |done a=>trivial
 |wait j q r ii a=>exact e1.trans h
 |turn op j q r ii a =>
  intro hla
  rw [e1] at hla
  rcases h hla with ⟨h1,h2,h3,h4,h5⟩|⟨h1,h2,h3⟩
  ·exact .inl ⟨h1,h2,e2.trans h3,e3.trans h4,hd _ h5⟩
  ·exact .inr ⟨h1,e2.trans h2,e3.trans h3⟩
theorem OT.move {v v1:Vw} {l':Ph} {ce op a b:Int} {X:List Stp} (h:OT N m cl v) (hi:i<N) (e:Els i l' v v1) (h9:op≠9) (h10:op≠10) (hL:v1.L=v.L++⟨i,ce,op,a,b⟩ :: X) (hd:∀ o,R1.stI (wdO v.K o)=2→R1.stI (wdO v1.K o)=2)
 (h2:op=2→(∃ k:Nat,ce=(k:Int)∧k<2*m)∧∀ o,o<m→ce=((2*o+1:Nat):Int)→(repO m cl v.L).st o=0)
 (hX:∀ r1,r1=rsO m cl (repO m cl v.L) ⟨i,ce,op,a,b⟩→StsO N m cl r1 X∧(∀ o,(X.foldl (rsO m cl) r1).en o=true→R1.stI (wdO v1.K o)=2)∧(X.foldl (rsO m cl) r1).st=r1.st∧(∀ t,t≠i→(X.foldl (rsO m cl) r1).la t=r1.la t∧(X.foldl (rsO m cl) r1).co t=r1.co t∧(X.foldl (rsO m cl) r1).wr t=r1.wr t)∧LaO (X.foldl (rsO m cl) r1) v1.K i l')
 (hz:∀ o,o<m→(rsO m cl (repO m cl v.L) ⟨i,ce,op,a,b⟩).st o≠0→R1.stI (wdO v1.K o)=2∨∃ t,t<N∧FsP o (v1.l t)):OT N m cl v1:=by
 obtain ⟨q1,q2,q3,q4,q5⟩:=hX _ rfl
 have hrep:repO m cl v1.L=X.foldl (rsO m cl) (rsO m cl (repO m cl v.L) ⟨i,ce,op,a,b⟩):=by
  rw [hL]
  unfold repO
  rw [List.foldl_append,List.foldl_cons]
 refine ⟨?_,by rw [hrep];exact q2,fun o ho hne=>?_,fun t ht=>?_⟩
 ·rw [hL]
  exact h.sts.app ⟨⟨i,rfl,hi,fun h=>(h.elim h9 h10).elim,fun h=>absurd h h10,h2⟩,q1⟩
 ·rw [hrep,q3] at hne
  exact hz o ho hne
 ·rw [hrep,e.l]
  by_cases hti:t=i
  ·subst hti;rw [upd_same];exact q5
  ·rw [upd_ne _ _ hti]
   obtain ⟨k1,k2,k3⟩:=q4 t hti
   rw [rsO_stp h9 h10] at k1 k2 k3
   refine (h.late t ht).oth ?_ ?_ ?_ hd
   ·rw [rsO_stp h9 h10];exact k1
   ·rw [rsO_stp h9 h10];exact k2.trans (upd_ne _ _ hti)
   ·rw [rsO_stp h9 h10]
    refine k3.trans ?_
    show (if op=1 then (repO m cl v.L).wr else upd (repO m cl v.L).wr i ((repO m cl v.L).wr i+1)) t=_
    split
    ·rfl
    ·exact upd_ne _ _ hti
end
section
variable {m N:Nat} {cl:Nat→List Cl}
theorem st_same {r:Ro} {i:Nat} {ce op a b:Int} (h9:op≠9) (h10:op≠10) (h:op≠2∨ce % 2=0):(rsO m cl r ⟨i,ce,op,a,b⟩).st=r.st:=by
 rw [rsO_stp h9 h10]
 show (if _ then _ else _)=_
 rw [if_neg (by omega)]
theorem la_same {r:Ro} {i:Nat} {ce op a b:Int} (h9:op≠9) (h10:op≠10):(rsO m cl r ⟨i,ce,op,a,b⟩).la=r.la∧(rsO m cl r ⟨i,ce,op,a,b⟩).en=r.en∧(rsO m cl r ⟨i,ce,op,a,b⟩).co i=r.co i+1:=by
 rw [rsO_stp h9 h10]
 exact ⟨rfl,rfl,upd_same _ _ _⟩
theorem wr_load {r:Ro} {i:Nat} {ce a b:Int}:(rsO m cl r ⟨i,ce,1,a,b⟩).wr=r.wr:=by
 rw [rsO_stp (by decide) (by decide)]
 rfl
theorem LaO.no {r:Ro} {K:List Int} {i:Nat} {l:Ph} (h:r.la i=false):LaO r K i l:=by
 cases l with
 |done a=>trivial
 |wait j q r ii a=>exact h
 |turn op j q r ii a=>intro hla;rw [h] at hla;cases hla
theorem OT.step {v v1:Vw} {i:Nat} {l':Ph} {ce op a b:Int} (h:OT N m cl v) (hi:i<N) (e:Els i l' v v1) (h9:op≠9) (h10:op≠10) (hL:v1.L=v.L++[⟨i,ce,op,a,b⟩]) (hd:∀ o,R1.stI (wdO v.K o)=2→R1.stI (wdO v1.K o)=2)
 (h2:op=2→(∃ k:Nat,ce=(k:Int)∧k<2*m)∧∀ o,o<m→ce=((2*o+1:Nat):Int)→(repO m cl v.L).st o=0) (hla:LaO (rsO m cl (repO m cl v.L) ⟨i,ce,op,a,b⟩) v1.K i l')
 (hz:∀ o,o<m→(rsO m cl (repO m cl v.L) ⟨i,ce,op,a,b⟩).st o≠0→R1.stI (wdO v1.K o)=2∨∃ t,t<N∧FsP o (v1.l t)):OT N m cl v1 :=
 h.move hi e h9 h10 hL hd h2 (fun r1 e1=>⟨trivial,fun o ho=>by
  have ho:r1.en o=true:=ho
  rw [e1,(la_same h9 h10).2.1] at ho
  exact hd o (h.en o ho),rfl,fun t _=>⟨rfl,rfl,rfl⟩,by rw [e1];exact hla⟩) hz
theorem OT.ends {v v1:Vw} {i:Nat} {l':Ph} {ce op a b:Int} {c:Cl} {ii:Nat} {rest:List Cl} {ans:List (Int×Int)} {x:Int×Int} {X:List Stp} (h:OT N m cl v) (hi:i<N) (e:Els i l' v v1) (h9:op≠9) (h10:op≠10) (hL:v1.L=v.L++⟨i,ce,op,a,b⟩ :: ⟨i,-1,10,ii,x.1⟩ :: X) (hd:∀ o,R1.stI (wdO v.K o)=2→R1.stI (wdO v1.K o)=2)
 (h2:op=2→(∃ k:Nat,ce=(k:Int)∧k<2*m)∧∀ o,o<m→ce=((2*o+1:Nat):Int)→(repO m cl v.L).st o=0)
 (hfw:Fw (mcO m) i false rest (ii+1) (x.1==4) (ans.set ii x) X l') (h4:x.1≠4) (hr:rest=(cl i).drop (ii+1)) (hc:(cl i)[ii]? = some c) (hco:isO c) (hdn:R1.stI (wdO v1.K (which c.ca m))=2)
 (hchk:(repO m cl v.L).la i=true→(rsO m cl (repO m cl v.L) ⟨i,ce,op,a,b⟩).co i=2∧(rsO m cl (repO m cl v.L) ⟨i,ce,op,a,b⟩).wr i=0)
 (hz:∀ o,o<m→(rsO m cl (repO m cl v.L) ⟨i,ce,op,a,b⟩).st o≠0→R1.stI (wdO v1.K o)=2∨∃ t,t<N∧FsP o (v1.l t)):OT N m cl v1:=by
 refine h.move hi e h9 h10 hL hd h2 (fun r1 e1=>?_) hz
 have hlt:=(List.getElem?_eq_some_iff.1 hc).1
 have he:rsO m cl r1 ⟨i,-1,10,ii,x.1⟩={ r1 with en:=upd r1.en (which c.ca m) true }:=rsO_end hc hco
 have hen:∀ o,(rsO m cl r1 ⟨i,-1,10,ii,x.1⟩).en o=true→R1.stI (wdO v1.K o)=2:=fun o ho=>by
  rw [he] at ho
  have ho:upd r1.en (which c.ca m) true o=true:=ho
  by_cases q:o=which c.ca m
  ·rw [q];exact hdn
  ·rw [upd_ne _ _ q,e1,(la_same h9 h10).2.1] at ho
   exact hd o (h.en o ho)
 obtain ⟨q1,q2,q3,q4,q5⟩:=fw_T (K:=v1.K) hi hfw (by simpa using h4) hr (rsO m cl r1 ⟨i,-1,10,ii,x.1⟩) hen
 refine ⟨⟨⟨i,rfl,hi,fun _=>⟨ii,rfl,hlt⟩,fun _ k c' hk hc' ho hla=>?_,fun h=>absurd (show (10:Int)=2 from h) (by decide)⟩,q1⟩,?_,?_,?_,?_⟩
 ·rw [e1,(la_same h9 h10).1] at hla
  rw [e1]
  exact hchk hla
 ·rw [List.foldl_cons,q2];exact hen
 ·rw [List.foldl_cons,q3,he]
 ·intro t ht
  rw [List.foldl_cons]
  obtain ⟨k1,k2,k3⟩:=q4 t ht
  rw [k1,k2,k3,he]
  exact ⟨rfl,rfl,rfl⟩
 ·rw [List.foldl_cons];exact q5
theorem ot_mv {v v1:Vw} (h0:0<m) (hN:N≤256) (h:OV N m cl v) (ht:OT N m cl v) (hm:Mv (mcO m) N v v1):OT N m cl v1:=by
 have h1:=oi_mv h0 hN h hm
 cases hm with
 |stuck hs hall hex e1 =>
  exfalso
  have:=h1.stk
  rw [e1] at this
  cases this
 |turn i op j q rest ii ans X l' hi hl ho e hK hst hg hL =>
  rw [h.stk,Mc.set_false] at ho
  have hL:v1.L=v.L++⟨i,j,op,((mcO m).turn q (v.K.getD j 0)).1.1,((mcO m).turn q (v.K.getD j 0)).1.2⟩ :: X:=hL
  have hs:=h.seat i hi
  rw [hl] at hs
  obtain ⟨hal,hr,c,hc,hco,hse⟩:=hs
  have hlt:=ht.late i hi
  rw [hl] at hlt
  have hom:=which_lt c.ca h0
  have hw:=h.word _ hom
  have hlw:2*which c.ca m<v.K.length:=by rw [h.kl];omega
  have hlv:2*which c.ca m+1<v.K.length:=by rw [h.kl];omega
  have same:v1.K=v.K→∀ o,R1.stI (wdO v.K o)=2→R1.stI (wdO v1.K o)=2:=fun hK o q=>by rw [hK];exact q
  have zsame:∀ ce op' a b,op'≠9→op'≠10→(op'≠2∨ce % 2=0)→(∀ o,R1.stI (wdO v.K o)=2→R1.stI (wdO v1.K o)=2)→(∀ o,FsP o (v.l i)→R1.stI (wdO v1.K o)=2)→∀ o,o<m→(rsO m cl (repO m cl v.L) ⟨i,ce,op',a,b⟩).st o≠0→R1.stI (wdO v1.K o)=2∨∃ t,t<N∧FsP o (v1.l t):=fun ce op' a b h9 h10 h2 hd hf o ho' hne=>by
   rw [st_same h9 h10 h2] at hne
   rcases ht.stz o ho' hne with q|⟨t,q1,q2⟩
   ·exact .inl (hd o q)
   ·by_cases hti:t=i
    ·subst hti;exact .inl (hf o q2)
    ·exact .inr ⟨t,q1,by rw [e.l,upd_ne _ _ hti];exact q2⟩
  have nof:∀ {o:Nat} {op:Int} {j:Nat} {q:Q} {r:List Cl} {k:Nat} {a:List (Int×Int)},q.1≠6→¬ FsP o (.turn op j q r k a):=fun hq hf=>by
   obtain ⟨op',j',q',r',k',a',e',_,e2⟩:=hf
   cases e'
   exact hq e2
  rcases hse with ⟨rfl,rfl,rfl⟩|⟨rfl,rfl,rfl⟩|⟨rfl,rfl,rfl,hs2⟩|⟨rfl,rfl,rfl,hp4,hwi⟩|⟨rfl,rfl,rfl,hwi⟩|⟨rfl,rfl,rfl,hwi,hvi⟩
  · -- it looks
   rw [turn1] at ho hK hL
   have hK:v1.K=v.K:=hK.trans set_getD'
   have ho:On (mcO m) i false rest ii ans (lookO (which c.ca m) (c.po - 1) c.cb 0 i (wdO v.K (which c.ca m))) X l':=ho
   have hf:∀ o,FsP o (v.l i)→R1.stI (wdO v1.K o)=2:=fun o hf=>by rw [hl] at hf;exact absurd hf (nof (by simp))
   have hla:(repO m cl v.L).la i=true→(repO m cl v.L).co i=0∧(repO m cl v.L).wr i=0∧R1.stI (wdO v.K (which c.ca m))=2:=fun q=>by
    rcases hlt q with ⟨_,_,k3,k4,k5⟩|⟨k1,_⟩
    ·rw [oA_0] at k5;exact ⟨k3,k4,k5⟩
    ·cases k1
   unfold lookO at ho
   by_cases hx:R1.stI (wdO v.K (which c.ca m))=2
   ·rw [if_pos hx] at ho
    cases ho
    refine ht.step hi e (by decide) (by decide) hL (same hK) (fun q=>absurd q (by decide)) (fun q=>?_) (zsame _ 1 _ _ (by decide) (by decide) (.inl (by decide)) (same hK) hf)
    rw [(la_same (by decide) (by decide)).1] at q
    obtain ⟨k1,k2,_⟩:=hla q
    exact .inr ⟨rfl,by rw [(la_same (by decide) (by decide)).2.2,k1],by rw [wr_load];exact k2⟩
   ·have hno:(repO m cl v.L).la i=false:=by
     cases q:(repO m cl v.L).la i with
     |false=>rfl
     |true=>exact absurd (hla q).2.2 hx
    have key:X=[]∧LaO (rsO m cl (repO m cl v.L) ⟨i,(2*which c.ca m:Nat),1,v.K.getD (2*which c.ca m) 0,v.K.getD (2*which c.ca m) 0⟩) v1.K i l':=by
     refine ⟨?_,LaO.no (by rw [(la_same (by decide) (by decide)).1];exact hno)⟩
     rw [if_neg hx] at ho
     split at ho
     ·cases ho;rfl
     ·split at ho
      ·rename_i h3 h4
       exfalso
       rcases hw with ⟨w,_⟩|⟨t,w1,w2,w3,w4⟩|⟨e2,w1,_⟩
       ·rw [w] at h3;exact h3 st0
       ·rw [w2,who1 (by omega)] at h4
        obtain rfl:t=i:=by omega
        rw [hl] at w4
        exact absurd w4 (bld_not (by simp) (by simp) (fun _=>dA_0 _ _ _ _ _ _))
       ·rw [w1] at hx;exact hx (st2 _)
      ·cases ho;rfl
    obtain ⟨rfl,k2⟩:=key
    exact ht.step hi e (by decide) (by decide) hL (same hK) (fun q=>absurd q (by decide)) k2 (zsame _ 1 _ _ (by decide) (by decide) (.inl (by decide)) (same hK) hf)
  · -- it tries
   have hno:(repO m cl v.L).la i=false:=by
    cases q:(repO m cl v.L).la i with
    |false=>rfl
    |true=>rcases hlt q with ⟨k,_⟩|⟨k,_⟩<;>cases k
   have hX:X=[]:=by
    rw [turn3] at ho
    split at ho
    ·unfold comeO at ho
     simp only at ho
     split at ho<;>cases ho<;>rfl
    ·cases ho;rfl
   subst hX
   have hd:∀ o,R1.stI (wdO v.K o)=2→R1.stI (wdO v1.K o)=2:=fun o q=>by
    rw [turn3] at hK
    by_cases hx:v.K.getD (2*which c.ca m) 0=0
    ·rw [if_pos hx] at hK
     have hK:v1.K=v.K.set (2*which c.ca m) (R1.wordI 1 i 0):=hK
     by_cases qo:o=which c.ca m
     ·subst qo
      rw [show wdO v.K (which c.ca m)=0 from hx,st0] at q
      cases q
     ·rw [hK]
      unfold wdO
      rw [getD_set hlw,if_neg (by omega)]
      exact q
    ·rw [if_neg hx] at hK
     rw [show v1.K=v.K from hK.trans set_getD']
     exact q
   exact ht.step hi e (by decide) (by decide) hL hd (fun q=>absurd q (by decide)) (LaO.no (by rw [(la_same (by decide) (by decide)).1];exact hno)) (zsame _ 4 _ _ (by decide) (by decide) (.inl (by decide)) hd (fun o hf=>by rw [hl] at hf;exact absurd hf (nof (by simp))))
  · -- it reads the value
   rw [turn2] at ho hK hL
   have hK:v1.K=v.K:=hK.trans set_getD'
   have ho:On (mcO m) i false rest ii ans (.ans (R1.codI (wdO v.K (which c.ca m))) (vlO v.K (which c.ca m))) X l':=ho
   have h4:R1.codI (wdO v.K (which c.ca m))≠4:=by
    rcases hw with ⟨w,_⟩|⟨t,_,w,_⟩|⟨e2,w1,_,w3,w4,_⟩
    ·rw [w,st0] at hs2;cases hs2
    ·rw [w,st1] at hs2;cases hs2
    ·rw [w1,cod2 w3];exact w4
   cases ho with
   |ans hfw =>
    refine ht.ends (x:=(R1.codI (wdO v.K (which c.ca m)),vlO v.K (which c.ca m))) hi e (by decide) (by decide) hL (same hK) (fun q=>absurd q (by decide)) hfw h4 hr hc hco (by rw [hK];exact hs2) (fun q=>?_) (zsame _ 1 _ _ (by decide) (by decide) (.inl (by decide)) (same hK) (fun o hf=>by rw [hl] at hf;exact absurd hf (nof (by simp))))
    rcases hlt q with ⟨k1,_⟩|⟨_,k2,k3⟩
    ·cases k1
    ·exact ⟨by rw [(la_same (by decide) (by decide)).2.2,k2],by rw [wr_load];exact k3⟩
  · -- the act asks again
   have hno:(repO m cl v.L).la i=false:=by
    cases q:(repO m cl v.L).la i with
    |false=>rfl
    |true =>
     rcases hlt q with ⟨_,k,_⟩|⟨k,_⟩
     ·rw [dA_0] at k;cases k
     ·cases k
   rw [turn1] at ho hK hL
   have hK:v1.K=v.K:=hK.trans set_getD'
   have ho:On (mcO m) i false rest ii ans (lookO (which c.ca m) (c.po - 1) c.cb 1 i (wdO v.K (which c.ca m))) X l':=ho
   unfold lookO at ho
   rw [hwi,if_neg (by rw [st1];decide),if_neg (by rw [st1];decide),if_pos (who1 (by omega))] at ho
   have ho:On (mcO m) i false rest ii ans (.turn 2 (2*which c.ca m+1) (5,lO (which c.ca m) (c.po - 1) c.cb 0 i++[70,72])) X l':=ho
   cases ho
   exact ht.step hi e (by decide) (by decide) hL (same hK) (fun q=>absurd q (by decide)) (LaO.no (by rw [(la_same (by decide) (by decide)).1];exact hno)) (zsame _ 1 _ _ (by decide) (by decide) (.inl (by decide)) (same hK) (fun o hf=>by rw [hl] at hf;exact absurd hf (nof (by simp))))
  · -- the value is stored
   have hno:(repO m cl v.L).la i=false:=by
    cases q:(repO m cl v.L).la i with
    |false=>rfl
    |true=>rcases hlt q with ⟨k,_⟩|⟨k,_⟩<;>cases k
   rw [turn5] at ho hK hL
   have hK:v1.K=v.K.set (2*which c.ca m+1) (actR c).2:=hK
   have ho:On (mcO m) i false rest ii ans (.turn 2 (2*which c.ca m) (6,lO (which c.ca m) (c.po - 1) c.cb 0 i++[(actR c).1,(actR c).2])) X l':=ho
   cases ho
   have hd:∀ o,R1.stI (wdO v.K o)=2→R1.stI (wdO v1.K o)=2:=fun o q=>by
    rw [hK]
    unfold wdO
    rw [getD_set hlv,if_neg (by omega)]
    exact q
   have hst0:(repO m cl v.L).st (which c.ca m)=0:=by
    by_cases q:(repO m cl v.L).st (which c.ca m)=0
    ·exact q
    ·exfalso
     rcases ht.stz _ hom q with k|⟨t,k1,op',j',q',r',k',a',k2,k3,k4⟩
     ·rw [hwi,st1] at k;cases k
     ·have hst:=h.seat t k1
      rw [k2] at hst
      obtain ⟨_,_,c',_,_,hse'⟩:=hst
      rcases hse' with ⟨_,_,rfl⟩|⟨_,_,rfl⟩|⟨_,_,rfl,_⟩|⟨_,_,rfl,_⟩|⟨_,_,rfl,_⟩|⟨_,_,rfl,hw',_⟩
      ·cases k4
      ·cases k4
      ·cases k4
      ·cases k4
      ·cases k4
      ·rw [oA_l] at k3
       rw [k3,hwi] at hw'
       obtain rfl:=word1_inj (by omega) (by omega) hw'
       rw [hl] at k2
       cases k2
   refine ht.step hi e (by decide) (by decide) hL hd (fun _=>⟨⟨_,rfl,by omega⟩,fun o ho' hce=>?_⟩) (LaO.no (by rw [(la_same (by decide) (by decide)).1];exact hno)) (fun o ho' hne=>?_)
   ·obtain rfl:o=which c.ca m:=by omega
    exact hst0
   ·by_cases q:o=which c.ca m
    ·refine .inr ⟨i,hi,?_⟩
     rw [e.l,upd_same,q]
     exact ⟨_,_,_,_,_,_,rfl,oA_l _ _ _ _ _ _ _,rfl⟩
    ·rw [rsO_stp (by decide) (by decide)] at hne
     have hne:(if (2:Int)=2∧((2*which c.ca m+1:Nat):Int) % 2=1∧((2*which c.ca m+1:Nat):Int) / 2<m then upd (repO m cl v.L).st (((2*which c.ca m+1:Nat):Int) / 2).toNat ((repO m cl v.L).st (((2*which c.ca m+1:Nat):Int) / 2).toNat+1) else (repO m cl v.L).st) o≠0:=hne
     rw [if_pos ⟨rfl,by omega,by omega⟩,upd_ne _ _ (by omega)] at hne
     rcases ht.stz o ho' hne with k|⟨t,k1,k2⟩
     ·exact .inl (hd o k)
     ·by_cases hti:t=i
      ·subst hti;rw [hl] at k2;exact absurd k2 (nof (by simp))
      ·exact .inr ⟨t,k1,by rw [e.l,upd_ne _ _ hti];exact k2⟩
  · -- the word is stored
   have hno:(repO m cl v.L).la i=false:=by
    cases q:(repO m cl v.L).la i with
    |false=>rfl
    |true=>rcases hlt q with ⟨k,_⟩|⟨k,_⟩<;>cases k
   rw [turn6] at ho hK hL
   have hK:v1.K=v.K.set (2*which c.ca m) (R1.wordI 2 0 (actR c).1):=hK
   have ho:On (mcO m) i false rest ii ans (.ans (actR c).1 (actR c).2) X l':=ho
   obtain ⟨hcd,hc4⟩:=actR_code c
   have hw1:wdO v1.K (which c.ca m)=R1.wordI 2 0 (actR c).1:=by rw [hK];unfold wdO;rw [getD_set hlw,if_pos rfl]
   have hd:∀ o,R1.stI (wdO v.K o)=2→R1.stI (wdO v1.K o)=2:=fun o q=>by
    by_cases qo:o=which c.ca m
    ·rw [qo,hw1];exact st2 _
    ·rw [hK]
     unfold wdO
     rw [getD_set hlw,if_neg (by omega)]
     exact q
   cases ho with
   |ans hfw =>
    refine ht.ends (x:=actR c) hi e (by decide) (by decide) hL hd (fun _=>⟨⟨_,rfl,by omega⟩,fun o _ hce=>by omega⟩) hfw hc4 hr hc hco (by rw [hw1];exact st2 _) (fun q=>by rw [hno] at q;cases q) (zsame _ 2 _ _ (by decide) (by decide) (.inr (by omega)) hd (fun o hf=>?_))
    rw [hl] at hf
    obtain ⟨op',j',q',r',k',a',e',k3,_⟩:=hf
    cases e'
    rw [oA_l] at k3
    rw [←k3,hw1]
    exact st2 _
 |wake i j q rest ii ans X l' hi hl hs hch ho e hK hst hg hL =>
  have hse:=h.seat i hi
  have hlt:=ht.late i hi
  rw [hl] at hse hlt
  obtain ⟨hal,hr,c,hc,hco,rfl,rfl,hs1⟩:=hse
  rw [woke4] at ho
  cases ho
  refine ht.step hi e (by decide) (by decide) hL (fun o q=>by rw [hK];exact q) (fun q=>absurd q (by decide)) (LaO.no (by rw [(la_same (by decide) (by decide)).1];exact hlt)) (fun o ho' hne=>?_)
  rw [st_same (by decide) (by decide) (.inl (by decide))] at hne
  rcases ht.stz o ho' hne with k|⟨t,k1,k2⟩
  ·exact .inl (by rw [hK];exact k)
  ·by_cases hti:t=i
   ·subst hti
    rw [hl] at k2
    obtain ⟨op',j',q',r',k',a',e',_⟩:=k2
    cases e'
   ·exact .inr ⟨t,k1,by rw [e.l,upd_ne _ _ hti];exact k2⟩
 |free i j q rest ii ans X l' hi hl hs=>rw [h.stk] at hs;cases hs
end
section
variable {m:Nat} {cl:Nat→List Cl}
theorem hi_ot {k:Nat} {cs:List (List Cl)} {v v':Vw} (N:Nat) (h:Hi (mcO m) k cs v v'):cs=(List.range' k cs.length).map cl→k+cs.length≤N→v.stk=false→(∀ o,wdO v.K o=0) →
 (StsO N m cl ro0 v.L∧(∀ o,(repO m cl v.L).en o=false)∧(∀ o,(repO m cl v.L).st o=0)∧∀ t,t<k→LaO (repO m cl v.L) v.K t (v.l t)) →
 StsO N m cl ro0 v'.L∧(∀ o,(repO m cl v'.L).en o=false)∧(∀ o,(repO m cl v'.L).st o=0)∧∀ t,t<k+cs.length→LaO (repO m cl v'.L) v'.K t (v'.l t):=by
 induction h with
 |nil=>exact fun _ _ _ _ hv=>hv
 |@cons k c cs v v1 v2 X l' hF e1 e2 e3 e4 e5 _ ih =>
  intro hc hN hsk hz hv
  rw [List.length_cons,List.range'_succ,List.map_cons] at hc
  rw [List.length_cons] at hN
  obtain ⟨hc1,hc2⟩:=List.cons.inj hc
  rw [hsk] at hF
  obtain ⟨q1,q2,q3,q4,q5⟩:=fw_T (N:=N) (K:=v.K) (cl:=cl) (i:=k) (by omega) hF rfl (by rw [hc1];rfl) (repO m cl v.L) (fun o ho=>by rw [hv.2.1 o] at ho;cases ho)
  have hrep:repO m cl v1.L=X.foldl (rsO m cl) (repO m cl v.L):=by
   rw [e4]
   unfold repO
   rw [List.foldl_append]
  have:=ih hc2 (by omega) (e2.trans hsk) (by rw [e1];exact hz) ⟨by rw [e4];exact hv.1.app q1,by rw [hrep,q2];exact hv.2.1,by rw [hrep,q3];exact hv.2.2.1,fun t ht=>?_⟩
  ·rw [show k+(c :: cs).length=k+1+cs.length by simp only [List.length_cons];omega]
   exact this
  ·rw [hrep,e5.l,e1]
   by_cases hne:t=k
   ·subst hne;rw [upd_same];exact q5
   ·rw [upd_ne _ _ hne]
    obtain ⟨k1,k2,k3⟩:=q4 t hne
    exact (hv.2.2.2 t (by omega)).oth k1 k2 k3 (fun o h=>h)
theorem turns_stop {mc:Mc} {n:Nat} {p p':PSt} (h:Turns mc n p p'):pturn mc p'=none:=by
 induction h with
 |stop hs=>exact hs
 |step _ _ ih=>exact ih
theorem stop_done {mc:Mc} (M:Met mc) {p:PSt} {v:Vw} (hs:pturn mc p=none) (g:Gd M p) (s:Seen p v):∀ i,i<p.S.thr.length→∃ a,v.l i=.done a:=by
 intro i hi
 obtain ⟨t,ht⟩:∃ t,p.S.thr[i]? = some t:=⟨_,List.getElem?_eq_getElem hi⟩
 obtain ⟨_,h2,_⟩:=g.sit i t ht
 unfold pturn at hs
 split at hs
 ·rename_i h0
  split at hs
  ·cases hs
  ·rename_i hw
   rw [s.l]
   match hl:p.l i,h2 with
   |.done a,_=>exact ⟨a,rfl⟩
   |.turn _ _ _ _ _ _,h2 =>
    have h2:t.st=1:=h2
    have:i∈rdyIds p.S p.S.thr.length:=by
     unfold rdyIds
     rw [List.mem_filter]
     exact ⟨List.mem_range.2 (by omega),by rw [ht];simp [rdy,h2]⟩
    rw [h0] at this;cases this
   |.wait _ _ _ _ _,h2 =>
    have h2:t.st=2:=h2
    exfalso
    apply hw
    unfold waits2
    rw [List.any_eq_true]
    exact ⟨i,List.mem_range.2 (by omega),by rw [ht];simp [h2]⟩
 ·cases hs
theorem once_run {ss:List (Scr (mcO m))} {N:Nat} {S S1:TS} {l0 l1:Nat→Ph} {K:List (Nat×Int)} (h0:0<m)
 (hn:ss.length=N) (hn8:N≤8) (hss:ss.map (·.calls)=(List.range' 0 N).map cl) (ha:∀ x∈ss,x.ans=List.replicate x.calls.length (0,0))
 (ht:S.thr=[]) (htr:S.tr=[]) (hSn:S.n=0) (hsk:S.stk=false) (hchg:S.chg=List.replicate (2*m) 0) (hK:K.map (·.2)=List.replicate (2*m) 0) (hH:Hires (mcO m) 0 ss S l0 S1 l1)
 {n:Nat} {p':PSt} (hT:Turns (mcO m) n ⟨S1,K,l1⟩ p') :
 ∃ v,p'.S.tr=flat v.L∧p'.S.n=v.L.length∧p'.S.stk=false∧v.l=p'.l∧OV N m cl v∧OT N m cl v∧∀ i,i<N→∃ a,v.l i=.done a:=by
 let v0:Vw:=⟨List.replicate (2*m) 0,false,S.chg,fun i=>(thrI S i).se,l0,[]⟩
 have hs0:Seen ⟨S,K,l0⟩ v0:=⟨hK.symm,hsk.symm,rfl,fun i=>rfl,rfl,htr,hSn,fun i t h=>by rw [ht] at h;cases h⟩
 obtain ⟨v1,hi1,hs1⟩:=hires_hi (K:=K) hH v0 (by rw [ht];rfl) ha hs0
 rw [hss] at hi1
 have z:∀ j,(List.replicate (2*m) (0:Int)).getD j 0=0:=fun j=>by
  rw [List.getD_eq_getElem?_getD,List.getElem?_replicate]
  split<;>rfl
 have hc0:OV 0 m cl v0:=⟨by simp [v0],by show S.chg.length=_;rw [hchg,List.length_replicate],rfl,fun i hi=>by omega,fun o ho=>.inl ⟨z _,by show S.chg.getD _ 0=0;rw [hchg];exact z _⟩,fun i hi=>by omega⟩
 have hci:=hi_on hi1 (by simp) hc0
 rw [List.length_map,List.length_range',Nat.zero_add] at hci
 have hti:=hi_ot (cl:=cl) N hi1 (by simp) (by simp) rfl (fun o=>z _) ⟨trivial,fun o=>rfl,fun o=>rfl,fun t ht=>by omega⟩
 rw [List.length_map,List.length_range',Nat.zero_add] at hti
 have hto:OT N m cl v1:=⟨hti.1,fun o ho=>(by rw [hti.2.1 o] at ho;cases ho),fun o _ hne=>absurd (hti.2.2.1 o) hne,hti.2.2.2⟩
 obtain ⟨a1,a2,a3,a4⟩:=hires_gd (metO m) hH (by rw [ht];rfl) (by omega) (fun i t h=>by rw [ht] at h;cases h)
 have g:Gd (metO m) ⟨S1,K,l1⟩:=⟨by show S1.thr.length≤8;omega,a2⟩
 have key:=turns_gdI (metO m) (I:=fun p=>p.S.thr.length=N∧∃ v,Seen p v∧OV N m cl v∧OT N m cl v) (fun p p1 g h e=>by
  obtain ⟨hl,v,s,hv,hv2⟩:=h
  obtain ⟨v',m1,s1⟩:=pturn_mv (metO m) g s e
  rw [hl] at m1
  exact ⟨(pturn_len e).trans hl,v',s1,oi_mv h0 (by omega) hv m1,ot_mv h0 (by omega) hv hv2 m1⟩) (fun p h=>by
  obtain ⟨hl,v,s,hv,_⟩:=h
  exact on_meets (by omega) hl s hv) hT g ⟨by show S1.thr.length=N;omega,v1,hs1,hci,hto⟩
 obtain ⟨g',⟨hl',v',s',hv',ht'⟩,_⟩:=key
 have hd:=stop_done (metO m) (turns_stop hT) g' s'
 rw [hl'] at hd
 exact ⟨v',s'.tr,s'.n,by rw [←s'.stk];exact hv'.stk,s'.l,hv',ht',hd⟩
end
end Go.Proofs.YtaofjdoielmobaaDoor.Gen
namespace Go.Proofs.YtaofjdoielmobaaDoor.Gen
open Go Go.Lift Go.Conc Go.RowKit
section
variable {P:Program} {Q:Exit→Act→World→Prop} {a:Act} {w:World} {x y c:Code} {R:Act→World→Prop}
theorem wp_then (h:x.wp P (fun e a' w'=>e=.normal∧R a' w') a w) (k:∀ a' w',R a' w'→y.wp P Q a' w'):(Code.seq x y).wp P Q a w :=
 wp_seq (wp_mono h (fun e a w h=>by obtain ⟨rfl,hr⟩:=h;exact k a w hr))
theorem wp_last (h:x.wp P (fun e a' w'=>e=.normal∧R a' w') a w) (k:∀ a' w',R a' w'→Q .normal a' w'):x.wp P Q a w :=
 wp_mono h (fun e a w h=>by obtain ⟨rfl,hr⟩:=h;exact k a w hr)
theorem wp_while {id:Nat} {hd body:Code} {t:Nat} (I:Nat→Act→World→Prop) (n:Nat) (h0:I n a w)
 (head:∀ n a w,I n a w→∃ (J:Act→World→Prop),hd.wp P (fun e a' w'=>e=.normal∧J a' w') a w ∧
   ∀ a' w',J a' w'→(a'.eval (.tmp t)=.bool false∧Q .normal a' w')∨(a'.eval (.tmp t)=.bool true∧body.wp P (Exit.then (fun a'' w''=>∃ n',n'<n∧I n' a'' w'') (Exit.inBlock id Q)) a' w')) :
 (Code.block id (.loop (.seq (.seq hd (.cond (.tmp t) .skip (.exit id))) body))).wp P Q a w:=by
 refine wp_block (wp_loop_ghost I n h0 fun n a w hI=>?_)
 obtain ⟨J,h1,h2⟩:=head n a w hI
 refine wp_seq (wp_then h1 fun a' w' hJ=>?_)
 rcases h2 a' w' hJ with ⟨e,hq⟩|⟨e,hb⟩
 ·refine wp_cond_false e (wp_exit ?_)
  show if id=id then Q .normal a' w' else _
  rw [if_pos rfl]
  exact hq
 ·exact wp_cond_true e (wp_skip hb)
end
def padd (pk:Nat→Option Obj) (b:Nat) (o:Obj):Nat→Option Obj:=fun x=>if x=b then some o else pk x
theorem padd_at (pk:Nat→Option Obj) (b:Nat) (o:Obj):padd pk b o b=some o:=by unfold padd;rw [if_pos rfl]
theorem padd_ne {pk:Nat→Option Obj} {b x:Nat} {o:Obj} (h:x≠b):padd pk b o x=pk x:=by unfold padd;rw [if_neg h]
theorem cell_of {v:World} {b j:Nat} {c:Array Value} {t:TypeId} {f:Nat×Nat} {x:Value} (h:v.heap[b]? = some (.cells c t f)) (hj:c[j]? = some x):v.cell? ⟨b,j,none⟩=some x:=by
 unfold World.cell?
 rw [h]
 exact hj
section
variable {v u u':World} {S S1:TS} {K:List (Nat×Int)} {xs:List Int} {pk:Nat→Option Obj}
theorem Objs.start (hm:Mem zn S [] v) (hch:S.chg=[]):Objs v S [] (fun _=>none) S [] v :=
 ⟨Cel.refl hm,rfl,⟨S.cv,by unfold cellsS;rw [List.length_nil,List.replicate_zero,←hch]⟩,fun b o h=>(by cases h),fun b h=>absurd rfl h,fun b o h=>(by cases h)⟩
theorem Objs.startG (hm:Mem zn S [] v) (hch:S.chg=[]) (hpk:Has pk v) (hf:∀ b,pk b≠none→¬ Own S [] b∧b≠S.bk) (hr:∀ b o,pk b=some o→∃ c e f,o=.cells c e f):Objs v S [] pk S [] v :=
 ⟨Cel.refl hm,rfl,⟨S.cv,by unfold cellsS;rw [List.length_nil,List.replicate_zero,←hch]⟩,hpk,fun b h=>⟨.inr (hf b h).2,(hf b h).1⟩,hr⟩
theorem Objs.push (h:Objs v S xs pk S1 K u) {c:Array Value} {t:TypeId} (e:u'.heap=u.heap.push (.cells c t)) (e1:u'.os=u.os) (e2:u'.output=u.output):Objs v S xs (padd pk u.heap.size (.cells c t)) S1 K u':=by
 refine ⟨h.cel.push e e1 e2,h.vals,h.st,fun b o hb=>?_,fun b hb=>?_,fun b o hb=>?_⟩
 ·by_cases hbu:b=u.heap.size
  ·subst hbu
   rw [padd_at] at hb
   cases hb
   rw [e]
   exact Array.getElem?_push_size
  ·rw [padd_ne hbu] at hb
   have:=h.has b o hb
   have hl:=(Array.getElem?_eq_some_iff.1 this).1
   rw [e,Array.getElem?_push,if_neg (by omega)]
   exact this
 ·by_cases hbu:b=u.heap.size
  ·subst hbu
   exact ⟨.inl h.cel.fr.size,fun ho=>by have:=h.cel.mem.lt ho;omega⟩
  ·rw [padd_ne hbu] at hb
   exact h.new b hb
 ·by_cases hbu:b=u.heap.size
  ·subst hbu
   rw [padd_at] at hb
   cases hb
   exact ⟨_,_,_,rfl⟩
  ·rw [padd_ne hbu] at hb
   exact h.row b o hb
theorem Objs.more (h:Objs v S xs pk S1 K u) {S2:TS} {K2:List (Nat×Int)} {ys:List Int} (c:Cel zn S1 K u S2 K2 u') (hv:K2.map (·.2)=ys) (hs:∃ cv,S2=cellsS S cv ys.length):Objs v S ys pk S2 K2 u':=by
 have hl:∀ b o,pk b=some o→b<u.heap.size:=fun b o hb=>(Array.getElem?_eq_some_iff.1 (h.has b o hb)).1
 refine ⟨h.cel.trans c,hv,hs,fun b o hb=>?_,fun b hb=>?_,h.row⟩
 ·rw [c.fr.block b (hl b o hb) (h.new b (by rw [hb];simp)).2]
  exact h.has b o hb
 ·obtain ⟨o,ho⟩:=Option.ne_none_iff_exists'.1 hb
  refine ⟨(h.new b hb).1,fun ho'=>?_⟩
  rcases c.own b ho' with e|e
  ·exact (h.new b hb).2 e
  ·have:=hl b o ho;omega
theorem Objs.cell (h:Objs v S xs pk S1 K u) (x:Int) (hl:xs.length≤1000000):Calls Tryd.prog 43 #[Pt S.wb 0,I x] u (fun e w'=>∃ cb,e=.returned (Pt cb 0)∧u.heap.size≤w'.heap.size∧∃ S2,Objs v S (xs++[x]) pk S2 (K++[(cb,x)]) w'):=by
 obtain ⟨cv,rfl⟩:=h.st
 have h10:=(body10 h.cel.mem x (by show (List.replicate xs.length (0:Int)).length≤_;simp;omega)).calls Tryd.func43 rfl
 refine h10.mono ?_
 rintro e w' ⟨r,rfl,cb,cv',rfl,hm1,hf1,hn1⟩
 refine ⟨cb,rfl,hf1.size,_,h.more ⟨hm1,hf1,hn1⟩ (by rw [List.map_append,h.vals];rfl) ⟨cv',?_⟩⟩
 unfold celledS cellsS
 simp only [List.length_append,List.length_cons,List.length_nil,Nat.zero_add,List.replicate_succ']
end
def TrL (g:Nat) (L:List Stp) (v:World):Prop:=∀ (k:Nat) (s:Stp),L[k]? = some s→v.cell? ⟨g,k*5,none⟩=some (I s.th)∧v.cell? ⟨g,k*5+1,none⟩=some (I s.ce)∧v.cell? ⟨g,k*5+2,none⟩=some (I s.op)∧v.cell? ⟨g,k*5+3,none⟩=some (I s.ol)∧v.cell? ⟨g,k*5+4,none⟩=some (I s.ne)
theorem grow_cell {v v':World} (g:Grows v v') {a:Addr} {x:Value} (h:v.cell? a=some x):v'.cell? a=some x:=by
 rw [World.cell?_of_block (w:=v) (w':=v') (g.old _ (World.block_lt_of_cell? _ _ h))];exact h
structure RK (n M b o:Nat) (A ln cp rb ro:Nat→Nat) (pc:Nat→Option Addr) (cl:Nat→List Cl) (l:Nat→Ph) (v:World):Prop where
 ar:∀ k,k<n→v.cell? ⟨M,k,none⟩=some (.slice (some ⟨A k,0,none⟩) (ln k) (ln k))
 an:∀ k,k<n→∀ (j:Nat) (q:Int×Int),(l k).ans[j]? = some q→v.cell? ⟨A k,j*2,none⟩=some (I q.1)∧v.cell? ⟨A k,j*2+1,none⟩=some (I q.2)
 sr:∀ k,k<n→v.cell? ⟨b,o+k,none⟩=some (.slice (pc k) (ln k) (cp k))
 pq:∀ k,k<n→0<ln k→pc k=some ⟨rb k,ro k,none⟩
 sa:∀ k,k<n→∀ (j:Nat) (c:Cl),(cl k)[j]? = some c→v.cell? ⟨rb k,ro k+j*4,none⟩=some (I c.po)∧v.cell? ⟨rb k,ro k+j*4+1,none⟩=some (I c.ca)
theorem RK.go {n M b o:Nat} {A ln cp rb ro:Nat→Nat} {pc:Nat→Option Addr} {cl:Nat→List Cl} {l:Nat→Ph} {v v':World} (h:RK n M b o A ln cp rb ro pc cl l v) (g:∀ q,q<v.heap.size→v'.heap[q]? = v.heap[q]?):RK n M b o A ln cp rb ro pc cl l v':=by
 have hc:∀ (a:Addr) (x:Value),v.cell? a=some x→v'.cell? a=some x:=fun a x ha=>by rw [World.cell?_of_block (w:=v) (w':=v') (g _ (World.block_lt_of_cell? _ _ ha))];exact ha
 exact ⟨fun k hk=>hc _ _ (h.ar k hk),fun k hk j q hq=>⟨hc _ _ (h.an k hk j q hq).1,hc _ _ (h.an k hk j q hq).2⟩,fun k hk=>hc _ _ (h.sr k hk),h.pq,fun k hk j c hj=>⟨hc _ _ (h.sa k hk j c hj).1,hc _ _ (h.sa k hk j c hj).2⟩⟩
theorem TrL.go {g:Nat} {L:List Stp} {v v':World} (h:TrL g L v) (q:∀ b,b<v.heap.size→v'.heap[b]? = v.heap[b]?):TrL g L v':=fun k s hs=>by
 have hc:∀ (a:Addr) (x:Value),v.cell? a=some x→v'.cell? a=some x:=fun a x ha=>by rw [World.cell?_of_block (w:=v) (w':=v') (q _ (World.block_lt_of_cell? _ _ ha))];exact ha
 obtain ⟨h1,h2,h3,h4,h5⟩:=h k s hs
 exact ⟨hc _ _ h1,hc _ _ h2,hc _ _ h3,hc _ _ h4,hc _ _ h5⟩
end Go.Proofs.YtaofjdoielmobaaDoor.Gen
