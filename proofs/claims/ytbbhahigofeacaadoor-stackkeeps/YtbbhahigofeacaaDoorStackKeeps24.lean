/- Of the proof of StackKeeps. Part 24 of 33. (Joined, by program, and written short, of: StKf, StV3, StKg, GWp, GRK, GL12, GEnd, GIns, GWb, GFin, La9P, La7a.) -/
import Derived.Test.YtbbhahigofeacaaDoorStackKeeps11
import Derived.Test.YtbbhahigofeacaaDoorStackKeeps14
import Derived.Test.YtbbhahigofeacaaDoorStackKeeps17
import Derived.Test.YtbbhahigofeacaaDoorStackKeeps22
import Derived.Test.YtbbhahigofeacaaDoorStackKeeps23
import Derived.Deep.LoopGhost
import Derived.Deep.OwnRows
import Derived.Deep.RegionWith
import Derived.Deep.RegionHeld3
import Derived.BigQuiet
set_option linter.unusedSimpArgs false
set_option linter.unusedVariables false
set_option maxHeartbeats 4000000
set_option maxRecDepth 100000
namespace Go.Proofs.YtbbhahigofeacaaDoor.Gen
open Go Go.Lift Go.Conc Go.RowKit
open R1 (fstI verI hdI)
open Go.ConcN (upd upd_same upd_ne)
def B8 (j:Nat) (L:List Stp):Int:=L.foldl (fun x s=>if s.ce=(j:Int)∧s.op≤5 then s.ne else x) 0
theorem last_notes {j:Nat}:∀ (X:List Stp) (x:Int),(∀ s∈X,s.ce=-1)->X.foldl (fun x s=>if s.ce=(j:Int)∧s.op≤5 then s.ne else x) x=x
 | [],x,_=>rfl
 |s :: X,x,h=>by
  have h0:=h s (by simp)
  show X.foldl _ (if s.ce=(j:Int)∧s.op≤5 then s.ne else x)=x
  rw[if_neg (by omega)]
  exact last_notes X x (fun s hs=>h s (by simp[hs]))
theorem lastL_app {j:Nat}{L:List Stp}{s:Stp}{X:List Stp}(h:∀ s∈X,s.ce=-1):B8 j (L++s :: X)=if s.ce=(j:Int)∧s.op≤5 then s.ne else B8 j L:=by
 unfold B8
 rw[List.foldl_append]
 show X.foldl _ (if s.ce=(j:Int)∧s.op≤5 then s.ne else _)=_
 exact last_notes X _ h
theorem opT_le (q:Q):opT q≤5:=by
 unfold opT
 split<;>decide
theorem KI.mono {N n B B':Nat}{C:Nat->Int}{s:Nat->Option Q}{F S:List Nat}(h:KI N n B C s F S) (hB:B≤B'):KI N n B' C s F S :=
 ⟨h.fr,h.st,h.nd,h.lt,⟨h.va.lo,h.va.hi,by have:=h.va.ver;omega⟩,⟨h.vb.lo,h.vb.hi,by have:=h.vb.ver;omega⟩,h.sit⟩
structure TI (N n:Nat) (sc:Nat->List Cl) (v:Vw) (F S:List Nat):Prop where
 ki:KI N n v.L.length (fun j=>v.K.getD j 0) (fun i=>H8 (v.l i)) F S
 sit:∀ i,i<N->SeatC n (fun j=>v.K.getD j 0) (sc i) (v.l i)
 bal:∀ z,totN (fun k=>(putP (sc k) (v.l k)).count z) N=totN (fun k=>(tolP (sc k) (v.l k)).count z+(flP n (fun j=>v.K.getD j 0) (v.l k)).count z) N+(S.map fun a=>v.K.getD (vlJ n a) 0).count z
 tr:∀ j,2*n+1≤j->B8 j v.L=v.K.getD j 0
section
variable {N n:Nat}{sc:Nat->List Cl}
theorem ti_turn (hn:n≤1000) {v v1:Vw}{F S:List Nat}(h:TI N n sc v F S) (hB:v.L.length≤400000) (hat:∀ k,k<N->∀ q,H8 (v.l k)=some q->∃ j,atT n q j) {i:Nat}(hi:i<N) {op:Int}{j:Nat}{q:Q}{rest:List Cl}{ii:Nat}{ans:List (Int×Int)}(hl:v.l i=.turn op j q rest ii ans) (hop:op≤5)
 (ha:atT n q j) (hjl:j<v.K.length) (hx:okT n j (v.K.getD j 0)) {stk:Bool} {X:List Stp} {l':Ph} {o:Int} (hon:On (mcT n) i stk rest ii ans (Ai n q (v.K.getD j 0)).2.2 X l') (els:Els i l' v v1) (hK:v1.K=v.K.set j (Ai n q (v.K.getD j 0)).2.1) (hL:v1.L=v.L++(⟨i,j,op,o,(Ai n q (v.K.getD j 0)).2.1⟩:Stp) :: X):∃ F' S',TI N n sc v1 F' S':=by
 have eC:(fun k=>v1.K.getD k 0)=upd (fun k=>v.K.getD k 0) j (Ai n q (v.K.getD j 0)).2.1:=by
  funext k
  rw[hK]
  by_cases e:k=j
  ·subst e
   rw[upd_same]
   exact G7 hjl
  ·rw[upd_ne _ _ e]
   exact getD_set_far e
 have es:(fun k=>H8 (v1.l k))=upd (fun k=>H8 (v.l k)) i (H8 l'):=by
  funext k
  rw[els.l]
  by_cases e:k=i
  ·subst e;rw[upd_same,upd_same]
  ·rw[upd_ne _ _ e,upd_ne _ _ e]
 obtain ⟨hX,_⟩:=on_notes hon
 have hsi:=h.sit i hi
 rw[hl] at hsi
 obtain ⟨c1,c2,c3,c4⟩:=hsi
 have hsq:H8 (v.l i)=some q:=by rw[hl];rfl
 have hki:=h.ki
 have hst0:=h.sit
 have hbal:=h.bal
 have htr:=h.tr
 clear h
 generalize hCC:(fun j=>v.K.getD j 0)=C at *
 have hCj:∀ k,v.K.getD k 0=C k:=fun k=>by rw[←hCC]
 rw[hCj j] at hx hon hK hL eC
 obtain ⟨o1,o2,o3,o4⟩:=on_c hon (sc i) (upd C j (Ai n q (C j)).2.1) c1 c2 c3 (fun e x he=>turnT_e he) (turnT_nw q _) (fun op' j' q' he=>call_next ha c4 he)
 obtain ⟨F',S',hKI,hS⟩:=ki_turn hn hki hB hat hi (q:=q) (j:=j) hsq ha hx o2
 have hvs:∀ a',(q.1=5->a'≠(q.2.getD 1 0).toNat)->upd C j (Ai n q (C j)).2.1 (vlJ n a')=C (vlJ n a'):=fun a' h=>vl_same ha h
 have hb:=(bal_i (sc:=sc i) (ans:=ans) (ii:=ii) ha c4 hS hvs o3 o4).eq
 have hown:q.1=5->ownQ q=some (q.2.getD 1 0).toNat:=fun e=>by unfold ownQ;simp only[e]
 have hoth:∀ k,k<N->k≠i->∀ q',H8 (v.l k)=some q'->∀ a',ownQ q'=some a'->upd C j (Ai n q (C j)).2.1 (vlJ n a')=C (vlJ n a'):=fun k hk hne q' hq' a' ha'=>hvs a' (fun e5 e=>by
  have:=(hki.sit i hi q hsq).2 _ (hown e5)
  exact this.2 k hk hne q' hq' (by rw[ha',e]))
 have hSv:∀ a,a∈S->upd C j (Ai n q (C j)).2.1 (vlJ n a)=C (vlJ n a):=fun a haS=>hvs a (fun e5 e=>by
  have:=(hki.sit i hi q hsq).2 _ (hown e5)
  exact this.1 (List.mem_append_right _ (e▸haS)))
 have hSv':∀ a,a∈S'->upd C j (Ai n q (C j)).2.1 (vlJ n a)=C (vlJ n a):=fun a haS=>by
  rcases hS with hs|hs|hs
  ·exact hvs a (fun e5=>by have:=hs.1;omega)
  ·exact hvs a (fun e5=>by have:=hs.1;omega)
  ·exact hSv a (by rw[←hs.2.2];exact haS)
 have hfl:∀ k,k<N->k≠i->flP n (upd C j (Ai n q (C j)).2.1) (v.l k)=flP n C (v.l k):=fun k hk hne=>by
  cases hlk:v.l k with
  |turn op1 j1 q1 r1 k1 a1 =>
   show flQ n _ q1=flQ n C q1
   unfold flQ
   by_cases e:q1.1=14
   ·rw[if_pos e,if_pos e,hoth k hk hne q1 (by rw[hlk];rfl) _ (by unfold ownQ;simp only[e])]
   ·rw[if_neg e,if_neg e]
  |wait _ _ _ _ _=>rfl
  |done _=>rfl
 refine ⟨F',S',⟨?_,fun k hk=>?_,fun z=>?_,fun j0 hj0=>?_⟩⟩
 ·rw[eC,es]
  exact hKI.mono (by rw[hL];simp)
 ·rw[eC,els.l]
  by_cases e:k=i
  ·subst e;rw[upd_same];exact o1
  ·rw[upd_ne _ _ e]
   have hk0:=hst0 k hk
   cases hlk:v.l k with
   |turn op1 j1 q1 r1 k1 a1 =>
    rw[hlk] at hk0
    refine ⟨hk0.1,hk0.2.1,hk0.2.2.1,⟨hk0.2.2.2.p1,hk0.2.2.2.p2,hk0.2.2.2.v1,fun h6 h8=>?_⟩⟩
    rw[hoth k hk e q1 (by rw[hlk];rfl) _ (by unfold ownQ;obtain ⟨x,y⟩:=q1;simp only at h6 h8 ⊢;obtain rfl|rfl|rfl:x=6∨x=7∨x=8:=by omega
                                             all_goals rfl)]
    exact hk0.2.2.2.v2 h6 h8
   |wait _ _ _ _ _=>rw[hlk] at hk0;exact hk0
   |done _=>rw[hlk] at hk0;exact hk0
 ·rw[eC]
  have eS':(S'.map fun a=>v1.K.getD (vlJ n a) 0)=S'.map fun a=>C (vlJ n a):=List.map_congr_left fun a ha=>by
   have:=congrFun eC (vlJ n a)
   exact this.trans (hSv' a ha)
  rw[eS']
  have h0:=hbal z
  have eS:(S.map fun a=>v.K.getD (vlJ n a) 0)=S.map fun a=>C (vlJ n a):=List.map_congr_left fun a ha=>hCj _
  rw[eS] at h0
  have t1:=totN_one (f:=fun k=>(putP (sc k) (v.l k)).count z) (g:=fun k=>(putP (sc k) (v1.l k)).count z) (i:=i) N hi (fun k hk hne=>by show (putP (sc k) (v1.l k)).count z=_;rw[els.l,upd_ne _ _ hne])
  have t2:=totN_one (f:=fun k=>(tolP (sc k) (v.l k)).count z+(flP n C (v.l k)).count z) (g:=fun k=>(tolP (sc k) (v1.l k)).count z+(flP n (upd C j (Ai n q (C j)).2.1) (v1.l k)).count z) (i:=i) N hi (fun k hk hne=>by
   show (tolP (sc k) (v1.l k)).count z+(flP n _ (v1.l k)).count z=_
   rw[els.l,upd_ne _ _ hne,hfl k hk hne])
  have hbz:=hb z
  have hli:v1.l i=l':=by rw[els.l,upd_same]
  simp only[hli,hl] at t1 t2
  have e1:putP (sc i) (.turn op j q rest ii ans)=putL (sc i) ans ii:=rfl
  have e2:tolP (sc i) (.turn op j q rest ii ans)=tolL (sc i) ans ii:=rfl
  have e3:flP n C (.turn op j q rest ii ans)=flQ n C q:=rfl
  rw[e1] at t1
  rw[e2,e3] at t2
  omega
 ·have e1:=congrFun eC j0
  have e1:v1.K.getD j0 0=upd C j (Ai n q (C j)).2.1 j0:=e1
  rw[e1,hL,lastL_app hX]
  by_cases e:j0=j
  ·subst e
   rw[if_pos ⟨rfl,hop⟩,upd_same]
  ·rw[if_neg (fun h=>e (by have:(j:Int)=(j0:Int):=h.1;omega)),upd_ne _ _ e,htr j0 hj0]
   exact hCj j0
theorem ti_mv (hn:n≤1000) {p:PSt}{v v1:Vw}(g:Mw.Gd (mc:=mcT n) p) (hB:p.S.n≤400000) (s:Seen p v) (hN:p.S.thr.length=N) (hV:VI N n v) (h:∃ F S,TI N n sc v F S) (m:Mv (mcT n) N v v1):∃ F S,TI N n sc v1 F S:=by
 obtain ⟨F,S,h⟩:=h
 have hsit:∀ i,i<N->Mw.sits (mc:=mcT n) p.K.length (v.l i):=fun i hi=>by
  obtain ⟨t,ht⟩:∃ t,p.S.thr[i]? = some t:=⟨_,List.getElem?_eq_getElem (by omega)⟩
  rw[s.l]
  exact (g.sit i t ht).2.2
 have hL:v.L.length≤400000:=by have:=s.n;omega
 have nowait:∀ i,i<N->∀ j q r k a,v.l i≠.wait j q r k a:=fun i hi j q r k a e=>by
  have:=hsit i hi
  rw[e] at this
  exact this
 have hat:∀ k,k<N->∀ q,H8 (v.l k)=some q->∃ j,atT n q j:=fun k hk q hq=>by
  cases hlk:v.l k with
  |turn op j q1 r k1 a =>
   rw[hlk] at hq
   cases hq
   have:=hsit k hk
   rw[hlk] at this
   exact ⟨j,this.1 hn⟩
  |wait _ _ _ _ _=>rw[hlk] at hq;cases hq
  |done _=>rw[hlk] at hq;cases hq
 cases m with
 |stuck _ _ h3 _=>obtain ⟨i,hi,j,q,r,k,a,e⟩:=h3;exact absurd e (nowait i hi j q r k a)
 |wake i j q rest ii ans X l' hi hl _ _ _ _ _ _ _ _=>exact absurd hl (nowait i hi _ _ _ _ _)
 |free i j q rest ii ans X l' hi hl _ _ _ _ _ _ _=>exact absurd hl (nowait i hi _ _ _ _ _)
 |turn i op j q rest ii ans X l' hi hl hon els hK _ _ hLL =>
  have hse:=hV.sit i hi
  rw[hl] at hse
  have hst:=hsit i hi
  rw[hl] at hst
  have ha:atT n q j:=hst.1 hn
  have hjl:j<v.K.length:=by rw[s.K,List.length_map];exact hst.2
  have hx:okT n j (v.K.getD j 0):=by
   have e:v.K.getD j 0=(cellAt p.K j).2:=by rw[s.K];exact getD_cell p.K j
   rw[e]
   unfold cellAt
   rw[List.getElem?_eq_getElem hst.2]
   exact g.kok j _ (List.getElem?_eq_getElem hst.2) hn
  have hset:(mcT n).set v.stk ((mcT n).turn q (v.K.getD j 0)).2.2=(Ai n q (v.K.getD j 0)).2.2:=Mw.set_turn (mc:=mcT n) v.stk (turnT_nw q (v.K.getD j 0))
  rw[hset] at hon
  have hK:v1.K=v.K.set j (Ai n q (v.K.getD j 0)).2.1:=hK
  have hLL:v1.L=v.L++(⟨i,j,op,(Ai n q (v.K.getD j 0)).1.1,(Ai n q (v.K.getD j 0)).1.2⟩:Stp) :: X:=hLL
  have ho:=turn_old (n:=n) q (v.K.getD j 0)
  rw[ho] at hLL
  exact ti_turn hn h hL hat hi hl (by rw[hse.1];exact opT_le q) ha hjl hx hon els hK hLL
end
theorem hi_v {n k:Nat}{cs:List (List Cl)}{v v':Vw}(h:Hi (mcT n) k cs v v'):(∀ s∈v.L,s.ce=-1)->(∀ i,i<k->SeatV vr0 i (v.l i))->(∀ s∈v'.L,s.ce=-1)∧(∀ i,i<k+cs.length->SeatV vr0 i (v'.l i))∧v'.K=v.K∧v'.stk=v.stk:=by
 induction h with
 |nil=>exact fun h1 h2=>⟨h1,fun i hi=>h2 i (by simpa using hi),rfl,rfl⟩
 |@cons k c cs v v1 v2 X l' hf hK hsk _ hL els _ ih =>
  intro h1 h2
  obtain ⟨hX,hl'⟩:=fw_notes hf
  obtain ⟨i1,i2,i3⟩:=ih (fun s hs=>by
   rw[hL] at hs
   rcases List.mem_append.1 hs with hs|hs
   ·exact h1 s hs
   ·exact hX s hs) (fun i hi=>by
   rw[els.l]
   by_cases e:i=k
   ·subst e
    rw[upd_same]
    rcases hl' with ⟨a,rfl⟩|⟨c,op,j,q,r,k1,a,e,rfl⟩|⟨c,j,q,r,k1,a,e,rfl⟩
    ·trivial
    ·exact start_seat e _ _ _ _ _
    ·trivial
   ·rw[upd_ne _ _ e]
    exact h2 i (by omega))
  exact ⟨i1,fun i hi=>i2 i (by simp only[List.length_cons] at hi;omega),i3.1.trans hK,i3.2.trans hsk⟩
theorem sts_hd (n:Nat):(sts n n).getD (hdJ n) 0=0:=by
 rw[List.getD_eq_getElem?_getD]
 cases h:(sts n n)[hdJ n]? with
 |none=>rfl
 |some x =>
  show x=0
  rcases sts_get n n (hdJ n) x h with h|⟨_,rfl⟩
  ·have:=(List.getElem?_eq_some_iff.1 h).1
   rw[Ek] at this
   unfold hdJ at this
   omega
  ·rfl
theorem sts_free (n:Nat):(sts n n).getD 0 0=hdI (bh 0 n) 0∧∀ i,i<n->(sts n n).getD (nxJ i) 0=bh (i+1) n:=by
 have hlen:=Fb n n
 refine ⟨?_,fun i hi=>?_⟩
 ·have h:(sts n n)[0]? = some ((sts n n)[0]'(by omega)):=List.getElem?_eq_getElem _
  rw[List.getD_eq_getElem?_getD,h]
  rcases sts_get n n 0 _ h with h1|h1
  ·rcases nxs_get n n 0 _ h1 with h2|⟨i,_,h2,_⟩|⟨i,_,h2,_⟩
   ·exact h2.2
   ·unfold nxJ at h2;omega
   ·unfold usJ at h2;omega
  ·omega
 ·have hl:nxJ i<(sts n n).length:=by unfold nxJ;omega
  have h:(sts n n)[nxJ i]? = some ((sts n n)[nxJ i]'hl):=List.getElem?_eq_getElem _
  rw[List.getD_eq_getElem?_getD,h]
  rcases sts_get n n _ _ h with h1|h1
  ·rcases nxs_get n n _ _ h1 with h2|⟨k,_,h2,h3⟩|⟨k,_,h2,_⟩
   ·have:=h2.1;unfold nxJ at this;omega
   ·have:k=i:=by unfold nxJ at h2;omega
    subst this
    exact h3
   ·unfold usJ nxJ at h2;omega
  ·have:=h1.1;unfold nxJ at this;omega
theorem lnk_free {n:Nat}{nx:Nat->Int}(h:∀ i,i<n->nx i=bh (i+1) n):∀ m,m≤n->Lnk nx (bh (n - m) n) (List.range' (n - m) m)
 |0,_=>by
  show bh (n - 0) n=0
  unfold bh;simp
 |m+1,hm=>by
  have e:n - m=n - (m+1)+1:=by omega
  have ih:=lnk_free h m (by omega)
  rw[e] at ih
  refine ⟨?_,?_⟩
  ·unfold bh;rw[if_neg (by omega)]
  ·rw[h _ (by omega)]
   exact ih
theorem hi_k {n:Nat}(C:Nat->Int) (sc:Nat->List Cl) {k:Nat}{cs:List (List Cl)}{v v':Vw}(h:Hi (mcT n) k cs v v'):(∀ m c,cs[m]? = some c->sc (k+m)=c) ->
 (∀ i,i<k->SeatC n C (sc i) (v.l i)∧putP (sc i) (v.l i)=[]∧tolP (sc i) (v.l i)=[]∧flP n C (v.l i)=[]∧(H8 (v.l i)=none∨∃ q',H8 (v.l i)=some q'∧(q'.1=1∨q'.1=11))) ->
 ∀ i,i<k+cs.length->SeatC n C (sc i) (v'.l i)∧putP (sc i) (v'.l i)=[]∧tolP (sc i) (v'.l i)=[]∧flP n C (v'.l i)=[]∧(H8 (v'.l i)=none∨∃ q',H8 (v'.l i)=some q'∧(q'.1=1∨q'.1=11)):=by
 induction h with
 |nil=>exact fun _ h2 i hi=>h2 i (by simpa using hi)
 |@cons k c cs v v1 v2 X l' hf hK hsk _ hL els _ ih =>
  intro hc h2 i hi
  refine ih (fun m c' h=>?_) (fun i hi=>?_) i (by simp only[List.length_cons] at hi;omega)
  ·have:=hc (m+1) c' (by simpa using h)
   rw[←this]
   congr 1
   omega
  ·rw[els.l]
   by_cases e:i=k
   ·subst e
    rw[upd_same]
    have hs:sc i=c:=hc 0 c rfl
    obtain ⟨a1,a2,a3,a4,a5⟩:=fw_c hf (sc i) C rfl (Nat.zero_le _) (by rw[hs];rfl) (by rw[hs,List.length_replicate])
    exact ⟨a1,a2,a3,a4,a5⟩
   ·rw[upd_ne _ _ e]
    exact h2 i (by omega)
theorem totN_zero {f:Nat->Nat}:∀ N,(∀ k,k<N->f k=0)->totN f N=0
 |0,_=>rfl
 |N+1,h=>by unfold totN;rw[totN_zero N (fun k hk=>h k (by omega)),h N (by omega)]
theorem last_none {j:Nat}{L:List Stp}(h:∀ s∈L,s.ce=-1):B8 j L=0:=last_notes L 0 h
theorem sts_hi {n j:Nat}(h:2*n+1≤j):(sts n n).getD j 0=0:=by
 rw[List.getD_eq_getElem?_getD]
 cases e:(sts n n)[j]? with
 |none=>rfl
 |some x =>
  show x=0
  rcases sts_get n n j x e with h1|⟨_,rfl⟩
  ·have:=(List.getElem?_eq_some_iff.1 h1).1
   rw[Ek] at this
   omega
  ·rfl
theorem keeps_run {n:Nat}(hn:n≤1000) {ss:List (Scr (mcT n))}{N:Nat}{S S1:TS}{l0 l1:Nat->Ph}{K:List (Nat×Int)}{m:Nat}{p':PSt}
 (hN:ss.length=N) (hN8:N≤8) (hl:lens ss≤512) (ha:∀ x∈ss,x.ans=List.replicate x.calls.length (0,0)) (ht:S.thr=[]) (htr:S.tr=[]) (hSn:S.n=0) (hsk:S.stk=false) (hK:K.map (·.2)=sts n n)
 (hH:Hires (mcT n) 0 ss S l0 S1 l1) (hT:Turns (mcT n) m ⟨S1,K,l1⟩ p') (sc:Nat->List Cl) (hsc:∀ k c,ss[k]? = some c->sc k=c.calls) :
 ∃ L R,∃ an:Nat->List (Int×Int),p'.S.tr=flat L∧p'.S.n=L.length∧L.length≤400000∧p'.S.stk=false∧vall (hdJ n) N vr0 L∧(∀ i,i<N->p'.l i=.done (an i)∧(an i).length=(sc i).length) ∧
   Lnk (fun i=>B8 (lkJ n i) L) (fstI (B8 (hdJ n) L)) R∧R.Nodup∧(∀ a∈R,a<n)∧(0≤B8 (hdJ n) L∧B8 (hdJ n) L<4611686018427387904) ∧
   ∀ z,totN (fun k=>(putL (sc k) (an k) (sc k).length).count z) N=totN (fun k=>(tolL (sc k) (an k) (sc k).length).count z) N+(R.map fun a=>B8 (vlJ n a) L).count z:=by
 have hcell:=cells_T hn hK
 have hkok:=kok_T hK
 let v0:Vw:=⟨K.map (·.2),false,S.chg,fun i=>(thrI S i).se,l0,[]⟩
 have hs0:Seen ⟨S,K,l0⟩ v0:=⟨rfl,hsk.symm,rfl,fun i=>rfl,rfl,htr,hSn,fun i t h=>by rw[ht] at h;cases h⟩
 obtain ⟨v1,hi1,hs1⟩:=hires_hi (K:=K) hH v0 (by rw[ht];rfl) ha hs0
 obtain ⟨w1,w2,w3,w4⟩:=hi_v hi1 (fun s hs=>by cases hs) (fun i hi=>by omega)
 have w5:=hi_k (fun j=>v1.K.getD j 0) sc hi1 (fun m c h=>by
  rw[List.getElem?_map] at h
  cases e:ss[m]? with
  |none=>rw[e] at h;cases h
  |some x =>
   rw[e] at h
   cases h
   rw[Nat.zero_add]
   exact hsc m x e) (fun i hi=>by omega)
 rw[List.length_map,hN,Nat.zero_add] at w2 w5
 have hnot:=v_notes (hd:=hdJ n) (N:=N) v1.L vr0 w1
 have hKl:K.length=2*n+2+2*n:=by have:=congrArg List.length hK;rw[List.length_map,Fb] at this;exact this
 have hv1K:v1.K=sts n n:=by rw[w3];exact hK
 have hV:VI N n v1:=by
  refine ⟨hnot.2,?_,?_,?_,?_,?_,fun i hi=>?_⟩
  ·rw[hv1K,Fb];unfold hdJ;omega
  ·rw[hnot.1,hv1K,sts_hd];rfl
  ·rw[hnot.1,hv1K,sts_hd];rfl
  ·rw[hv1K,sts_hd];omega
  ·rw[hnot.1];exact Nat.zero_le _
  ·rw[hnot.1];exact w2 i hi
 have hTI:TI N n sc v1 (List.range' 0 n) []:=by
  have hb:=bh_in 0 n (by omega)
  have hf:=sts_free n
  refine ⟨⟨?_,?_,?_,?_,?_,?_,fun i hi q hq=>?_⟩,fun i hi=>(w5 i hi).1,fun z=>?_,fun j hj=>?_⟩
  ·show Lnk (fun i=>v1.K.getD (nxJ i) 0) (fstI (v1.K.getD 0 0)) _
   rw[hv1K,hf.1,R1.fst_hd hb.1 (by omega) (by omega)]
   have:=lnk_free hf.2 n (Nat.le_refl _)
   rw[Nat.sub_self] at this
   exact this
  ·show fstI (v1.K.getD (hdJ n) 0)=0
   rw[hv1K,sts_hd]
   exact R1.fstI_zero
  ·rw[List.append_nil]
   exact List.nodup_range'
  ·intro a ha
   rw[List.append_nil,List.mem_range'] at ha
   obtain ⟨k,hk,rfl⟩:=ha
   omega
  ·show HdI (v1.K.getD 0 0) _
   rw[hv1K,hf.1]
   have:=hd_low hb.1 (by omega:bh 0 n<4294967296) (v:=0) (by omega)
   exact ⟨this.1,this.2,by rw[sh_hd hb.1 (by omega) (by omega) (by omega)];omega⟩
  ·show HdI (v1.K.getD (hdJ n) 0) _
   rw[hv1K,sts_hd]
   exact ⟨by omega,by omega,by unfold sh;omega⟩
  ·have hq:H8 (v1.l i)=some q:=hq
   rcases (w5 i hi).2.2.2.2 with e|⟨q',e,e'⟩
   ·rw[e] at hq;cases hq
   ·rw[e] at hq
    cases hq
    obtain ⟨z1,z2⟩:=sk_start (n:=n) (C:=fun j=>v1.K.getD j 0) e'
    exact ⟨z1,fun a ha=>by rw[z2] at ha;cases ha⟩
  ·rw[totN_zero N (fun k hk=>by rw[(w5 k hk).2.1];rfl),totN_zero N (fun k hk=>by rw[(w5 k hk).2.2.1,(w5 k hk).2.2.2.1];rfl)]
   rfl
  ·rw[last_none w1,hv1K,sts_hi hj]
 obtain ⟨a1,a2,a3,a4⟩:=Mw.hires_gd (metT n hn) K.length hcell hH (by rw[ht];rfl) (by omega) (fun i t h=>by rw[ht] at h;cases h)
 have g:Mw.Gd (mc:=mcT n) ⟨S1,K,l1⟩:=⟨by show S1.thr.length≤8;omega,hkok,a2⟩
 have hm:=Mw.mu_le (metT n hn) ⟨S1,K,l1⟩ g.len
 have hL6:(metT n hn).L=6:=rfl
 rw[ht] at a4
 simp only[List.length_nil,List.range_zero,List.map_nil,List.sum_nil] at a4
 have hmu:S1.n+Mw.mu (metT n hn) ⟨S1,K,l1⟩≤400000:=by
  have:Mw.mu (metT n hn) ⟨S1,K,l1⟩≤40+64*((List.range S1.thr.length).map fun i=>Mw.tot (metT n hn) (l1 i)).sum:=hm
  rw[hL6] at a4
  omega
 have hlen1:S1.thr.length=N:=by omega
 obtain ⟨v',⟨hI,F',R,hTI'⟩,hs',hlen,hd,g',hB'⟩:=turns_mvW (metT n hn) (N:=N) (B:=400000) (Inv:=fun v=>VI N n v∧∃ F R,TI N n sc v F R) (fun p v v1 gp hN hB sp hv hmv=>⟨stack_mv hn gp hB sp hN hv.1 hmv,ti_mv hn gp hB sp hN hv.1 hv.2 hmv⟩) hT v1 (by show S1.thr.length=N;omega) g (by show Mw.Cells K.length;exact hcell) hmu hs1 ⟨hV,_,_,hTI⟩
 have hst:=(Mw.turns_gd (metT n hn) hT g (by show Mw.Cells K.length;exact hcell)).2.2.1
 have hst1:S1.stk=false:=by have:=hs1.stk;rw[w4] at this;exact this.symm
 have hnd:=hTI'.ki.nd
 have hlk:∀ k,v'.K.getD (lkJ n k) 0=B8 (lkJ n k) v'.L:=fun k=>(hTI'.tr _ (by unfold lkJ;omega)).symm
 have hvl:∀ k,v'.K.getD (vlJ n k) 0=B8 (vlJ n k) v'.L:=fun k=>(hTI'.tr _ (by unfold vlJ;omega)).symm
 have hdone:∀ i,i<N->v'.l i=.done (v'.l i).ans:=fun i hi=>by
  obtain ⟨a,ha⟩:=hd i hi
  rw[ha]
  rfl
 refine ⟨v'.L,R,fun i=>(v'.l i).ans,hs'.tr,hs'.n,by have:=hs'.n;omega,hst.trans hst1,hI.all,fun i hi=>⟨by rw[←hs'.l];exact hdone i hi,?_⟩,?_,(List.nodup_append.1 hnd).2.1,fun a ha=>hTI'.ki.lt a (List.mem_append_right _ ha),by rw[hTI'.tr _ (by unfold hdJ;omega)];exact ⟨hTI'.ki.vb.lo,hTI'.ki.vb.hi⟩,fun z=>?_⟩
 ·have:=hTI'.sit i hi
  rw[hdone i hi] at this
  exact this
 ·have:=hTI'.ki.st
  rw[hTI'.tr _ (by unfold hdJ;omega)]
  exact this.same (fun a _=>(hlk a).symm)
 ·have h0:=hTI'.bal z
  have e1:totN (fun k=>(putP (sc k) (v'.l k)).count z) N=totN (fun k=>(putL (sc k) (v'.l k).ans (sc k).length).count z) N:=Ii N (fun k hk=>by
   show (putP (sc k) (v'.l k)).count z=(putL (sc k) (v'.l k).ans (sc k).length).count z
   rw[hdone k hk]
   rfl)
  have e2:totN (fun k=>(tolP (sc k) (v'.l k)).count z+(flP n (fun j=>v'.K.getD j 0) (v'.l k)).count z) N=totN (fun k=>(tolL (sc k) (v'.l k).ans (sc k).length).count z) N:=Ii N (fun k hk=>by
   show (tolP (sc k) (v'.l k)).count z+_=(tolL (sc k) (v'.l k).ans (sc k).length).count z
   rw[hdone k hk]
   rfl)
  have e3:(R.map fun a=>v'.K.getD (vlJ n a) 0)=R.map fun a=>B8 (vlJ n a) v'.L:=List.map_congr_left fun a _=>hvl a
  rw[e1,e2,e3] at h0
  exact h0
end Go.Proofs.YtbbhahigofeacaaDoor.Gen
namespace Go.Proofs.YtbbhahigofeacaaDoor.Gen
open Go Go.Lift Go.Conc Go.RowKit
section
variable {P:Program}{Q:Exit->Act->World->Prop}{a:Act}{w:World}{x y c:Code}{R:Act->World->Prop}
theorem Cb (h:x.wp P (fun e a' w'=>e=.normal∧R a' w') a w) (k:∀ a' w',R a' w'->y.wp P Q a' w'):(Code.seq x y).wp P Q a w :=
 wp_seq (wp_mono h (fun e a w h=>by obtain ⟨rfl,hr⟩:=h;exact k a w hr))
theorem wp_last (h:x.wp P (fun e a' w'=>e=.normal∧R a' w') a w) (k:∀ a' w',R a' w'->Q .normal a' w'):x.wp P Q a w :=
 wp_mono h (fun e a w h=>by obtain ⟨rfl,hr⟩:=h;exact k a w hr)
theorem wp_while {id:Nat}{hd body:Code}{t:Nat}(I:Nat->Act->World->Prop) (n:Nat) (h0:I n a w)
 (head:∀ n a w,I n a w->∃ (J:Act->World->Prop),hd.wp P (fun e a' w'=>e=.normal∧J a' w') a w ∧
   ∀ a' w',J a' w'->(a'.eval (.tmp t)=.bool false∧Q .normal a' w')∨(a'.eval (.tmp t)=.bool true∧body.wp P (Exit.then (fun a'' w''=>∃ n',n'<n∧I n' a'' w'') (Exit.inBlock id Q)) a' w')) :
 (Code.block id (.loop (.seq (.seq hd (.cond (.tmp t) .skip (.exit id))) body))).wp P Q a w:=by
 refine wp_block (wp_loop_ghost I n h0 fun n a w hI=>?_)
 obtain ⟨J,h1,h2⟩:=head n a w hI
 refine wp_seq (Cb h1 fun a' w' hJ=>?_)
 rcases h2 a' w' hJ with ⟨e,hq⟩|⟨e,hb⟩
 ·refine wp_cond_false e (wp_exit ?_)
  show if id=id then Q .normal a' w' else _
  rw[if_pos rfl]
  exact hq
 ·exact wp_cond_true e (wp_skip hb)
end
def TrL (g:Nat) (L:List Stp) (v:World):Prop:=∀ (k:Nat) (s:Stp),L[k]? = some s->v.cell? ⟨g,k*5,none⟩=some (I s.th)∧v.cell? ⟨g,k*5+1,none⟩=some (I s.ce)∧v.cell? ⟨g,k*5+2,none⟩=some (I s.op)∧v.cell? ⟨g,k*5+3,none⟩=some (I s.ol)∧v.cell? ⟨g,k*5+4,none⟩=some (I s.ne)
theorem Jz {v v':World}(e:v'.heap=v.heap) (e1:v'.os=v.os) (e2:v'.output=v.output):Grows v v':=⟨by rw[e];exact Nat.le_refl _,fun b _=>by rw[e],e1,e2⟩
theorem grow_push {v v':World}{x:Obj}(e:v'.heap=v.heap.push x) (e1:v'.os=v.os) (e2:v'.output=v.output):Grows v v':=⟨by rw[e];simp,fun b hb=>by rw[e,Array.getElem?_push,if_neg (by omega)],e1,e2⟩
theorem Ir {v v' v2:World}(a:Grows v v') (b:Grows v' v2):Grows v v2:=⟨Nat.le_trans a.size b.size,fun q hq=>by rw[b.old q (Nat.lt_of_lt_of_le hq a.size),a.old q hq],b.os.trans a.os,b.output.trans a.output⟩
theorem Fl.hd {n k:Nat}{c:Bool}{l:List (Nat×Value)}{a:Act}(h:Fl n ((k,.bool c) :: l) a) (hc:c=true):a.eval (.tmp k)=.bool true:=by subst hc;exact h.2.2 (k,.bool true) (.head _)
theorem Fl.hf {n k:Nat}{c:Bool}{l:List (Nat×Value)}{a:Act}(h:Fl n ((k,.bool c) :: l) a) (hc:c=false):a.eval (.tmp k)=.bool false:=by subst hc;exact h.2.2 (k,.bool false) (.head _)
theorem Fl.tl {n:Nat}{x:Nat×Value}{l:List (Nat×Value)}{a:Act}(h:Fl n (x :: l) a):Fl n l a:=⟨h.1,h.2.1,fun p hp=>h.2.2 p (.tail _ hp)⟩
def Nrm (F:Act->World->Prop):Exit->Act->World->Prop
 |.normal,a,w=>F a w
 |_,_,_=>False
theorem wp_nrm {P:Program}{c:Code}{F:Act->World->Prop}{a:Act}{w:World}(h:c.wp P (Nrm F) a w):c.wp P (fun e a' w'=>e=.normal∧F a' w') a w:=wp_mono h fun e a w hq=>by
 cases e
 case normal=>exact ⟨rfl,hq⟩
 all_goals exact hq.elim
structure Kq (B:Nat) (w w':World):Prop where
 os:w'.os=w.os
 out:w'.output=w.output
 size:w.heap.size≤w'.heap.size
 old:∀ k,k<B->w'.heap[k]? = w.heap[k]?
section
variable {B:Nat}{u v w:World}
theorem Kq.refl (B:Nat) (w:World):Kq B w w:=⟨rfl,rfl,Nat.le_refl _,fun _ _=>rfl⟩
theorem Kq.trans (h:Kq B u v) (k:Kq B v w):Kq B u w:=⟨k.os.trans h.os,k.out.trans h.out,Nat.le_trans h.size k.size,fun i hi=>(k.old i hi).trans (h.old i hi)⟩
theorem Kq.same (e1:w.heap=v.heap) (e2:w.os=v.os) (e3:w.output=v.output):Kq B v w:=⟨e2,e3,by rw[e1];exact Nat.le_refl _,fun i _=>by rw[e1]⟩
theorem Kq.alloc (o:Obj) (h:B≤v.heap.size):Kq B v (v.alloc o):=⟨rfl,rfl,by show _≤(v.heap.push o).size;simp,fun i hi=>by show (v.heap.push o)[i]? = _;rw[Array.getElem?_push,if_neg (by omega)]⟩
theorem Kq.set {b o:Nat}(x:Value) (h:B≤b):Kq B v (v.setCell ⟨b,o,none⟩ x):=⟨rfl,rfl,by simp[World.setCell],fun i hi=>Below.heap_setCell _ _ _ _ (by show i≠b;omega)⟩
theorem Kq.cell (k:Kq B u v) {a:Addr}{x:Value}(h:u.cell? a=some x) (hb:a.block<B):v.cell? a=some x:=by rw[World.cell?_of_block (w:=u) (w':=v) (k.old _ hb)];exact h
theorem Kq.grows (k:Kq B u v) (h:u.heap.size≤B):Grows u v:=⟨k.size,fun b hb=>k.old b (by omega),k.os,k.out⟩
theorem Kq.le {B':Nat}(k:Kq B u v) (h:B'≤B):Kq B' u v:=⟨k.os,k.out,k.size,fun i hi=>k.old i (by omega)⟩
end
structure SL (N b o:Nat) (ln cp rb ro:Nat->Nat) (pc:Nat->Option Addr) (cl:Nat->List Cl) (v:World):Prop where
 len:∀ k,k<N->(cl k).length=ln k
 sr:∀ k,k<N->v.cell? ⟨b,o+k,none⟩=some (.slice (pc k) (ln k) (cp k))
 pq:∀ k,k<N->0<ln k->pc k=some ⟨rb k,ro k,none⟩
 sa:∀ k,k<N->∀ (j:Nat) (c:Cl),(cl k)[j]? = some c->v.cell? ⟨rb k,ro k+j*4,none⟩=some (I c.po)∧v.cell? ⟨rb k,ro k+j*4+1,none⟩=some (I c.ca)∧v.cell? ⟨rb k,ro k+j*4+2,none⟩=some (I c.cb)∧v.cell? ⟨rb k,ro k+j*4+3,none⟩=some (I c.cc)
structure AL (N M:Nat) (A ln:Nat->Nat) (l:Nat->Ph) (v:World):Prop where
 ar:∀ k,k<N->v.cell? ⟨M,k,none⟩=some (.slice (some ⟨A k,0,none⟩) (ln k) (ln k))
 al:∀ k,k<N->(l k).ans.length=ln k
 an:∀ k,k<N->∀ (j:Nat) (q:Int×Int),(l k).ans[j]? = some q->v.cell? ⟨A k,j*2,none⟩=some (I q.1)∧v.cell? ⟨A k,j*2+1,none⟩=some (I q.2)
theorem kq_all {v u:World}(k:Kq v.heap.size v u) (a:Addr) (x:Value) (h:v.cell? a=some x):u.cell? a=some x:=k.cell h (World.block_lt_of_cell? _ _ h)
theorem SL.go {N b o:Nat}{ln cp rb ro:Nat->Nat}{pc:Nat->Option Addr}{cl:Nat->List Cl}{v u:World}(h:SL N b o ln cp rb ro pc cl v) (k:Kq v.heap.size v u):SL N b o ln cp rb ro pc cl u:=by
 have hc:=kq_all k
 exact ⟨h.len,fun i hi=>hc _ _ (h.sr i hi),h.pq,fun i hi j c hj=>⟨hc _ _ (h.sa i hi j c hj).1,hc _ _ (h.sa i hi j c hj).2.1,hc _ _ (h.sa i hi j c hj).2.2.1,hc _ _ (h.sa i hi j c hj).2.2.2⟩⟩
theorem AL.go {N M:Nat}{A ln:Nat->Nat}{l:Nat->Ph}{v u:World}(h:AL N M A ln l v) (k:Kq v.heap.size v u):AL N M A ln l u:=by
 have hc:=kq_all k
 exact ⟨fun i hi=>hc _ _ (h.ar i hi),h.al,fun i hi j q hj=>⟨hc _ _ (h.an i hi j q hj).1,hc _ _ (h.an i hi j q hj).2⟩⟩
theorem body10s {z:Nat->Option Nat}{S:TS}{v:World}(h:Rep z S v):Body Tryd.f17 #[Pt S.wb 0] v (fun r v'=>r=.bool S.stk∧v'=v):=by
 intro code hb
 obtain rfl:=Option.some.inj hb
 clear hb
 have c6:=h.wcell.2.2.2.2.2.2.1
 clear h
 simp only[Tryd.ntmps17,List.size_toArray,List.length_cons,List.length_nil,Nat.reduceAdd,Nat.reduceSub,Array.replicate_succ,Array.replicate_zero,List.push_toArray,List.append_toArray,List.nil_append,List.cons_append]
 go_wp2_with fail
 go_ret
 exact ⟨_,rfl,rfl,rfl⟩
theorem goesI_retZ {Ch:Nat->Prop}{Stop:Goroutine->World->Prop}{main:Bool}{f:FuncId}{c:Code}{act:Act}{more:List Item}{cs:List Frame}{v w:World}{Q:Act->World->Prop}(hvw:Rel zn v w) (hn:Ah Ch v) (hc:A7 Tryd.prog true LV c) (ha:act.defers=[])
 (hwp:∀ τ,c.wp Tryd.prog (fun e a w'=>e=.ret∧Q a w') act (Ap v τ 0))
 (h:∀ a' v' w' todo,Q a' v'->a'.defers=[]->Rel zn v' w'->Ah Ch v'->GoesI Tryd.prog main (DT (ScZ zn) Ch) Stop (G { (base f).at a' todo with mode:=.returning } cs) w') :
 GoesI Tryd.prog main (DT (ScZ zn) Ch) Stop (G ((base f).at act (.code c :: more)) cs) w:=by
 have hfin:=Jy (P:=Tryd.prog) (z:=zn) (wr:=true) (L:=LV) (D:=DT (ScZ zn) Ch) (I:=Ah Ch) (main:=main) (b:=base f) (k:=more) (cs:=cs) hE F8 Az (fun v v' w w' es hi hr ho he=>Bq v v' w w' es hi hr ho he) hvw hc ha (by simp[base]) hn
  (Q:=fun e a w'=>e=.ret∧Q a w') hwp (fun e a w hq=>.inr hq.1)
 refine hfin.then ?_
 rintro g w' ⟨a',v',hr,hiv,hd,⟨⟨hq,_⟩,_⟩|⟨⟨_,hQ⟩,todo,rfl⟩⟩
 ·cases hq
 ·exact h a' v' w' todo hQ hd hr hiv
theorem _root_.Go.Proofs.YtbbhahigofeacaaDoor.Grows.toAt {W v w:World}(h:Grows W v) (hr:Rel zn v w) (d:Nat):Grows W (w.at d):=by
 have e:(w.at d).heap=v.heap:=hr.eq
 exact ⟨by rw[e];exact h.size,fun b hb=>by rw[e];exact h.old b hb,hr.os.trans h.os,hr.output.trans h.output⟩
def PostT (W:World) (r:Value) (w':World):Prop:=r=.bool true∧Grows W w'
def InR (x:Int):Prop:=-9223372036854775808≤x∧x<9223372036854775808
def Cl.ok (c:Cl):Prop:=InR c.cb∧InR c.cc
structure InI (W:World) (p:Option Addr) (b o:Nat) (xs:List Int):Prop where
 at_:0<xs.length->p=some ⟨b,o,none⟩
 cell:∀ k x,xs[k]? = some x->W.cell? ⟨b,o+k,none⟩=some (I x)
 inr:∀ x∈xs,InR x
 len:xs.length≤17592186043904
theorem InI.grows {W W':World}{p:Option Addr}{b o:Nat}{xs:List Int}(h:InI W p b o xs) (g:Grows W W'):InI W' p b o xs :=
 ⟨h.at_,fun k x hk=>g.cell (h.cell k x hk),h.inr,h.len⟩
structure InS (W:World) (p:Option Addr) (b o n:Nat) (pc:Nat->Option Addr) (ln cp rb:Nat->Nat) (cl:Nat->List Cl):Prop where
 at_:0<n->p=some ⟨b,o,none⟩
 row:∀ k,k<n->W.cell? ⟨b,o+k,none⟩=some (.slice (pc k) (ln k) (cp k))
 len:∀ j,j<n->(cl j).length=ln j
 pq:∀ j,j<n->0<ln j->pc j=some ⟨rb j,roOf (pc j),none⟩
 call:∀ j,j<n->∀ (k:Nat) (c:Cl),(cl j)[k]? = some c->W.cell? ⟨rb j,roOf (pc j)+k*4,none⟩=some (I c.po)∧W.cell? ⟨rb j,roOf (pc j)+k*4+1,none⟩=some (I c.ca)∧W.cell? ⟨rb j,roOf (pc j)+k*4+2,none⟩=some (I c.cb)∧W.cell? ⟨rb j,roOf (pc j)+k*4+3,none⟩=some (I c.cc)
 ok:∀ j,j<n->∀ c∈cl j,InR c.ca∧c.ok
 n:n≤17592186043904
theorem InS.grows {W W':World}{p:Option Addr}{b o n:Nat}{pc:Nat->Option Addr}{ln cp rb:Nat->Nat}{cl:Nat->List Cl}(h:InS W p b o n pc ln cp rb cl) (g:Grows W W'):InS W' p b o n pc ln cp rb cl :=
 ⟨h.at_,fun k hk=>g.cell (h.row k hk),h.len,h.pq,fun j hj k c hc=>by
  have:=h.call j hj k c hc
  exact ⟨g.cell this.1,g.cell this.2.1,g.cell this.2.2.1,g.cell this.2.2.2⟩,h.ok,h.n⟩
theorem lens_scrs (mc:Mc) (fid:FuncId) (caps:Array Value) (pk:Nat->Option Obj) (N n:Nat) (K:List (Nat×Int)) (pc:Nat->Option Addr) (ln cp rb:Nat->Nat) (cl:Nat->List Cl) (hl:∀ j,j<n->(cl j).length≤64):lens (scrs mc fid caps pk N n K pc ln cp rb cl)≤64*n:=by
 unfold lens scrs
 rw[List.map_map]
 have:∀ (m j:Nat),j+m≤n->((List.range' j m).map ((fun s:Scr mc=>s.calls.length) ∘ scrOf mc fid caps pk N n (K.map (·.1)) pc ln cp rb cl)).sum≤64*m:=by
  intro m
  induction m with
  |zero=>intro j _;simp
  |succ m ih =>
   intro j hj
   rw[List.range'_succ,List.map_cons,List.sum_cons]
   have h1:=ih (j+1) (by omega)
   have h2:((fun s:Scr mc=>s.calls.length) ∘ scrOf mc fid caps pk N n (K.map (·.1)) pc ln cp rb cl) j≤64:=hl j (by omega)
   omega
 exact this n 0 (by omega)
theorem scrs_len (mc:Mc) (fid:FuncId) (caps:Array Value) (pk:Nat->Option Obj) (N n:Nat) (K:List (Nat×Int)) (pc:Nat->Option Addr) (ln cp rb:Nat->Nat) (cl:Nat->List Cl):(scrs mc fid caps pk N n K pc ln cp rb cl).length=n:=by simp[scrs]
theorem asked_of {W v:World}{p:Option Addr}{b o n:Nat}{pc:Nat->Option Addr}{ln cp rb:Nat->Nat}{cl:Nat->List Cl}(h:InS W p b o n pc ln cp rb cl) {xs:List Int}{wb bk:Nat}{sc:Value}(hn:IsNew W xs wb bk sc v) (h64:∀ j,j<n->ln j≤64) (h0:0<n):Asked v (newS wb bk W.heap.size sc xs) n b o pc ln cp rb cl:=by
 have g:=h.grows hn.old
 have far:∀ (a:Addr) (x:Value),W.cell? a=some x->¬ Own (newS wb bk W.heap.size sc xs) [] a.block:=fun a x ha ho=>by
  have:=hn.new _ (.inl ho)
  have:=World.block_lt_of_cell? _ _ ha
  omega
 refine ⟨fun j hj=>⟨h.len j hj,h64 j hj⟩,g.row,far _ _ (h.row 0 h0),fun j hj hl=>⟨h.pq j hj hl,?_⟩,g.call,fun j hj c hc=>(h.ok j hj c hc).1⟩
 obtain ⟨c,hc⟩:∃ c,(cl j)[0]? = some c:=⟨_,List.getElem?_eq_getElem (by rw[h.len j hj];exact hl)⟩
 exact far _ _ (h.call j hj 0 c hc).1
theorem going_wb (S:TS) (i:Nat) (t:Thr):(going S i t).wb=S.wb:=by
 unfold going
 first
  |rfl
  |(unfold picked;split<;>rfl)
  |(split<;>rfl)
theorem pturn_wb {mc:Mc}{p p':PSt}(h:E7 mc p=some p'):p'.S.wb=p.S.wb:=by
 unfold E7 at h
 split at h
 ·split at h
  ·cases h;rfl
  ·cases h
 ·cases h
  exact (Fj _ _ _ _ _).wb.trans (going_wb _ _ _)
theorem turns_wb {mc:Mc}{m:Nat}{p p':PSt}(h:Turns mc m p p'):p'.S.wb=p.S.wb:=by
 induction h with
 |stop _=>rfl
 |step h1 _ ih=>exact ih.trans (pturn_wb h1)
theorem hires_wb {mc:Mc}{k:Nat}{ss:List (Scr mc)}{S S':TS}{l l':Nat->Ph}(h:Hires mc k ss S l S' l'):S'.wb=S.wb:=by
 induction h with
 |nil=>rfl
 |cons tv tb gc _ ih=>exact ih.trans (Gj _ _ _ _ _ _ _).wb
section
variable (mc:Mc) (fid:FuncId) (caps:Array Value) (pk:Nat->Option Obj) (N n:Nat) (K:List (Nat×Int)) (pc:Nat->Option Addr) (ln cp rb:Nat->Nat) (cl:Nat->List Cl)
theorem scrs_calls:(scrs mc fid caps pk N n K pc ln cp rb cl).map (·.calls)=(List.range' 0 n).map cl:=by
 unfold scrs
 rw[List.map_map]
 rfl
theorem scrs_ans (hlen:∀ j,j<n->(cl j).length=ln j):∀ x∈scrs mc fid caps pk N n K pc ln cp rb cl,x.ans=List.replicate x.calls.length (0,0):=fun s hs=>by
 simp only[scrs,List.mem_map,List.mem_range'] at hs
 obtain ⟨j,⟨i,hi,rfl⟩,rfl⟩:=hs
 show List.replicate (ln (0+1*i)) (0,0)=List.replicate (cl (0+1*i)).length (0,0)
 rw[hlen _ (by omega)]
end
theorem head_any (n:Nat) (hn:n≤1000) (w:World):Calls Tryd.prog 30 #[I 0,I n] w fun e w'=>e=.returned (I (hdJ n:Nat))∧w'=w:=by
 have h1:IntKind.i64.wrap (2*(n:Int))=2*(n:Int):=by rw[IntKind.wrap_i64];omega
 have h2:IntKind.i64.wrap (1+2*(n:Int))=1+2*(n:Int):=by rw[IntKind.wrap_i64];omega
 have h3:IntKind.i64.wrap (2*(n:Int)+1)=2*(n:Int)+1:=by rw[IntKind.wrap_i64];omega
 go_enter Tryd.func30,Tryd.ntmps30
 go_wp2_with fail
 go_ret
 refine ⟨?_,rfl⟩
 first
  |exact congrArg (fun x=>Ending.returned (I x)) (by unfold hdJ;omega)
  |(unfold hdJ;congr 2;omega)
theorem value_any (n i:Nat) (hn:n≤1000) (hi:i<n) (w:World):Calls Tryd.prog 31 #[I 0,I n,I i] w fun e w'=>e=.returned (I (vlJ n i:Nat))∧w'=w:=by
 have h1:IntKind.i64.wrap (2*(n:Int))=2*(n:Int):=by rw[IntKind.wrap_i64];omega
 have h2:IntKind.i64.wrap (2*(n:Int)+2)=2*(n:Int)+2:=by rw[IntKind.wrap_i64];omega
 have h3:IntKind.i64.wrap (2*(i:Int))=2*(i:Int):=by rw[IntKind.wrap_i64];omega
 have h4:IntKind.i64.wrap (2*(n:Int)+2+2*(i:Int))=2*(n:Int)+2+2*(i:Int):=by rw[IntKind.wrap_i64];omega
 go_enter Tryd.func31,Tryd.ntmps31
 go_wp2_with fail
 go_ret
 refine ⟨?_,rfl⟩
 first
  |exact congrArg (fun x=>Ending.returned (I x)) (by unfold vlJ;omega)
  |(unfold vlJ;congr 2;omega)
theorem link_any (n i:Nat) (hn:n≤1000) (hi:i<n) (w:World):Calls Tryd.prog 32 #[I 0,I n,I i] w fun e w'=>e=.returned (I (lkJ n i:Nat))∧w'=w:=by
 have h1:IntKind.i64.wrap (2*(n:Int))=2*(n:Int):=by rw[IntKind.wrap_i64];omega
 have h2:IntKind.i64.wrap (2*(n:Int)+3)=2*(n:Int)+3:=by rw[IntKind.wrap_i64];omega
 have h3:IntKind.i64.wrap (2*(i:Int))=2*(i:Int):=by rw[IntKind.wrap_i64];omega
 have h4:IntKind.i64.wrap (2*(n:Int)+3+2*(i:Int))=2*(n:Int)+3+2*(i:Int):=by rw[IntKind.wrap_i64];omega
 go_enter Tryd.func32,Tryd.ntmps32
 go_wp2_with fail
 go_ret
 refine ⟨?_,rfl⟩
 first
  |exact congrArg (fun x=>Ending.returned (I x)) (by unfold lkJ;omega)
  |(unfold lkJ;congr 2;omega)
theorem count_take {xs:List Int}{k:Nat}{x z:Int}(h:xs[k]? = some x):(xs.take (k+1)).count z=(xs.take k).count z+if x=z then 1 else 0:=by
 rw[List.take_add_one,h,List.count_append]
 simp[List.count_cons]
theorem last_take {L:List Stp}{k j:Nat}{s:Stp}(h:L[k]? = some s):B8 j (L.take (k+1))=if s.ce=(j:Int)∧s.op≤5 then s.ne else B8 j (L.take k):=by
 rw[List.take_add_one,h]
 unfold B8
 rw[List.foldl_append]
 rfl
theorem last_body {v:World}{p:Option Addr}{g T ct:Nat}{L:List Stp}(j:Nat) (hT:L.length=T) (hTs:T≤400000) (hp:0<T->p=some ⟨g,0,none⟩) (hL:TrL g L v) :
 Body Tryd.f29 #[.slice p T ct,I (j:Nat)] v (fun r v'=>r=I (B8 j L)∧v'.heap=v.heap∧v'.os=v.os∧v'.output=v.output):=by
 intro code hb
 obtain rfl:=Option.some.inj hb
 clear hb
 have HT:Hid (L.length=T):=⟨hT⟩
 have HP:Hid (0<T->p=some ⟨g,0,none⟩):=⟨hp⟩
 have HL:Hid (TrL g L v):=⟨hL⟩
 clear hL hT hp
 simp only[Tryd.ntmps29,List.size_toArray,List.length_cons,List.length_nil,Nat.reduceAdd,Nat.reduceSub,Array.replicate_succ,Array.replicate_zero,List.push_toArray,List.append_toArray,List.nil_append,List.cons_append]
 go_wp2_with fail
 go_loopw [5,6] (fun l i u=>∃ k:Nat,k≤T∧i=.int .i64 k∧l=.int .i64 (B8 j (L.take k))∧u.heap=v.heap∧u.os=v.os∧u.output=v.output) (fun _ i _=>T - (intOf i).toNat)
 case atStart=>exact ⟨0,Nat.zero_le _,rfl,rfl,rfl,rfl,rfl⟩
 case round =>
  obtain ⟨k,hk,rfl,rfl,hu1,hu2,hu3⟩:=hrel
  have HU:Hid (wr.heap=v.heap∧wr.os=v.os∧wr.output=v.output):=⟨⟨hu1,hu2,hu3⟩⟩
  have hc:∀ (a:Addr) (x:Value),v.cell? a=some x->wr.cell? a=some x:=fun a x ha=>by rw[World.cell?_of_block (w:=v) (w':=wr) (by rw[hu1])];exact ha
  have HL':Hid (TrL g L wr):=⟨fun k s hs=>by
   obtain ⟨h0,h1,h2,h3,h4⟩:=HL.out k s hs
   exact ⟨hc _ _ h0,hc _ _ h1,hc _ _ h2,hc _ _ h3,hc _ _ h4⟩⟩
  clear hu1 hu2 hu3 hc
  by_cases hlt:k<T
  ·obtain rfl:=HP.out (by omega)
   obtain ⟨q,hq⟩:∃ q,L[k]? = some q:=⟨_,List.getElem?_eq_getElem (by rw[HT.out];exact hlt)⟩
   obtain ⟨-,c1,c2,-,c4⟩:=HL'.out k q hq
   have HM:Hid (B8 j (L.take (k+1))=if q.ce=(j:Int)∧q.op≤5 then q.ne else B8 j (L.take k)):=⟨last_take hq⟩
   have hlt':(k:Int)<(T:Int):=by omega
   clear hq
   obtain ⟨qt,qc,qo,ql,qn⟩:=q
   simp only at c1 c2 c4 HM
   generalize hcn:B8 j (L.take k)=cn at *
   clear hcn
   by_cases h1:qc=(j:Int)
   ·by_cases h2:qo≤5
    ·have f1:(qc==(j:Int))=true:=by simp[h1]
     have f2:decide (qo≤5)=true:=by simp[h2]
     subst h1
     go_wp2_with fail
     go_roundw
     case rel=>exact ⟨k+1,by omega,by go_num,by rw[HM.out,if_pos ⟨rfl,h2⟩],HU.out⟩
     case measure=>simp[intOf];omega
    ·have f1:(qc==(j:Int))=true:=by simp[h1]
     have f2:decide (qo≤5)=false:=by simp[h2]
     subst h1
     go_wp2_with fail
     go_roundw
     case rel=>exact ⟨k+1,by omega,by go_num,by rw[HM.out,if_neg (fun h=>h2 h.2)],HU.out⟩
     case measure=>simp[intOf];omega
   ·have f1:(qc==(j:Int))=false:=by simp[h1]
    go_wp2_with fail
    go_roundw
    case rel=>exact ⟨k+1,by omega,by go_num,by rw[HM.out,if_neg (fun h=>h1 h.1)],HU.out⟩
    case measure=>simp[intOf];omega
  ·have hkk:k=T:=by omega
   subst hkk
   have hfin:L.take k=L:=List.take_of_length_le (by rw[HT.out];exact Nat.le_refl _)
   rw[hfin]
   clear hfin
   go_wp2_with fail
   go_ret
   exact ⟨_,rfl,rfl,HU.out⟩
end Go.Proofs.YtbbhahigofeacaaDoor.Gen
