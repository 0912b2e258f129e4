/- CounterLinear, part 8 of 24: GDrive3, GDrive4, GDrive5, GDrive6, GServe, GFlow, GBirth. -/
import Derived.Test.YtfjjoohflcchnaaDoorCounterLinear01
import Derived.Test.YtfjjoohflcchnaaDoorCounterLinear05
import Derived.Test.YtfjjoohflcchnaaDoorCounterLinear07
set_option linter.unusedSimpArgs false
set_option linter.unusedVariables false
set_option maxHeartbeats 4000000
set_option maxRecDepth 100000
noncomputable section
namespace Go.Proofs.YtfjjoohflcchnaaDoor.Gen
open Go Go.Lift Go.Conc Go.RowKit
open Go.ConcN (upd upd_same upd_ne)
variable {u:Nat->Value} {cs:List Frame}
variable {mc:Mc}
def HomeT (wb:Nat) (cs:List Frame) (g:Goroutine):Prop:=∀ (z:Nat->Option Nat) (Ch:Nat->Prop) (Stop:Goroutine->World->Prop) (x:Value) (w:World),(∀ u,GoesI Tryd.prog true (DT (ScZ z) Ch) Stop (G (tFr wb u) cs) w)->GoesI Tryd.prog true (DT (ScZ z) Ch) Stop (Go.Conc.served g x) w
theorem atGive_at {K:World->Prop}{Still:Loc->Prop}{h c:Nat}{v:Value}{o:Option Seat}{F:World->Prop}{a:Goroutine}{w:World}(hF:∀ d,F w->F (w.at d)) (hg:Lift.AtGive Tryd.prog K Still h c v o F a w) (d:Nat):Lift.AtGive Tryd.prog K Still h c v o F a (w.at d):=by obtain ⟨h1,h2,a₂,z,es,nh,B₀,hB,hs,rest⟩:=hg;exact ⟨h1,hF d h2,a₂,z,es,nh,B₀,hB,λd'=>hs d',rest⟩
structure Holds (k N:Nat) (X:Nat->Fix mc) (l:Nat->Ph) (E:Nat->Nat->Prop) (M:Nat->Nat->Option Obj) (Mm:Keep) (z:Nat->Option Nat) (cont:Addr->Value) (Ch:Nat->Prop) (S:TS) (K:List (Nat×Int)) (v:World) (B:Nat) (Mb:Nat->Prop) (Inb:Nat->Option Seat) (h:Nat) (T:Trace) (gs:Array Goroutine) (w:World) (q:Nat->Nat):Prop where
 ring:Ring Tryd.prog (KC (ScZ z) cont) (StillC (ScZ z)) B Mb Inb h T gs w q
 mb:Mb h
 b:B<=w.heap.size
 rel:Rel z v w
 mem:Mem z S K v
 crew:Crew k X l E M Mm z cont Ch S K v gs.size
 seats:Seats k N X l E M S.bk Inb
 len:S.thr.length=k
 stt:∀ i,i<k->∀ t,S.thr[i]? = some t->StN (l i) t
section
variable {k N:Nat}{X:Nat->Fix mc}{l:Nat->Ph}{E:Nat->Nat->Prop}{M:Nat->Nat->Option Obj}{Mm:Keep}{z:Nat->Option Nat}{cont:Addr->Value}{Ch:Nat->Prop}{S:TS}{K:List (Nat×Int)}{v:World}{B:Nat}{Mb:Nat->Prop}{Inb:Nat->Option Seat}{h:Nat}{T:Trace}{gs:Array Goroutine}{w:World}{q:Nat->Nat}
theorem seat_ch {gsz:Nat}(cr:Crew k X l E M Mm z cont Ch S K v gsz) (st:Seats k N X l E M S.bk Inb):∀ g s c,Inb g=some s->s.has c->Ch c:=λg s c hg hc=>by
 rcases st.who hg hc with ⟨_,rfl⟩|⟨i,hi,_,rfl⟩
 exact cr.z0.2.2;exact (cr.zs i hi).2.2
theorem open_rel {v' w':World}(hr:Rel z v' w') (hn:NoRow Ch v') {c:Nat}(hc:Ch c) (ho:Open v' c):∃ cap k,w'.heap[c]? = some (.chan cap #[] false k k false):=by obtain ⟨cap,n,hh⟩:=ho;exact ⟨cap,n,by rw[noRow_rel hr hn hc];exact hh⟩
theorem rdy_mem {i:Nat}(hi:(rdyIds S S.thr.length)[pickAt S (rdyIds S S.thr.length)]? = some i):i<S.thr.length∧(S.thr[i]?).any (rdy S)=true:=by have:=List.mem_of_getElem? hi;unfold rdyIds at this;rw[List.mem_filter,List.mem_range] at this;exact this
theorem round_go (H:Holds k (N+1) X l E M Mm z cont Ch S K v B Mb Inb 0 T gs w q) (hg:gs[0]? = some (G (tFr S.wb u) cs)) (h8:k<=8) (hsl:S.sched.length<=4611686018427387904) (hsc:∀ x∈S.sched,-9223372036854775808<=x∧x<9223372036854775808)
 {i:Nat} (hi:(rdyIds S S.thr.length)[pickAt S (rdyIds S S.thr.length)]? = some i) (sl:Option (Nat×Nat)) (hl:(resume i mc (l i) (nv (going S i (thrI S i))) K).1.n*40<=140737488355328):
 ∃ (N':Nat) (gs':Array Goroutine) (w':World) (sl':Option (Nat×Nat)) (T':Trace) (q':Nat->Nat) (B':Nat) (Mb':Nat->Prop) (Inb':Nat->Option Seat) (S':TS) (v':World) (E':Nat->Nat->Prop) (M':Nat->Nat->Option Obj) (u':Nat->Value),
   runNT Tryd.prog N' (crowd gs w sl) T=(.next (crowd gs' w' sl'),T')∧gs'.size=gs.size∧gs'[0]? = some (G (tFr S'.wb u') cs)∧nv S'=(resume i mc (l i) (nv (going S i (thrI S i))) K).1 ∧
   Holds k N X (upd l i (resume i mc (l i) (nv (going S i (thrI S i))) K).2.2) E' M' Mm z cont Ch S' (resume i mc (l i) (nv (going S i (thrI S i))) K).2.1 v' B' Mb' Inb' 0 T' gs' w' q':=by
 have cr:=H.crew;have st:=H.seats;obtain ⟨hik,hrd⟩:=rdy_mem hi;rw[H.len] at hik;obtain ⟨t,ht,htb,hgc,hfit⟩:=cr.thr i hik;obtain ⟨ok,hXi,hXk⟩:=cr.ok i hik;have hst3:t.st≠3:=by rw[ht] at hrd;simp only[Option.any_some] at hrd;intro e;unfold rdy at hrd;rw[e] at hrd;simp at hrd
 have eth:thrI S i=t:=thrI_of ht;rw[eth] at hl ⊢;have h0h:0≠(X i).h:=λe=>by have:=ok.h;omega
 obtain ⟨n,hn,hseat⟩:=st.seat i hik;obtain ⟨n',rfl⟩:∃ n',n=n'+1:=⟨n - 1,by omega⟩
 have hcons:∀ a,l i≠.done a:=λa e=>by rw[e] at hfit;exact hst3 hfit
 have hseat':Inb (X i).h=some (seatT (X i).gc (Home (X i) (n'+1) (l i) (E i) (M i))):=by
  rw[hseat]
  match hli:l i,hcons with
  |.turn _ _ _ _ _ _,_=>rfl
  |.wait _ _ _ _ _,_=>rfl
  |.done a,hc=>exact absurd rfl (hc a)
 have hG:GoesI Tryd.prog ((0:Nat)==0) (DT (ScZ z) Ch) (Lift.AtGive Tryd.prog (KC (ScZ z) cont) (StillC (ScZ z)) 0 t.gc (.agg #[]) (some (Seat.one S.bk (.agg #[]) false (HomeT S.wb cs))) (Then z Ch S K v (going S i t) K)) (G (tFr S.wb u) cs) w :=
  turn_in u cs (λbd ad od qd rd oe kd hoe hT hF code hcode=>turn50_goes cs (HomeT S.wb cs) hoe (λg hb z Ch Stop x w h=>hb _ Stop x w (dt_idle _ _) (hT z Ch Stop w h)) H.rel cr.noRow H.mem (by rw[H.len];exact h8) hsl hsc (List.length_pos_of_mem (List.mem_of_getElem? hi)) hi ht cr.z0.1 cr.z0.2.1 (λg w' hg=>hg) code hcode)
 rw[hgc] at hG;have hch0:=seat_ch cr st;have hup0:∀ g s c,upd Inb 0 (some (Seat.one S.bk (.agg #[]) false (HomeT S.wb cs))) g=some s->s.has c->Ch c:=λg s c hg hc=>by
  by_cases e:g=0
  .subst e;rw[upd_same] at hg;cases hg
   rw[Seat.one_has.1 hc];exact cr.z0.2.2
  rw[upd_ne _ _ e] at hg;exact hch0 g s c hg hc
 obtain ⟨N1,gs1,w1,g₂,d,kk,cap,sl1,T1,q1,B1,r1,⟨v1,hr1,hn1,he1⟩,z1,h1,hh,hch,⟨hB1,hB1b,hB1c⟩,C1⟩:=pass_on (Inb:=Inb) (Mem:=Mb) (h:=0) (j:=(X i).h) (c:=(X i).gc) (kk:=0) (z:=.agg #[]) (λw d h=>kc_at w d h)
  (fun s hs=>by
    cases hs;refine ⟨Seat.one_wf _ _ _ _,λg s' c hg hs' hc hc'=>?_,λw' hF c hc=>?_⟩
    .rw[Seat.one_has.1 hc'] at hc
     rcases st.who hs' hc with ⟨e,_⟩|⟨j,hj,_,e⟩
     exact hg e;exact cr.gbk j hj e.symm
    .obtain ⟨v1,k1,k2,k3⟩:=hF
     rw[Seat.one_has.1 hc];exact open_rel k1 k2 cr.z0.2.2 (open_stay H.mem (Evo.toP (Pr:=λ_=>False) k3) (cr.opn _ cr.z0.2.2) (λ_ h=>h.elim)))
  (λw g s c cap buf cl a b tm hg hc hK=>kc_chan (cr.zc c (hup0 g s c hg hc)) hK cap buf cl a b tm)
  (λw g s c cap buf cl a b tm hg hc hK=>kc_chan (cr.zc c (hch0 g s c hg hc)) hK cap buf cl a b tm)
  (dh_of_dt hch0) (Ne.symm h0h) hseat' rfl H.mb hG gs sl T q B (cr.hlt i hik) hg H.ring
 have hgCh:=(cr.zs i hik).2.2;have hS1:(going S i t).wb=S.wb∧(going S i t).bk=S.bk∧(going S i t).thr=S.thr.set i { t with st:=0 }:=by unfold going picked;split<;>exact ⟨rfl,rfl,rfl⟩
 have ht1:(going S i t).thr[i]? = some { t with st:=0 }:=by rw[hS1.2.2];exact set_get ht
 have cr1:Crew k X l E M Mm z cont Ch (going S i t) K v1 gs.size:=cr.main H.mem he1 hS1.1 hS1.2.1 (by rw[hS1.2.2,List.length_set]) (λj t0 hj=>by
  rw[hS1.2.2];by_cases e:j=i
  .subst e
   rw[ht] at hj;cases hj;exact ⟨_,set_get ht,rfl,rfl,rfl,rfl,λh=>absurd h hst3⟩
  exact ⟨t0,by rw[Qq,if_neg (λe'=>e e'.symm)];exact hj,rfl,rfl,rfl,rfl,id⟩)
 have hno1:∀ (x:Array Value) (e:TypeId) (f:Nat×Nat),Obj.chan cap #[] false kk kk false≠Obj.cells x e f:=λ_ _ _ h=>by cases h
 have hv1c:v1.heap[(X i).gc]? = some (.chan cap #[] false kk kk false):=by rw[<-noRow_rel hr1 hn1 hgCh];exact hch
 have cr2:=cr1.chan hgCh cap (kk+1);have hm2:Mem z (going S i t) K (v1.setChan (X i).gc cap #[] false (kk+1) (kk+1) false):=he1.mem.chan hv1c hno1 cap #[] false (kk+1) (kk+1) false;have hr2:=rel_chan hr1 (cr.zc _ hgCh) cap #[] false (kk+1) (kk+1) false d;generalize hv2:v1.setChan (X i).gc cap #[] false (kk+1) (kk+1) false=v2 at cr2 hm2 hr2;generalize hw2:(w1.at d).setChan (X i).gc cap #[] false (kk+1) (kk+1) false=w2 at hr2 C1 r1;have hw2s:w2.heap.size=w1.heap.size:=by rw[<-hw2];simp[World.setChan,World.at]
 have eR:resume (X i).i mc (l i) (nv (going S i t)) K=resume i mc (l i) (nv (going S i t)) K:=by rw[hXi]
 have hfit1:FitsN (l i) { t with st:=0 }:=by
  match hli:l i,hcons,hfit with
  |.turn _ _ _ _ _ _,_,hf=>exact hf
  |.wait _ _ _ _ _,_,hf=>exact hf
  |.done a,hc,_=>exact absurd rfl (hc a)
 have hG2:GoesI Tryd.prog ((X i).h==0) (DT (ScZ z) Ch) (λg' w'=>∃ E' M',Gives (X i) (Home (X i) n') z cont Ch (going S i t) K v2 (E i) (resume i mc (l i) (nv (going S i t)) K).1 (resume i mc (l i) (nv (going S i t)) K).2.1 (resume i mc (l i) (nv (going S i t)) K).2.2 E' M' g' w') (Go.Conc.served g₂ (commResult (seatT (X i).gc (Home (X i) (n'+1) (l i) (E i) (M i))).cases (seatT (X i).gc (Home (X i) (n'+1) (l i) (E i) (M i))).shape ((0:Nat):Int) (.agg #[]) true)) w2:=by have hhome:Home (X i) (n'+1) (l i) (E i) (M i) g₂:=hh;refine hhome z Ch _ cont _ w2 v2 (going S i t) K { t with st:=0 } hr2 cr2.noRow hm2 (by rw[hXi];exact ht1) htb hgc hfit1.fits hXk (cr.zs i hik).1 (cr.zs i hik).2.1 (cr2.sees i hik).2.1 (cr2.sees i hik).2.2 (by rw[eR];exact hl) (λg' w' E' M' hgv=>⟨E',M',?_⟩);rw[eR] at hgv;exact hgv
 generalize hR:resume i mc (l i) (nv (going S i t)) K=R at hG2 hl ⊢;have st1:Seats k (N+1) X l E M S.bk (upd Inb 0 (some (Seat.one S.bk (.agg #[]) false (HomeT S.wb cs)))):=by
  refine ⟨λj hj=>?_,λg hg0 hgn=>by rw[upd_ne _ _ hg0];exact st.none g hg0 hgn,λs c hs hc=>?_⟩
  .rw[upd_ne _ _ (λe=>by have:=(cr.ok j hj).1.h;omega)]
   exact st.seat j hj
  .rw[upd_same] at hs;cases hs
   exact Seat.one_has.1 hc
 obtain ⟨N2,gs2,a2,w3,sl2,T2,q2,B2,r2,z2,h2,⟨E',M',hs',hnew',hat⟩,⟨hB2,hB2b,hB2c⟩,C2⟩:=hold_goes (λw d h=>kc_at w d h) (dh_of_dt hup0) hG2 gs1 sl1 T1 q1 B1 h1 C1;have hbk1:(going S i t).bk=S.bk:=hS1.2.1;rw[hbk1] at hat
 have hwbk:Ch S.bk:=cr.z0.2.2;have hupd2:∀ g s c,upd (upd Inb 0 (some (Seat.one S.bk (.agg #[]) false (HomeT S.wb cs)))) (X i).h (seatOf (X i) (Home (X i) n') R.2.2 E' M') g=some s->s.has c->Ch c:=λg s c hg hc=>by
  by_cases e:g=(X i).h
  .subst e;rw[upd_same] at hg
   obtain ⟨rfl,_⟩:=seatOf_has hg;rw[Seat.one_has.1 hc];exact hgCh
  rw[upd_ne _ _ e] at hg;exact hup0 g s c hg hc
 have hrow2:∀ b,(b=(X i).ab∨E i b)->∃ x e f,v2.heap[b]? = some (.cells x e f):=λb hb=>by obtain ⟨o,ho⟩:=Option.ne_none_iff_exists'.1 (cr2.abM hik hb);obtain ⟨x,e,f,rfl⟩:=(cr2.sees i hik).1.row b o ho;exact ⟨x,e,f,(cr2.sees i hik).2.1 b _ ho⟩
 have hMi:Mb (X i).h:=(H.ring.mem _ _ hseat').1;obtain ⟨N3,gs3,w4,g₃,d3,kk3,cap3,sl3,T3,q3,B3,r3,hF3,z3,h3,hh3,hch3,⟨hB3,hB3b,hB3c⟩,C3⟩:=pass_on (Inb:=upd Inb 0 (some (Seat.one S.bk (.agg #[]) false (HomeT S.wb cs)))) (h:=(X i).h) (j:=0) (c:=S.bk) (kk:=0) (z:=.agg #[]) (s:=Seat.one S.bk (.agg #[]) false (HomeT S.wb cs)) (λw d h=>kc_at w d h)
  (fun s hs=>by
    obtain ⟨rfl,_⟩:=seatOf_has hs;refine ⟨Seat.one_wf _ _ _ _,λg s' c hg hs'' hc hc'=>?_,λw' hF c hc=>?_⟩
    .have ec:c=(X i).gc:=Seat.one_has.1 hc'
     rw[ec] at hc;rcases st1.who hs'' hc with ⟨_,e⟩|⟨j,hj,hjg,e⟩
     exact cr.gbk i hik e;exact hg (by rw[<-hjg,cr.ginj i j hik hj e])
    .obtain ⟨v3,S',k1,k2,k3,k4,k5⟩:=hF
     rw[show c=(X i).gc from Seat.one_has.1 hc];exact open_rel k1 k2 hgCh (open_stay hm2 k4 (cr2.opn _ hgCh) hrow2))
  (λw g s c cap buf cl a b tm hg hc hK=>kc_chan (cr.zc c (hupd2 g s c hg hc)) hK cap buf cl a b tm)
  (λw g s c cap buf cl a b tm hg hc hK=>kc_chan (cr.zc c (hup0 g s c hg hc)) hK cap buf cl a b tm)
  (D:=DT (ScZ z) Ch) (dh_of_dt hup0) h0h (upd_same _ _ _) rfl ⟨hMi,.inr rfl⟩
  (GoesI.stop (λd=>atGive_at (λd hF=>by obtain ⟨v3,S',k1,k2⟩:=hF;exact ⟨v3,S',k1.re rfl rfl rfl rfl rfl rfl,k2⟩) hat d)) gs2 sl2 T2 q2 B2 (by have:=(Qb hg).1;omega) h2 C2
 obtain ⟨v3,S',hr3,hn3,hS',he3,hM3,hfar3⟩:=hF3;have sR:=resume_sta i mc (l i) (nv (going S i t)) K;rw[hR,<-hS'] at sR;have sR':Sta i (going S i t) S':=⟨sR.wb,sR.bk,sR.base,sR.us,sR.la,sR.sc,sR.cv,sR.ths,sR.sched,sR.stk,sR.ran,sR.n,sR.chg,sR.len,sR.oth,sR.own⟩
 have hfit':∃ t',S'.thr[i]? = some t'∧FitsN R.2.2 t':=by obtain ⟨t',k1,k2,_⟩:=resume_fs i mc (nv (going S i t)) K { t with st:=0 } ht1 (l i) hcons;rw[hR,<-hS'] at k1;rw[hR] at k2;exact ⟨t',k1,k2⟩
 have cr3:=cr2.thread hm2 hik he3 sR' hfit' hs' hM3 hfar3 hnew';have hwb':S'.wb=S.wb:=sR'.wb.trans hS1.1;have hbk':S'.bk=S.bk:=sR'.bk.trans hS1.2.1;have hv3c:v3.heap[S.bk]? = some (.chan cap3 #[] false kk3 kk3 false):=by rw[<-noRow_rel hr3 hn3 hwbk];exact hch3
 have cr4:=cr3.chan hwbk cap3 (kk3+1);have hm4:Mem z S' R.2.1 (v3.setChan S.bk cap3 #[] false (kk3+1) (kk3+1) false):=he3.mem.chan hv3c (λ_ _ _ h=>by cases h) cap3 #[] false (kk3+1) (kk3+1) false;have hr4:=rel_chan hr3 (cr.zc _ hwbk) cap3 #[] false (kk3+1) (kk3+1) false d3;generalize hv4:v3.setChan S.bk cap3 #[] false (kk3+1) (kk3+1) false=v4 at cr4 hm4 hr4;generalize hw5:(w4.at d3).setChan S.bk cap3 #[] false (kk3+1) (kk3+1) false=w5 at hr4 C3 r3;have hw5s:w5.heap.size=w4.heap.size:=by rw[<-hw5];simp[World.setChan,World.at]
 have hG4:GoesI Tryd.prog ((0:Nat)==0) (DT (ScZ z) Ch) (λg w'=>(∃ u,g=G (tFr S.wb u) cs)∧Rel z v4 w') (Go.Conc.served g₃ (commResult (Seat.one S.bk (.agg #[]) false (HomeT S.wb cs)).cases (Seat.one S.bk (.agg #[]) false (HomeT S.wb cs)).shape ((0:Nat):Int) (.agg #[]) true)) w5:=by have hhome:HomeT S.wb cs g₃:=hh3;exact hhome z Ch _ _ w5 (λu=>GoesI.stop λd=>⟨⟨u,rfl⟩,hr4.re rfl rfl rfl rfl rfl rfl⟩)
 obtain ⟨N4,gs4,a4,w6,sl4,T4,q4,B4,r4,z4,h4,⟨⟨u4,rfl⟩,hr6⟩,⟨hB4,hB4b,hB4c⟩,C4⟩:=hold_goes (λw d h=>kc_at w d h) (dh_of_dt hupd2) hG4 gs3 sl3 T3 q3 B3 h3 C3;have hsz:gs4.size=gs.size:=by omega
 refine ⟨N1+N2+N3+N4,gs4,w6,sl4,T4,q4,B4,_,_,S',v4,upd E i E',upd M i M',u4,runNT_then (runNT_then (runNT_then r1 r2) r3) r4,hsz,by rw[hwb'];exact h4,hS',⟨C4,⟨⟨H.mb,.inl (by rw[upd_same];simp)⟩,.inr rfl⟩,?_,hr6,hm4,by rw[hsz];exact cr4,?_,by rw[sR'.len,hS1.2.2,List.length_set];exact H.len,λj hj t0 hj0=>?_⟩⟩
 .have:=H.b
  omega
 .rw[hbk']
  refine ⟨λj hj=>?_,λg hg0 hgn=>?_,λs c hs hc=>?_⟩
  .by_cases e:j=i
   .subst e
    exact ⟨n',by omega,by rw[upd_same,upd_same,upd_same,upd_same]⟩
   .have hne:(X j).h≠(X i).h:=λe'=>e (cr.hinj j i hj hik e')
    obtain ⟨m,hm,hsm⟩:=st1.seat j hj;exact ⟨m,by omega,by rw[upd_ne _ _ hne,upd_ne _ _ e,upd_ne _ _ e,upd_ne _ _ e];exact hsm⟩
  .rw[upd_ne _ _ (λe=>hgn i hik e.symm)]
   exact st1.none g hg0 hgn
  .rw[upd_ne _ _ h0h] at hs
   exact st1.main s c hs hc
 .by_cases e:j=i
  .subst e
   obtain ⟨t',k1,_,k2⟩:=resume_fs j mc (nv (going S j t)) K { t with st:=0 } ht1 (l j) hcons;rw[hR,<-hS'] at k1;rw[hR] at k2;have e2:some t0=some t':=hj0.symm.trans k1;cases e2;rw[upd_same];exact k2
  .rw[upd_ne _ _ e]
   rw[sR'.oth j e,hS1.2.2,Qq,if_neg (λe'=>e e'.symm)] at hj0;exact H.stt j hj t0 hj0
end
variable {mc:Mc}
section
variable {k N:Nat}{X:Nat->Fix mc}{l:Nat->Ph}{E:Nat->Nat->Prop}{M:Nat->Nat->Option Obj}{Mm:Keep}{z:Nat->Option Nat}{cont:Addr->Value}{Ch:Nat->Prop}{S:TS}{K:List (Nat×Int)}{v:World}{B:Nat}{Mb:Nat->Prop}{Inb:Nat->Option Seat}{h:Nat}{T:Trace}{gs:Array Goroutine}{w:World}{q:Nat->Nat}
theorem Holds.fewer (H:Holds k (N+1) X l E M Mm z cont Ch S K v B Mb Inb h T gs w q):Holds k N X l E M Mm z cont Ch S K v B Mb Inb h T gs w q :=
 ⟨H.ring,H.mb,H.b,H.rel,H.mem,H.crew,⟨λi hi=>by obtain ⟨n,h1,h2⟩:=H.seats.seat i hi;exact ⟨n,by omega,h2⟩,H.seats.none,H.seats.main⟩,H.len,H.stt⟩
theorem round_stuck (H:Holds k N X l E M Mm z cont Ch S K v B Mb Inb 0 T gs w q) (hg:gs[0]? = some (G (tFr S.wb u) cs)) (h8:k<=8) (h0:rdyIds S S.thr.length=[]) (hw:waits2 S S.thr.length=true) (hn:(S.n+1)*40<=140737488355328) (sl:Option (Nat×Nat)):
 ∃ (N':Nat) (gs':Array Goroutine) (w':World) (sl':Option (Nat×Nat)) (T':Trace) (q':Nat->Nat) (B':Nat) (S':TS) (v':World) (u':Nat->Value),
   runNT Tryd.prog N' (crowd gs w sl) T=(.next (crowd gs' w' sl'),T')∧gs'.size=gs.size∧gs'[0]? = some (G (tFr S'.wb u') cs)∧nv S'=stuckS (nv S) undef ∧
   Holds k N X l E M Mm z cont Ch S' K v' B' Mb Inb 0 T' gs' w' q':=by
 have cr:=H.crew;have hG:GoesI Tryd.prog ((0:Nat)==0) (DT (ScZ z) Ch) (λg w'=>(∃ u,g=G (tFr S.wb u) cs)∧∃ v' tv,Rel z v' w'∧Evo z S K v (stuckS S tv) K v') (G (tFr S.wb u) cs) w :=
  turn_in u cs (λbd ad od qd rd oe kd hoe hT hF code hcode=>turn50_stuck cs hoe H.rel cr.noRow H.mem (by rw[H.len];exact h8) h0 hw hn (λv' w' tv hr hn he=>hT z Ch _ w' (λu'=>GoesI.stop λd=>⟨⟨u',rfl⟩,v',tv,hr.re rfl rfl rfl rfl rfl rfl,he⟩)) code hcode)
 obtain ⟨N1,gs1,a1,w1,sl1,T1,q1,B1,r1,z1,h1,⟨⟨u1,rfl⟩,v1,tv,hr1,he1⟩,⟨hB1,hB1b,hB1c⟩,C1⟩:=hold_goes (λw d h=>kc_at w d h) (dh_of_dt (seat_ch cr H.seats)) hG gs sl T q B hg H.ring;refine ⟨N1,gs1,w1,sl1,T1,q1,B1,stuckS S tv,v1,u1,r1,z1,h1,rfl,⟨C1,H.mb,by have:=H.b;omega,hr1,he1.mem,by rw[z1];exact cr.main H.mem he1 rfl rfl rfl (λi t ht=>⟨t,ht,rfl,rfl,rfl,rfl,id⟩),H.seats,H.len,H.stt⟩⟩
theorem round_end {bc:Frame}{ac:Act}{ops:Array Oper}{q0:Nat}{rest:List Nat}{oc:Oper}{k0:List Item}(hoc:ops[q0]? = some oc) (H:Holds k N X l E M Mm z cont Ch S K v B Mb Inb 0 T gs w q) (hg:gs[0]? = some (G (tFr S.wb u) (bc.at ac (.inRegion ops (q0 :: rest):: k0):: cs))) (h8:k<=8) (h0:rdyIds S S.thr.length=[]) (hw:waits2 S S.thr.length=false) (sl:Option (Nat×Nat)):
 ∃ (N':Nat) (gs':Array Goroutine) (w':World) (sl':Option (Nat×Nat)) (T':Trace) (q':Nat->Nat) (B':Nat) (v':World),
   runNT Tryd.prog N' (crowd gs w sl) T=(.next (crowd gs' w' sl'),T')∧gs'.size=gs.size∧gs'[0]? = some (G (bc.at (ac.put oc.dst (.tuple #[])) (.inRegion ops rest :: k0)) cs) ∧
   Holds k N X l E M Mm z cont Ch S K v' B' Mb Inb 0 T' gs' w' q':=by
 have cr:=H.crew;have hG:GoesI Tryd.prog ((0:Nat)==0) (DT (ScZ z) Ch) (λg w'=>g=G (bc.at (ac.put oc.dst (.tuple #[])) (.inRegion ops rest :: k0)) cs∧∃ v',Rel z v' w'∧Evo z S K v S K v') (G (tFr S.wb u) (bc.at ac (.inRegion ops (q0 :: rest) :: k0) :: cs)) w :=
  turn_in u _ (λbd ad od qd rd oe kd hoe hT hF code hcode=>turn50_end _ hoe H.rel cr.noRow H.mem (by rw[H.len];exact h8) h0 hw (λv' w' hr hn he=>hF z Ch _ w' bc ac ops q0 rest oc k0 cs rfl hoc (GoesI.stop λd=>⟨rfl,v',hr.re rfl rfl rfl rfl rfl rfl,he⟩)) code hcode)
 obtain ⟨N1,gs1,a1,w1,sl1,T1,q1,B1,r1,z1,h1,⟨rfl,v1,hr1,he1⟩,⟨hB1,hB1b,hB1c⟩,C1⟩:=hold_goes (λw d h=>kc_at w d h) (dh_of_dt (seat_ch cr H.seats)) hG gs sl T q B hg H.ring;exact ⟨N1,gs1,w1,sl1,T1,q1,B1,v1,r1,z1,h1,⟨C1,H.mb,by have:=H.b;omega,hr1,he1.mem,by rw[z1];exact cr.main H.mem he1 rfl rfl rfl (λi t ht=>⟨t,ht,rfl,rfl,rfl,rfl,id⟩),H.seats,H.len,H.stt⟩⟩
theorem all_done (H:Holds k N X l E M Mm z cont Ch S K v B Mb Inb h T gs w q) (h0:rdyIds S S.thr.length=[]) (hw:waits2 S S.thr.length=false):∀ i,i<k->∃ a,l i=.done a:=by
 intro i hi;obtain ⟨t,ht,_⟩:=H.crew.thr i hi;have hs:=H.stt i hi t ht;have hlt:i<S.thr.length:=by rw[H.len];exact hi
 match hl:l i,hs with
 |.done a,_=>exact ⟨a,rfl⟩
 |.turn _ _ _ _ _ _,hs =>
  exfalso;have:i∈rdyIds S S.thr.length:=by unfold rdyIds;rw[List.mem_filter,List.mem_range];refine ⟨hlt,?_⟩;rw[ht];have hs':t.st=1:=hs;simp[rdy,hs']
  rw[h0] at this;cases this
 |.wait _ _ _ _ _,hs =>
  exfalso;have hs':t.st=2:=hs;have:waits2 S S.thr.length=true:=by unfold waits2;rw[List.any_eq_true];exact ⟨i,by simpa using hlt,by rw[ht];simp[hs']⟩
  rw[hw] at this;cases this
end
inductive Turns (nk:Mc):Nat->PSt->PSt->Prop
 |stop {p:PSt}:pturn nk p=none->Turns nk 0 p p
 |step {n:Nat} {p p1 p':PSt}:pturn nk p=some p1->Turns nk n p1 p'->Turns nk (n+1) p p'
theorem nv_picked (S:TS):nv (picked S)=picked (nv S):=by unfold picked;by_cases h:S.us<S.sched.length;rw[if_pos h,if_pos (show (nv S).us<(nv S).sched.length from h)];rfl;rw[if_neg h,if_neg (show ¬ (nv S).us<(nv S).sched.length from h)]
theorem nv_going (S:TS) (i:Nat) (t:Thr):nv (going S i t)=going (nv S) i t:=by unfold going;rw[<-nv_picked];rfl
theorem pickAt_lt (S:TS) {ids:List Nat}(h:0<ids.length):pickAt S ids<ids.length:=by
 unfold pickAt;split;exact which_lt _ h
 .cases hf:ids.findIdx? (λ(i:Nat)=>decide (S.la<(i:Int))) with
  |none=>exact h
  |some k=>exact (List.findIdx?_eq_some_iff_getElem.1 hf).1
theorem going_n (S:TS) (i:Nat) (t:Thr):(going S i t).n=S.n∧(going S i t).sched=S.sched:=by unfold going picked;split<;>exact ⟨rfl,rfl⟩
theorem pturn_n {nk:Mc}{p p1:PSt}(h:pturn nk p=some p1):p.S.n<=p1.S.n∧p1.S.sched=p.S.sched:=by
 unfold pturn at h;split at h
 .split at h
  cases h;exact ⟨Nat.le_succ _,rfl⟩;cases h
 .cases h
  have s:=resume_sta (nextI p.S) nk (p.l (nextI p.S)) (going p.S (nextI p.S) (thrI p.S (nextI p.S))) p.K;have g:=going_n p.S (nextI p.S) (thrI p.S (nextI p.S));exact ⟨by rw[<-g.1];exact s.n,by rw[<-g.2];exact s.sched⟩
theorem Turns.le {nk:Mc}:∀ {n:Nat}{p p':PSt},Turns nk n p p'->p.S.n<=p'.S.n
 |_,_,_,.stop _=>Qi _
 |_,_,_,.step h t=>Qk (pturn_n h).1 t.le
theorem turns_run {k:Nat}{X:Nat->Fix mc}{Mm:Keep}{z:Nat->Option Nat}{cont:Addr->Value}{Ch:Nat->Prop}{bc:Frame}{ac:Act}{ops:Array Oper}{q0:Nat}{rest:List Nat}{oc:Oper}{k0:List Item}(hoc:ops[q0]? = some oc) (h8:k<=8):
 ∀ (n:Nat) (p p':PSt),Turns mc n p p'->∀ (l:Nat->Ph) (E:Nat->Nat->Prop) (M:Nat->Nat->Option Obj) (S:TS) (K:List (Nat×Int)) (v:World) (B:Nat) (Mb:Nat->Prop) (Inb:Nat->Option Seat) (T:Trace) (gs:Array Goroutine) (w:World) (q:Nat->Nat) (sl:Option (Nat×Nat)) (u:Nat->Value),
   p.S=nv S->p.K=K->p.l=l->S.sched.length<=4611686018427387904->(∀ x∈S.sched,-9223372036854775808<=x∧x<9223372036854775808)->p'.S.n*40<=140737488355328 ->
   Holds k n X l E M Mm z cont Ch S K v B Mb Inb 0 T gs w q->gs[0]? = some (G (tFr S.wb u) (bc.at ac (.inRegion ops (q0 :: rest) :: k0) :: cs)) ->
   ∃ (N':Nat) (gs':Array Goroutine) (w':World) (sl':Option (Nat×Nat)) (T':Trace) (q':Nat->Nat) (B':Nat) (Mb':Nat->Prop) (Inb':Nat->Option Seat) (S':TS) (v':World) (E':Nat->Nat->Prop) (M':Nat->Nat->Option Obj),
     runNT Tryd.prog N' (crowd gs w sl) T=(.next (crowd gs' w' sl'),T')∧gs'.size=gs.size∧gs'[0]? = some (G (bc.at (ac.put oc.dst (.tuple #[])) (.inRegion ops rest :: k0)) cs)∧nv S'=p'.S ∧
     Holds k 0 X p'.l E' M' Mm z cont Ch S' p'.K v' B' Mb' Inb' 0 T' gs' w' q'∧∀ i,i<k->∃ a,p'.l i=.done a:=by
 intro n p p' ht;induction ht with
 |stop hp =>
  rename_i p;intro l E M S K v B Mb Inb T gs w q sl u hS hK hl hsl hsc hn H hg;unfold pturn at hp;split at hp
  .rename_i h0
   split at hp;cases hp
   .rename_i hw
    rw[hS] at h0 hw;have hw':waits2 S S.thr.length=false:=Bool.eq_false_iff.2 hw;obtain ⟨N',gs',w',sl',T',q',B',v',r,z1,h1,H1⟩:=round_end hoc H hg h8 h0 hw' sl;rw[hl,hK];exact ⟨N',gs',w',sl',T',q',B',Mb,Inb,S,v',E,M,r,z1,h1,hS.symm,H1,all_done H1 h0 hw'⟩
  cases hp
 |step hp htt ih =>
  rename_i n p p1 p';intro l E M S K v B Mb Inb T gs w q sl u hS hK hl hsl hsc hn H hg;have hp0:=hp;unfold pturn at hp;split at hp
  .rename_i h0
   split at hp
   .rename_i hw
    have hp1:=Qd hp;rw[hS] at h0 hw;have hle:=htt.le;rw[<-hp1,hS] at hle;obtain ⟨N',gs',w',sl',T',q',B',S',v',u',r,z1,h1,hS1,H1⟩:=round_stuck H.fewer hg h8 h0 hw (Qk (Nat.mul_le_mul_right 40 hle) hn) sl;have es:S'.sched=S.sched:=by have:=congrArg TS.sched hS1;exact this
    obtain ⟨N2,gs2,w2,sl2,T2,q2,B2,Mb2,Inb2,S2,v2,E2,M2,r2,z2,h2,hS2,H2,hd⟩:=ih l E M S' K v' B' Mb Inb T' gs' w' q' sl' u' (by rw[<-hp1,hS1,hS]) (by rw[<-hp1];exact hK) (by rw[<-hp1];exact hl) (by rw[es];exact hsl) (by rw[es];exact hsc) hn H1 h1;exact ⟨N'+N2,gs2,w2,sl2,T2,q2,B2,Mb2,Inb2,S2,v2,E2,M2,runNT_then r r2,z2.trans z1,h2,hS2,H2,hd⟩
   cases hp
  .rename_i h0
   have hp1:=Qd hp;rw[hS] at h0;have hlen:0<(rdyIds S S.thr.length).length:=List.length_pos_iff.2 h0;have hpk:pickAt S (rdyIds S S.thr.length)<(rdyIds S S.thr.length).length:=pickAt_lt S hlen;obtain ⟨i,hi⟩:∃ i,(rdyIds S S.thr.length)[pickAt S (rdyIds S S.thr.length)]? = some i:=⟨_,Qf hpk⟩
   have hni:nextI p.S=i:=by rw[hS];show ((rdyIds S S.thr.length)[pickAt S (rdyIds S S.thr.length)]?).getD 0=i;rw[hi];rfl
   have eR:resume (nextI p.S) mc (p.l (nextI p.S)) (going p.S (nextI p.S) (thrI p.S (nextI p.S))) p.K=resume i mc (l i) (nv (going S i (thrI S i))) K:=by rw[hni,hl,hK,hS,nv_going];rfl
   rw[eR,hni,hl] at hp1;have hle:=htt.le;rw[<-hp1] at hle;obtain ⟨N',gs',w',sl',T',q',B',Mb',Inb',S',v',E',M',u',r,z1,h1,hS1,H1⟩:=round_go H hg h8 hsl hsc hi sl (Qk (Nat.mul_le_mul_right 40 hle) hn);have es:S'.sched=S.sched:=by have e1:=congrArg TS.sched hS1;have e2:=(resume_sta i mc (l i) (nv (going S i (thrI S i))) K).sched;have e3:=(going_n S i (thrI S i)).2;exact e1.trans (e2.trans e3)
   obtain ⟨N2,gs2,w2,sl2,T2,q2,B2,Mb2,Inb2,S2,v2,E2,M2,r2,z2,h2,hS2,H2,hd⟩:=ih _ E' M' S' _ v' B' Mb' Inb' T' gs' w' q' sl' u' (by rw[<-hp1];exact hS1.symm) (by rw[<-hp1]) (by rw[<-hp1]) (by rw[es];exact hsl) (by rw[es];exact hsc) hn H1 h1;exact ⟨N'+N2,gs2,w2,sl2,T2,q2,B2,Mb2,Inb2,S2,v2,E2,M2,runNT_then r r2,z2.trans z1,h2,hS2,H2,hd⟩
end Go.Proofs.YtfjjoohflcchnaaDoor.Gen
namespace Go.Lift
open Go.Conc
open Go.ConcN (sumTo upd sumTo_upd upd_ne upd_same)
theorem touch_low {x:MemAct}{a:Touch}{B:Nat}(h:x.touch? = some a) (hl:x.low B):a.loc.low B:=by
 cases x with
 |access e =>simp only[MemAct.touch?,Option.some.injEq] at h;subst h;exact hl
 |mark m=>cases m<;>simp only[MemAct.touch?,Option.some.injEq,reduceCtorEq] at h<;>(subst h;exact hl)
 |go _|start=>cases h
 |send _ _|sendDone _ _|recv _ _ _|recvDone _ _|close _|recvClosed _=>cases h
end Go.Lift
namespace Go.Proofs.YtfjjoohflcchnaaDoor.Gen
open Go Go.Lift Go.Conc Go.RowKit
open Go.ConcN (upd upd_same upd_ne)
variable {mc:Mc}
def hiredS (S:TS) (tv:Value) (tb gc:Nat):TS:={ S with ths:=tv,thr:=S.thr++[⟨tb,gc,0,0,0,0⟩] }
def hireV (S:TS) (v:World):World:={ v with heap:=(v.heap.push (.chan 0 #[] false 0 0 false)).push (.cells (trow S.wb S.thr.length v.heap.size 0 0 0 0) 107 (2,3)) }
def zAdd (z:Nat->Option Nat) (tb:Nat) (b:Nat):Option Nat:=if b=tb then some 2 else z b
theorem hireV_old (S:TS) (v:World) {b:Nat}(hb:b<v.heap.size):(hireV S v).heap[b]? = v.heap[b]?:=by show ((v.heap.push _).push _)[b]? = _;rw[Array.getElem?_push_lt (by simp;omega),Array.getElem_push_lt hb,Qm hb]
theorem hireV_chan (S:TS) (v:World):(hireV S v).heap[v.heap.size]? = some (.chan 0 #[] false 0 0 false):=by show ((v.heap.push _).push _)[v.heap.size]? = _;simp[Qg]
theorem hireV_row (S:TS) (v:World):(hireV S v).heap[v.heap.size+1]? = some (.cells (trow S.wb S.thr.length v.heap.size 0 0 0 0) 107 (2,3)):=by
 have:v.heap.size+1=(v.heap.push (Obj.chan 0 #[] false 0 0 false)).size:=by simp
 show ((v.heap.push _).push _)[v.heap.size+1]? = _;rw[this];exact Qo
theorem hireV_size (S:TS) (v:World):(hireV S v).heap.size=v.heap.size+2:=by simp[hireV]
theorem thr_add {z:Nat->Option Nat}{S:TS}{K:List (Nat×Int)}{v v3:World}(hm:Mem z S K v) (hz:z (v.heap.size+1)=none) (hT:Threaded S.wb S.ths S.thr.length S.base (S.thr.map λt=>Pt t.tb 0) (Pt (v.heap.size+1) 0) (hireV S v) v3):
 ∃ tv,Mem (zAdd z (v.heap.size+1)) (hiredS S tv (v.heap.size+1) v.heap.size) K v3∧(∀ b,b<v.heap.size->¬ Own S K b->v3.heap[b]? = v.heap[b]?)∧(∀ b,Own (hiredS S tv (v.heap.size+1) v.heap.size) K b->Own S K b∨v.heap.size<=b)∧v3.heap[v.heap.size]? = some (.chan 0 #[] false 0 0 false)∧v.heap.size+2<=v3.heap.size:=by
 obtain ⟨g,cap,q1,q2,q3,q5⟩:=hT;have hs:=hireV_size S v;have r:=hm.rep;have hwb:S.wb<v.heap.size:=r.lt (k:=0) rfl;have hths:∀ b,S.ths.ownBlock=some b->b<v.heap.size:=λb hb=>r.lt (k:=2) hb;have hst:∀ b,b<v.heap.size+2->b≠S.wb->some b≠S.ths.ownBlock->v3.heap[b]? = (hireV S v).heap[b]?:=λb hb h1 h2=>q5.block b (by rw[hs];exact hb) (λh=>h.elim h1 h2);have hst':∀ b,b<v.heap.size->b≠S.wb->some b≠S.ths.ownBlock->v3.heap[b]? = v.heap[b]?:=λb hb h1 h2=>by rw[hst b (by omega) h1 h2,hireV_old S v hb]
 have hits:∀ k b,blk S k=some b->k≠0->k≠2->v3.heap[b]? = v.heap[b]?:=λk b hk h0 h2=>hst' b (r.lt hk) (λe=>h0 (r.apart k 0 b hk (by rw[e];rfl))) (λe=>h2 (r.apart k 2 b hk e.symm));have hgb:g=g∧(S.ths.ownBlock=some g∨v.heap.size+2<=g):=⟨rfl,by rw[hs] at q3;exact q3⟩
 have hsz:v.heap.size+2<=v3.heap.size:=by have:=q5.size;omega
 have hfz:∀ b,b<v.heap.size->fz (zAdd z (v.heap.size+1)) b=fz z b:=λb hb=>by unfold fz zAdd;rw[if_neg (by omega)]
 have hblk:∀ k b,blk (hiredS S (.slice (some ⟨g,0,none⟩) (S.thr.length+1) cap) (v.heap.size+1) v.heap.size) k=some b->(k≠2∧blk S k=some b)∨(k=2∧b=g)∨(k=S.thr.length+5∧b=v.heap.size+1):=λk b hk=>by
  match k,hk with
  |0,hk=>exact .inl ⟨by omega,hk⟩
  |1,hk=>exact .inl ⟨by omega,hk⟩
  |2,hk=>cases hk;exact .inr (.inl ⟨rfl,rfl⟩)
  |3,hk=>exact .inl ⟨by omega,hk⟩
  |4,hk=>exact .inl ⟨by omega,hk⟩
  |k+5,hk =>
   simp only[blk,hiredS,Option.map_eq_some_iff] at hk;obtain ⟨t,ht,rfl⟩:=hk;rcases Nat.lt_trichotomy k S.thr.length with hlt|rfl|hgt
   .rw[Qn hlt] at ht
    exact .inl ⟨by omega,by simp[blk,ht]⟩
   .rw[List.getElem?_append_right (Qi _)] at ht
    simp at ht;subst ht;exact .inr (.inr ⟨rfl,rfl⟩)
   .rw[List.getElem?_append_right (by omega)] at ht
    have:k - S.thr.length≠0:=by omega
    simp[this] at ht
 have hlow:∀ k b,blk S k=some b->b≠v.heap.size+1:=λk b hk e=>by have:=r.lt hk;omega
 have hgne:∀ k b,k≠2->blk S k=some b->b≠g:=λk b hk2 hk e=>by rcases hgb.2 with h1|h1;exact hk2 (r.apart k 2 b hk (by rw[e];exact h1));have:=r.lt hk;omega
 have hgtb:g≠v.heap.size+1:=λe=>by rcases hgb.2 with h1|h1;have:=hths g h1;omega;omega
 refine ⟨.slice (some ⟨g,0,none⟩) (S.thr.length+1) cap,⟨⟨?_,λi t ht=>?_,own_stay (λb hb=>hits 3 b hb (by omega) (by omega)) r.own,own_stay (λb hb=>hits 1 b hb (by omega) (by omega)) r.chg,?_,own_stay (λb hb=>hits 4 b hb (by omega) (by omega)) r.sch,?_,λj k b hj hk=>?_,λb n hzb=>?_⟩,λj c hc=>?_,λj c hc hi=>?_,hm.inj,hm.len⟩,λb hb ho=>?_,λb ho=>?_,?_,hsz⟩
 .have:=q1 _ _ _ (by rw[hireV_old S v hwb];exact r.wor)
  show v3.heap[S.wb]? = some (.cells (wrow (hiredS S _ _ _)) 97 (fz (zAdd z (v.heap.size+1)) S.wb));rw[hfz S.wb hwb];simpa [hiredS] using this
 .rcases Nat.lt_trichotomy i S.thr.length with hlt|rfl|hgt
  .rw[show (hiredS S _ _ _).thr[i]? = S.thr[i]? from Qn hlt] at ht
   have hb:blk S (i+5)=some t.tb:=by simp[blk,ht]
   rw[hits (i+5) t.tb hb (by omega) (by omega),hfz t.tb (r.lt hb)];exact r.thr i t ht
  .have ht':(S.thr++[(⟨v.heap.size+1,v.heap.size,0,0,0,0⟩:Thr)])[S.thr.length]? = some t:=ht
   rw[List.getElem?_append_right (Qi _)] at ht';simp at ht';subst ht';show v3.heap[v.heap.size+1]? = some (.cells (trow S.wb S.thr.length v.heap.size 0 0 0 0) 107 (fz (zAdd z (v.heap.size+1)) (v.heap.size+1)));rw[hst (v.heap.size+1) (by omega) (by omega) (λe=>by have:=hths _ e.symm;omega),hireV_row];unfold fz zAdd;rw[if_pos rfl]
  .have ht':(S.thr++[(⟨v.heap.size+1,v.heap.size,0,0,0,0⟩:Thr)])[i]? = some t:=ht
   rw[List.getElem?_append_right (by omega)] at ht';have:i - S.thr.length≠0:=by omega
   simp[this] at ht'
 .show v3.ownsRow S.base 48 1 (.slice (some ⟨g,0,none⟩) (S.thr.length+1) cap) (S.thr++[(⟨v.heap.size+1,v.heap.size,0,0,0,0⟩:Thr)]).length ((S.thr++[(⟨v.heap.size+1,v.heap.size,0,0,0,0⟩:Thr)]).map λt=>Pt t.tb 0)
  rw[Qj,List.map_append];exact q2
 .show S.base<=v3.heap.size
  have:=r.bs;omega
 .rcases hblk j b hj with ⟨n1,e1⟩|⟨n1,e1⟩|⟨n1,e1⟩<;>rcases hblk k b hk with ⟨n2,e2⟩|⟨n2,e2⟩|⟨n2,e2⟩
  exact r.apart j k b e1 e2;exact absurd e2 (hgne j b n1 e1);exact absurd e2 (hlow j b e1);exact absurd e1 (hgne k b n2 e2);rw[n1,n2];exact absurd (e1.symm.trans e2) hgtb;exact absurd e1 (hlow k b e2);exact absurd (e2.symm.trans e1) hgtb;rw[n1,n2]
 .unfold zAdd at hzb
  split at hzb
  .cases hzb
   rename_i e;exact .inr ⟨S.thr.length,⟨v.heap.size+1,v.heap.size,0,0,0,0⟩,by show (S.thr++[_])[S.thr.length]? = _;simp,e,rfl⟩
  .rcases r.kept b n hzb with h1|⟨i,t,ht,h2,h3⟩
   exact .inl h1
   .have hlt:i<S.thr.length:=(Qc ht).1
    exact .inr ⟨i,t,by show (S.thr++[_])[i]? = _;rw[Qn hlt];exact ht,h2,h3⟩
 .have hb:=hm.lt (.inr ⟨j,c,hc,rfl⟩)
  rw[hst' c.1 hb (λe=>hm.far j c hc ⟨0,by rw[e];rfl⟩) (λe=>hm.far j c hc ⟨2,e.symm⟩)];exact hm.cel j c hc
 .obtain ⟨k,hk⟩:=hi
  have hb:=hm.lt (.inr ⟨j,c,hc,rfl⟩);rcases hblk k c.1 hk with ⟨_,e1⟩|⟨_,e1⟩|⟨_,e1⟩
  exact hm.far j c hc ⟨k,e1⟩
  .rcases hgb.2 with h1|h1
   exact hm.far j c hc ⟨2,by rw[e1];exact h1⟩;omega
  omega
 exact hst' b hb (λe=>ho (.inl ⟨0,by rw[e];rfl⟩)) (λe=>ho (.inl ⟨2,e.symm⟩))
 .rcases ho with ⟨k,hk⟩|hc
  .rcases hblk k b hk with ⟨_,e1⟩|⟨_,e1⟩|⟨_,e1⟩
   exact .inl (.inl ⟨k,e1⟩)
   .rcases hgb.2 with h1|h1
    exact .inl (.inl ⟨2,by rw[e1];exact h1⟩);right;omega
   right;omega
  exact .inl (.inr hc)
 rw[hst v.heap.size (by omega) (by omega) (λe=>by have:=hths _ e.symm;omega),hireV_chan]
variable {mc:Mc}
section
variable {k:Nat}{X:Nat->Fix mc}{l:Nat->Ph}{E:Nat->Nat->Prop}{M:Nat->Nat->Option Obj}{Mm:Keep}{z z':Nat->Option Nat}{cont cont':Addr->Value}{Ch Ch':Nat->Prop}{S S':TS}{K K':List (Nat×Int)}{v v':World}{gsz gsz':Nat}
theorem has_move {m:Nat->Option Obj}(hkeep:∀ b,b<v.heap.size->¬ Own S K b->v'.heap[b]? = v.heap[b]?) (hown:∀ b,Own S' K' b->Own S K b∨v.heap.size<=b) (hM:Has m v) (hfar:∀ b,m b≠none->¬ Own S K b):Has m v'∧∀ b,m b≠none->¬ Own S' K' b:=by
 refine ⟨λb o hb=>?_,λb hb ho=>?_⟩
 .have hne:m b≠none:=by rw[hb];simp
  rw[hkeep b (hM.lt hne) (hfar b hne)];exact hM b o hb
 .rcases hown b ho with h1|h1
  exact hfar b hb h1;have:=hM.lt hb;omega
theorem Crew.move (h:Crew k X l E M Mm z cont Ch S K v gsz) (hkeep:∀ b,b<v.heap.size->¬ Own S K b->v'.heap[b]? = v.heap[b]?) (hown:∀ b,Own S' K b->Own S K b∨v.heap.size<=b)
 (hthr:∀ i,i<k->S'.thr[i]? = S.thr[i]?) (hlen:k<=S'.thr.length) (hwb:S'.wb=S.wb) (hbk:S'.bk=S.bk) (hgs:gsz<=gsz')
 (hz:∀ b n,z b=some n->z' b=some n∧cont' ⟨b,n,none⟩=cont ⟨b,n,none⟩) (hch:∀ c,Ch c->Ch' c) (hzc:∀ c,Ch' c->z' c=none) (hopn:∀ c,Ch' c->Open v' c) (hnc:∀ c,Ch' c->Ch c∨v.heap.size<=c) (hio:v'.os=v.os∧v'.output=v.output):Crew k X l E M Mm z' cont' Ch' S' K v' gsz':=by
 refine ⟨hlen,h.ok,λi hi=>?_,h.hinj,h.ginj,λi hi=>by rw[hbk];exact h.gbk i hi,λi hi=>Qp (h.hlt i hi) hgs,λi hi=>?_,?_,hzc,hopn,λi hi=>?_,h.apart,?_⟩
 .obtain ⟨t,h1,h2⟩:=h.thr i hi
  exact ⟨t,by rw[hthr i hi];exact h1,h2⟩
 .have a:=h.zs i hi
  have b:=hz _ _ a.1;exact ⟨b.1,b.2.trans a.2.1,hch _ a.2.2⟩
 .rw[hwb,hbk]
  have a:=h.z0;have b:=hz _ _ a.1;exact ⟨b.1,b.2.trans a.2.1,hch _ a.2.2⟩
 .have:=h.sees i hi
  exact ⟨this.1,has_move hkeep hown this.2.1 this.2.2⟩
 .have:=has_move hkeep hown h.mine.1 h.mine.2.1
  exact ⟨this.1,this.2,λb hb hc=>(hnc b hc).elim (h.mine.2.2.1 b hb) (λhle=>by have:=h.mine.1.lt hb;omega),h.mine.2.2.2.1,hio.1.trans h.mine.2.2.2.2.1,hio.2.trans h.mine.2.2.2.2.2⟩
theorem Crew.add (h:Crew k X l E M Mm z cont Ch S K v gsz) {Y:Fix mc}(he:EvoP (λb=>b=Y.ab∨False) z S K v S' K' v') (hst:Sta k S S') {l':Ph}{E':Nat->Prop}{M':Nat->Option Obj}{Mm':Keep}
 (hfit:∃ t',S'.thr[k]? = some t'∧FitsN l' t') (hs:Sees Y E' M' l'.ans) (hM':Has M' v') (hfar:∀ b,M' b≠none->¬ Own S' K' b) (hnew:∀ b,E' b->False∨v.heap.size<=b)
 (hok:Y.Ok∧Y.i=k∧K.map (·.1)=Y.kb) (htY:∃ t,S.thr[k]? = some t∧t.tb=Y.tb∧t.gc=Y.gc) (hm:Mem z S K v)
 (hh:∀ j,j<k->(X j).h≠Y.h) (hgc:∀ j,j<k->(X j).gc≠Y.gc) (hgbk:Y.gc≠S.bk) (hlt:Y.h<gsz) (hzY:z Y.tb=some 2∧cont ⟨Y.tb,2,none⟩=.chan (some Y.gc)∧Ch Y.gc)
 (habM:∀ j,j<k->∀ b,M j b≠none->b≠Y.ab) (habm:∀ b,Mm'.M b≠none->b≠Y.ab) (hMm:∀ b o,Mm'.M b=some o->Mm.M b=some o) (hYp:∀ b,Y.Pr b->v.heap.size<=b∨Mm.M b≠none) (hio:Mm'.os=Mm.os∧Mm'.out=Mm.out):
 Crew (k+1) (upd X k Y) (upd l k l') (upd E k E') (upd M k M') Mm' z cont Ch S' K' v' gsz:=by
 have hX:∀ j,j<k->upd X k Y j=X j:=λj hj=>upd_ne _ _ (by omega);have hl:∀ j,j<k->upd l k l' j=l j:=λj hj=>upd_ne _ _ (by omega);have hE:∀ j,j<k->upd E k E' j=E j:=λj hj=>upd_ne _ _ (by omega);have hM:∀ j,j<k->upd M k M' j=M j:=λj hj=>upd_ne _ _ (by omega);have cs:∀ j,j<k+1->j<k∨j=k:=λj hj=>by omega
 have hMlt:∀ j,j<k->∀ b,M j b≠none->b<v.heap.size:=λj hj b hb=>(h.sees j hj).2.1.lt hb;have hab:Y.ab<v.heap.size->Mm.M Y.ab≠none:=λhlt=>(hYp Y.ab (.inr (.inr (.inl rfl)))).elim (λhle=>by omega) id;have hopn:∀ c,Ch c->Open v' c:=λc hc=>by
  obtain ⟨cap,n,hh⟩:=h.opn c hc;have hcl:=(Qb hh).1;refine ⟨cap,n,?_⟩;rw[(he.keeps hcl (λho=>?_) (λhw=>?_)).1,hh]
  .obtain ⟨x,e,f,h1⟩:=hm.row ho
   rw[hh] at h1;cases h1
  .rcases hw with rfl|hw
   exact h.mine.2.2.1 _ (hab hcl) hc;exact hw
 have hMd:∀ b,M' b≠none->∀ j,j<k->¬ (b=(X j).ab∨E j b):=λb hb j hj hx=>by
  have hlt:=hMlt j hj b (h.abM hj hx);rcases hs.dom b hb with h1|h1
  .rcases hYp b h1 with h2|h2
   omega;exact h.mine.2.2.2.1 j hj b h2 hx
  .rcases hnew b h1 with h2|h2
   exact h2;omega
 refine ⟨?_,λj hj=>?_,λj hj=>?_,λi j hi hj e=>?_,λi j hi hj e=>?_,λj hj=>?_,λj hj=>?_,λj hj=>?_,by rw[hst.wb,hst.bk];exact h.z0,h.zc,hopn,λj hj=>?_,λi j hi hj hne b hb hx=>?_,?_⟩
 .obtain ⟨t,ht,_⟩:=htY
  rw[hst.len];exact (Qc ht).1
 .rcases cs j hj with hj|rfl
  .rw[hX j hj]
   exact ⟨(h.ok j hj).1,(h.ok j hj).2.1,he.blks.trans (h.ok j hj).2.2⟩
  .rw[upd_same]
   exact ⟨hok.1,hok.2.1,he.blks.trans hok.2.2⟩
 .rcases cs j hj with hj|rfl
  .rw[hX j hj,hl j hj]
   obtain ⟨t,h1,h2⟩:=h.thr j hj;exact ⟨t,by rw[hst.oth j (by omega)];exact h1,h2⟩
  .rw[upd_same,upd_same]
   obtain ⟨t,h1,h2,h3⟩:=htY;obtain ⟨t',k1,k2⟩:=hfit;obtain ⟨t2,q1,q2,q3⟩:=hst.own t h1;rw[k1] at q1;cases q1;exact ⟨t',k1,q2.trans h2,q3.trans h3,k2⟩
 .rcases cs i hi with hi|rfl<;>rcases cs j hj with hj|rfl
  rw[hX i hi,hX j hj] at e;exact h.hinj i j hi hj e;rw[hX i hi,upd_same] at e;exact absurd e (hh i hi);rw[hX j hj,upd_same] at e;exact absurd e.symm (hh j hj);rfl
 .rcases cs i hi with hi|rfl<;>rcases cs j hj with hj|rfl
  rw[hX i hi,hX j hj] at e;exact h.ginj i j hi hj e;rw[hX i hi,upd_same] at e;exact absurd e (hgc i hi);rw[hX j hj,upd_same] at e;exact absurd e.symm (hgc j hj);rfl
 .rw[hst.bk]
  rcases cs j hj with hj|rfl;rw[hX j hj];exact h.gbk j hj;rw[upd_same];exact hgbk
 .rcases cs j hj with hj|rfl
  rw[hX j hj];exact h.hlt j hj;rw[upd_same];exact hlt
 .rcases cs j hj with hj|rfl
  rw[hX j hj];exact h.zs j hj;rw[upd_same];exact hzY
 .rcases cs j hj with hj|rfl
  .rw[hX j hj,hl j hj,hE j hj,hM j hj]
   have:=h.sees j hj;exact ⟨this.1,keepM he this.2.1 this.2.2 (λb hb hx=>hx.elim (habM j hj b hb) id)⟩
  .rw[upd_same,upd_same,upd_same,upd_same]
   exact ⟨hs,hM',hfar⟩
 .rcases cs i hi with hi|rfl<;>rcases cs j hj with hj|rfl
  .rw[hX i hi,hE i hi] at hx
   rw[hM j hj] at hb;exact h.apart i j hi hj hne b hb hx
  .rw[hX i hi,hE i hi] at hx
   rw[upd_same] at hb;exact hMd b hb i hi hx
  .rw[upd_same,upd_same] at hx
   rw[hM j hj] at hb;rcases hx with h1|h1;exact habM j hj b hb h1
   .rcases hnew b h1 with h2|h2
    exact h2;have:=hMlt j hj b hb;omega
  exact hne rfl
 .have hmm:∀ b,Mm'.M b≠none->Mm.M b≠none:=λb hb=>by obtain ⟨o,ho⟩:=Option.ne_none_iff_exists'.1 hb;rw[hMm b o ho];simp
  have hMm':Has Mm'.M v:=λb o hb=>h.mine.1 b o (hMm b o hb);have:=keepM he hMm' (λb hb=>h.mine.2.1 b (hmm b hb)) (λb hb hx=>hx.elim (habm b hb) id);refine ⟨this.1,this.2,λb hb=>h.mine.2.2.1 b (hmm b hb),λj hj b hb hx=>?_,(he.fr.os.trans h.mine.2.2.2.2.1).trans hio.1.symm,(he.fr.output.trans h.mine.2.2.2.2.2).trans hio.2.symm⟩;rcases cs j hj with hj|rfl
  .rw[hX j hj,hE j hj] at hx
   exact h.mine.2.2.2.1 j hj b (hmm b hb) hx
  .rw[upd_same,upd_same] at hx
   rcases hx with h1|h1;exact habm b hb h1
   .rcases hnew b h1 with h2|h2
    exact h2;have:=hMm'.lt hb;omega
end
section
variable {P:Program}{K K':World->Prop}{Still Still':Loc->Prop}{B B':Nat}{Mem:Nat->Prop}{Inb:Nat->Option Seat}{h:Nat}{T:Trace}{gs:Array Goroutine}{w:World}{q:Nat->Nat}
open Go.ConcN (sumTo)
theorem hold_mute (hKat:∀ w d,K w->K (w.at d)) {D:World->World->Array Event->Prop}{Stop:Goroutine->World->Prop}(hD:∀ w w' es,D w w' es->K w->(∀ i s c,Inb i=some s->s.has c->∃ o,w.heap[c]? = some o)->∀ B,DH K Still B Inb w w' es)
 {a:Goroutine} {w:World} (hG:GoesI P (h==0) D Stop a w):∀ (gs:Array Goroutine) (sl:Option (Nat×Nat)) (T:Trace) (q:Nat->Nat) (B:Nat),gs[h]? = some a->Ring P K Still B Mem Inb h T gs w q ->
 ∃ (N:Nat) (gs':Array Goroutine) (a':Goroutine) (w':World) (sl':Option (Nat×Nat)) (T':Trace) (q':Nat->Nat),
   runNT P N (crowd gs w sl) T=(.next (crowd gs' w' sl'),T')∧gs'.size=gs.size∧gs'[h]? = some a'∧Stop a' w'∧Ring P K Still B Mem Inb h T' gs' w' q':=by
 refine hG.induct (M:=λa w=>∀ (gs:Array Goroutine) (sl:Option (Nat×Nat)) (T:Trace) (q:Nat->Nat) (B:Nat),gs[h]? = some a->Ring P K Still B Mem Inb h T gs w q ->
  ∃ (N:Nat) (gs':Array Goroutine) (a':Goroutine) (w':World) (sl':Option (Nat×Nat)) (T':Trace) (q':Nat->Nat),
    runNT P N (crowd gs w sl) T=(.next (crowd gs' w' sl'),T')∧gs'.size=gs.size∧gs'[h]? = some a'∧Stop a' w'∧Ring P K Still B Mem Inb h T' gs' w' q') ?_ ?_
 .intro g w hs gs sl T q B ha C
  exact ⟨0,gs,g,w,sl,T,q,rfl,rfl,ha,hs w.drawn,C⟩
 .intro g w hrun g' w' es e hDD _ ih
  have key:∀ (m:Nat) (gs:Array Goroutine) (sl:Option (Nat×Nat)) (T:Trace) (q:Nat->Nat) (B d₀:Nat),sumTo gs.size q=m->gs[h]? = some g->Ring P K Still B Mem Inb h T gs (w.at d₀) q ->
   ∃ (N:Nat) (gs':Array Goroutine) (a':Goroutine) (w':World) (sl':Option (Nat×Nat)) (T':Trace) (q':Nat->Nat),
     runNT P N (crowd gs (w.at d₀) sl) T=(.next (crowd gs' w' sl'),T')∧gs'.size=gs.size∧gs'[h]? = some a'∧Stop a' w'∧Ring P K Still B Mem Inb h T' gs' w' q':=by
   intro m;induction m using Nat.strongRecOn with
   |_ m ihm =>
    intro gs sl T q B d₀ hm ha C;obtain ⟨i,x,d,sl',hi,hg,hst⟩:=crowd_pick (P:=P) (w:=w.at d₀) (sl:=sl) (C.awake ha (.inl hrun)) ⟨h,g,ha,hrun⟩;have Cd:Ring P K Still B Mem Inb h T gs (w.at d) q:=TokCore.at hKat C d;have hst':stepT P (crowd gs (w.at d₀) sl)=runT P (crowd gs (w.at d) sl') i:=hst;by_cases ei:i=h
    .subst ei
     obtain rfl:x=g:=by rw[ha] at hi;exact (Qd hi).symm
     have hB₀:=hD _ _ _ (hDD d) Cd.keep (λj s c e hc=>by obtain ⟨cap,n,hk⟩:=Cd.chans j s c (λz=>z) e hc;exact ⟨_,hk⟩);obtain ⟨C',ha'⟩:=Ring.own (a':=g' d) Cd hi (hB₀ B);obtain ⟨N,gs2,a2,w2,sl2,T2,q2,r,hsz,h2,hS,C2⟩:=ih d _ sl' _ q _ ha' C';refine ⟨N+1,gs2,a2,w2,sl2,T2,q2,?_,by simpa using hsz,h2,hS,C2⟩;have hrt:=runT_crowd_go (P:=P) (sl:=sl') hi (e d);simp only[runNT,hst',hrt];exact r
    .obtain ⟨gs',ops,q',hrt,hsz',hsp,_,_,C',hlt⟩:=TokCore.by_step (sl:=sl') (λt u i=>Knows.app u) Cd hi ei hg
      (λy gy hy hgy=>by subst hy;rw[ha] at hgy;obtain rfl:=Qd hgy;exact again_of_running (.inl hrun) _) (λhD=>hD.elim)
      (λs g₂ _ _=>⟨λhD=>hD,λy gy c hy hgy _=>by subst hy;rw[ha] at hgy;obtain rfl:=Qd hgy;exact offersAt_of_not_blocked (by rw[hrun];simp) _ _⟩)
     obtain ⟨N,gs2,a2,w2,sl2,T2,q2,r,hsz,h2,hS,C2⟩:=ihm (sumTo gs'.size q') (by rw[hsz'];omega) gs' sl' _ q' B d rfl (by rw[hsp h rfl];exact ha) C';refine ⟨N+1,gs2,a2,w2,sl2,T2,q2,?_,hsz.trans hsz',h2,hS,C2⟩;simp only[runNT,hst',hrt];exact r
  intro gs sl T q B ha C;exact key _ gs sl T q B w.drawn rfl ha C
end
end Go.Proofs.YtfjjoohflcchnaaDoor.Gen
namespace Go.Proofs.YtfjjoohflcchnaaDoor.Gen
open Go Go.Lift Go.Conc Go.RowKit
variable {z:Nat->Option Nat} {cont:Addr->Value} {ii:Nat}
variable {mc:Mc}
structure Good (v0:World) (Mo0:Nat->Option Obj) (x:Nx) (Mo:Nat->Option Obj):Prop where
 seat:∀ e y,x≠.ans e y
 new:∀ b,Mo b≠none->Mo0 b≠none∨v0.heap.size<=b
 row:∀ b o,Mo b=some o->∃ c e f,o=.cells c e f
structure Ob (X:Fix mc) (H:Nx->(Nat->Option Obj)->Goroutine->Prop) (z:Nat->Option Nat) (cont:Addr->Value) (Ch:Nat->Prop) (Stop:Goroutine->World->Prop) (cu:Value->Goroutine) (S0:TS) (K0:List (Nat×Int)) (v0:World) (Mo0:Nat->Option Obj) (σ:TS) (κ:List (Nat×Int)) (x:Nx):Prop where
 ans:∀ a:Int×Int,(x=.ans a.1 a.2∨∃ j q,x=.wait j q∧σ.stk=true∧a=mc.stuck q)->∀ (v w:World) (S:TS),Rel z v w->NoRow Ch v->nv S=σ->EvoP (λb=>Mo0 b≠none) z S0 K0 v0 S κ v->GoesI Tryd.prog (X.h==0) (DT (ScZ z) Ch) Stop (cu (.agg #[I a.1,I a.2])) w
 seat:∀ (s op:Int) (j:Nat),((∃ q,x=.turn op j q)∧s=1∨(∃ q,x=.wait j q)∧σ.stk=false∧s=2∧op=6)->∀ (g:Goroutine) (w:World) (Mo:Nat->Option Obj),Good v0 Mo0 x Mo ->
  Lift.AtGive Tryd.prog (KC (ScZ z) cont) (StillC (ScZ z)) X.h S0.bk (.agg #[]) (some (seatT X.gc (H x Mo))) (λw'=>∃ v' S',Rel z v' w'∧NoRow Ch v'∧nv S'=waiting σ X.i (thrI σ X.i) s op j∧EvoP (λb=>Mo0 b≠none) z S0 K0 v0 S' κ v'∧Has Mo v'∧∀ b,Mo b≠none->¬ Own S' κ b) g w->Stop g w
structure At (X:Fix mc) (z:Nat->Option Nat) (cont:Addr->Value) (Ch:Nat->Prop) (S:TS) (K:List (Nat×Int)) (v w:World) (t:Thr):Prop where
 rel:Rel z v w
 noRow:NoRow Ch v
 mem:Mem z S K v
 thr:S.thr[X.i]? = some t
 tb:t.tb=X.tb
 gc:t.gc=X.gc
 kb:K.map (·.1)=X.kb
 z:z X.tb=some 2
 cont:cont ⟨X.tb,2,none⟩=.chan (some X.gc)
 pk:Has X.pk v
 far:∀ b,X.pk b≠none->¬ Own S K b
structure Pkg (mc:Mc) (fid:FuncId) where
 fn:Func
 code:Code
 hf:Tryd.prog.funcs[fid]? = some fn
 hname : (fn.name == "runtime.NumGoroutine") = false
 hcode:fn.body=some code
 Mine:Fix mc->Prop
 Sit:Fix mc->Nx->(Nat->Option Obj)->(Value->Goroutine)->Goroutine->Prop
 start:∀ (X:Fix mc),X.Ok->Mine X->X.fid=fid->∀ (c:Cl),c∈X.calls->∀ (cs:List Frame) (bc:Frame) (ac:Act) (ops:Array Oper) (q:Nat) (rest:List Nat) (oc:Oper) (k:List Item),ops[q]? = some oc ->
  ∀ (H:Nx->(Nat->Option Obj)->Goroutine->Prop) (z:Nat->Option Nat) (cont:Addr->Value) (Ch:Nat->Prop) (Stop:Goroutine->World->Prop) (S:TS) (K:List (Nat×Int)) (v w:World) (t:Thr),At X z cont Ch S K v w t ->
  (∀ x Mo g,Good v (λ_=>none) x Mo->Sit X x Mo (λr=>G (bc.at (ac.put oc.dst r) (.inRegion ops rest :: k)) cs) g->H x Mo g) ->
  Ob X H z cont Ch Stop (λr=>G (bc.at (ac.put oc.dst r) (.inRegion ops rest :: k)) cs) S K v (λ_=>none) (nv S) K (mc.start X.i c) ->
  GoesI Tryd.prog (X.h==0) (DT (ScZ z) Ch) Stop (G ((base fid).at { tmps:=(mc.bn X.caps++#[Pt X.tb 0,.agg #[I c.po,I c.ca,I c.cb,I c.cc]]++mc.fr X.caps)++Array.replicate (fn.ntmps - (mc.bn X.caps++#[Pt X.tb 0,.agg #[I c.po,I c.ca,I c.cb,I c.cc]]++mc.fr X.caps).size) undef,defers:=[] } [.code code]) (bc.at ac (.inRegion ops (q :: rest) :: k) :: cs)) w
 turn:∀ (X:Fix mc),X.Ok->Mine X->X.fid=fid->∀ (op:Int) (j:Nat) (q:Q) (Mo:Nat->Option Obj) (cu:Value->Goroutine) (g:Goroutine),Sit X (.turn op j q) Mo cu g ->
  ∀ (H:Nx->(Nat->Option Obj)->Goroutine->Prop) (z:Nat->Option Nat) (cont:Addr->Value) (Ch:Nat->Prop) (Stop:Goroutine->World->Prop) (y:Value) (S:TS) (K:List (Nat×Int)) (v w:World) (t:Thr),At X z cont Ch S K v w t->(∀ x Mo' g,Good v Mo x Mo'->Sit X x Mo' cu g->H x Mo' g)->t.op=op->t.ce=j->(S.n+1)*40<=140737488355328->Has Mo v->(∀ b,Mo b≠none->¬ Own S K b)->(∀ b,Mo b≠none->¬ X.Pr b) ->
  Ob X H z cont Ch Stop cu S K v Mo (didS (nv S) undef X.i t (mc.turn q (cellAt K j).2).1.1 (mc.turn q (cellAt K j).2).1.2) (K.set j ((cellAt K j).1,(mc.turn q (cellAt K j).2).2.1)) (mc.turn q (cellAt K j).2).2.2 ->
  GoesI Tryd.prog (X.h==0) (DT (ScZ z) Ch) Stop (Go.Conc.served g y) w
 wake:∀ (X:Fix mc),X.Ok->Mine X->X.fid=fid->∀ (j:Nat) (q:Q) (Mo:Nat->Option Obj) (cu:Value->Goroutine) (g:Goroutine),Sit X (.wait j q) Mo cu g ->
  ∀ (H:Nx->(Nat->Option Obj)->Goroutine->Prop) (z:Nat->Option Nat) (cont:Addr->Value) (Ch:Nat->Prop) (Stop:Goroutine->World->Prop) (y:Value) (S:TS) (K:List (Nat×Int)) (v w:World) (t:Thr),At X z cont Ch S K v w t->(∀ x Mo' g,Good v Mo x Mo'->Sit X x Mo' cu g->H x Mo' g)->(S.n+1)*40<=140737488355328->Has Mo v->(∀ b,Mo b≠none->¬ Own S K b)->(∀ b,Mo b≠none->¬ X.Pr b) ->
  (S.stk=true->Ob X H z cont Ch Stop cu S K v Mo (nv S) K (.ans (mc.stuck q).1 (mc.stuck q).2)) ->
  (S.stk=false->Ob X H z cont Ch Stop cu S K v Mo (noted (nv S) undef X.i 6 j 0 0) K (mc.woke q)) ->
  GoesI Tryd.prog (X.h==0) (DT (ScZ z) Ch) Stop (Go.Conc.served g y) w
def FlowGoes (X:Fix mc) (Hm:Ph->(Nat->Prop)->(Nat->Option Obj)->Goroutine->Prop) (cs:List Frame) (z:Nat->Option Nat) (cont:Addr->Value) (Ch:Nat->Prop) (Stop:Goroutine->World->Prop) (rest:List Cl) (ii:Nat):Prop :=
 ∀ (sk:Bool) (ans:List (Int×Int)) (E:Nat->Prop) (S:TS) (K:List (Nat×Int)) (v w:World) (t:Thr) (u:Nat->Value),Rel z v w->NoRow Ch v->Mem z S K v->S.thr[X.i]? = some t->t.tb=X.tb->t.gc=X.gc->K.map (·.1)=X.kb->PM X ans v->(∀ b,X.Pr b->¬ Own S K b) ->
   (flow X.i mc rest ii sk ans (nv S)).1.n*40<=140737488355328 ->
   (∀ g' w' E' M',Gives X Hm z cont Ch S K v E (flow X.i mc rest ii sk ans (nv S)).1 K (flow X.i mc rest ii sk ans (nv S)).2 E' M' g' w'->Stop g' w') ->
   GoesI Tryd.prog (X.h==0) (DT (ScZ z) Ch) Stop (G (cFr X.tb X.csl X.F X.asl X.calls.length ii sk u) cs) w
def phOf (rest:List Cl) (ii:Nat) (ans:List (Int×Int)):Nx->Ph
 |.ans _ _=>.done ans
 |.turn op j q=>.turn op j q rest ii ans
 |.wait j q=>.wait j q rest ii ans
theorem ob_of {X:Fix mc}(ok:X.Ok) {Hm:Ph->(Nat->Prop)->(Nat->Option Obj)->Goroutine->Prop}{cs:List Frame}{Ch:Nat->Prop}{Stop:Goroutine->World->Prop}{rest:List Cl}{ans:List (Int×Int)}{cu:Value->Goroutine}(hfl:FlowGoes X Hm cs z cont Ch Stop rest (ii+1)) (hans:Answers X cs ii ans cu)
 {S0:TS} {K0:List (Nat×Int)} {v0:World} {Mo0:Nat->Option Obj} {E:Nat->Prop} (hE:∀ b,Mo0 b≠none->E b) (hp:PM X ans v0) (hfar:∀ b,X.Pr b->¬ Own S0 K0 b) (hMp:∀ b,Mo0 b≠none->¬ X.Pr b) (hkb:K0.map (·.1)=X.kb)
 {σ:TS} {κ:List (Nat×Int)} {x:Nx} {t:Thr} (ht:σ.thr[X.i]? = some t) (htb:t.tb=X.tb) (hgc:t.gc=X.gc) (hbk:σ.bk=S0.bk)
 (hl:(on X.i mc rest ii ans σ κ x).1.n*40<=140737488355328)
 (hstop:∀ g' w' E' M',Gives X Hm z cont Ch S0 K0 v0 E (on X.i mc rest ii ans σ κ x).1 (on X.i mc rest ii ans σ κ x).2.1 (on X.i mc rest ii ans σ κ x).2.2 E' M' g' w'->Stop g' w'):
 Ob X (λx Mo=>Hm (phOf rest ii ans x) (λb=>Mo b≠none) (mindO X v0 Mo)) z cont Ch Stop cu S0 K0 v0 Mo0 σ κ x:=by
 have stay:∀ {S:TS} {κ:List (Nat×Int)} {v:World},EvoP (λb=>Mo0 b≠none) z S0 K0 v0 S κ v->∀ b,X.Pr b->v.heap[b]? = v0.heap[b]?∧¬ Own S κ b:=λhe b hb=>he.keeps (hp.lt ok hb) (hfar b hb) (λh=>hMp b h hb);refine ⟨λa ha v w S hvw hn hS he=>?_,λs op j hx g w Mo ⟨_,hnew,hrow⟩ hat=>?_⟩
 .have eon:on X.i mc rest ii ans σ κ x=back X.i mc rest ii ans a σ κ:=by
   rcases ha with rfl|⟨j,q,rfl,hs,rfl⟩
   rfl;rw[on_wait,if_pos hs]
  rw[eon] at hl hstop;subst hS;have hp1:PM X ans v:=hp.stay (λb hb=>(stay he b hb).1);have hl1:(S.n+1)*40<=140737488355328:=Qk (Nat.mul_le_mul_right 40 (flow_sta X.i mc rest (ii+1) (a.1==4) (ans.set ii a) (noted (nv S) undef X.i 10 (-1) ii a.1)).n) hl;refine hans z Ch Stop w v S κ t a.1 a.2 hvw hn he.mem ht htb hl1 hp1 (λb hb=>(stay he b hb).2) (λv2 w2 tv u' hvw2 hn2 he2 hp2=>?_);have ej:EvoP (λb=>b=X.ab∨E b) z S0 K0 v0 (noted S tv X.i 10 (-1) ii a.1) κ v2:=(he.wider (Pr':=λb=>b=X.ab∨E b) (λb _ hb=>.inr (hE b hb))).join he2 (λb hb=>.inl (.inl hb));refine hfl (a.1==4) (ans.set ii a) E (noted S tv X.i 10 (-1) ii a.1) κ v2 w2 t u' hvw2 hn2 he2.mem ht htb hgc (he.blks.trans hkb) hp2 (λb hb ho=>?_) hl (λg' w' E' M' hg=>hstop g' w' E' M' (hg.join ej hbk (λb h=>.inl h)));rcases he2.new b ho with h1|h1;exact (stay he b hb).2 h1;have:=hp1.lt ok hb;omega
 .have eon:on X.i mc rest ii ans σ κ x=(waiting σ X.i (thrI σ X.i) s op j,κ,phOf rest ii ans x):=by
   rcases hx with ⟨⟨q,rfl⟩,rfl⟩|⟨⟨q,rfl⟩,hs,rfl,rfl⟩
   rfl;rw[on_wait,if_neg (by rw[hs];simp)];rfl
  rw[eon] at hstop;have h1:∀ b,Mo b≠none->¬ X.Pr b:=λb hb hpr=>(hnew b hb).elim (λh=>hMp b h hpr) (λh=>by have:=hp.lt ok hpr;omega);have ea:(phOf rest ii ans x).ans=ans:=by rcases hx with ⟨⟨q,rfl⟩,_⟩|⟨⟨q,rfl⟩,_⟩<;>rfl
  have es:seatOf X Hm (phOf rest ii ans x) (λb=>Mo b≠none) (mindO X v0 Mo)=some (seatT X.gc (Hm (phOf rest ii ans x) (λb=>Mo b≠none) (mindO X v0 Mo))):=by rcases hx with ⟨⟨q,rfl⟩,_⟩|⟨⟨q,rfl⟩,_⟩<;>rfl
  refine hstop g w (λb=>Mo b≠none) (mindO X v0 Mo) ⟨by rw[ea];exact sees_mindO hp ok h1 hrow,λb hb=>(hnew b hb).imp (hE b) id,?_⟩;rw[es];refine atGive_mono (λhF=>?_) hat
  obtain ⟨v',S',q1,q2,q3,q4,q5,q6⟩:=hF;refine ⟨v',S',q1,q2,q3,q4.wider (λb _ hb=>.inr (hE b hb)),λb o hb=>?_,λb hb=>?_⟩
  .unfold mindO at hb
   split at hb;exact q5 b o hb
   .unfold mind at hb
    split at hb
    .rename_i hc
     rw[(stay q4 b hc).1];exact hb
    cases hb
  .unfold mindO at hb
   split at hb
   .rename_i hc;exact q6 b hc
   .unfold mind at hb
    split at hb
    .rename_i hc;exact (stay q4 b hc).2
    exact absurd rfl hb
variable {mc:Mc}{fid:FuncId}
theorem dst5:ops347[5]? = some (ops347.getD 5 default):=by kernel_rfl
theorem dst5':(ops347.getD 5 default).dst=some 31:=by kernel_rfl
theorem on_K (i:Nat) (m:Mc) (rest:List Cl) (ii:Nat) (ans:List (Int×Int)) (S:TS) (K:List (Nat×Int)) (x:Nx):(on i m rest ii ans S K x).2.1=K:=by
 cases x with
 |ans e x=>rfl
 |turn op j q=>rfl
 |wait j q=>rw[on_wait];split<;>rfl
theorem answers_of {X:Fix mc}(ok:X.Ok) {cs:List Frame}{ans:List (Int×Int)}{N:Nat}{V:Value}{u:Nat->Value}(hi:ii<X.calls.length):
 Answers X cs ii ans (λr=>G ((base 94).at ((cAct X.tb X.csl X.F X.asl X.rb X.ro X.calls.length ii N V u).put (some 31) r) [.inRegion ops347 [6,7],.code R89,.inBlock 1,.code R10,.inLoop L34,.inBlock 0]) cs):=by
 intro z Ch Stop w v S K t e x hvw hn hm ht htb hl hp hfar hk;have h0:0<X.calls.length:=by omega
 obtain ⟨y0,y1,c1,c2,c3,c4⟩:=hp.cells hi;have hab:X.Pr X.ab:=.inr (.inr (.inl rfl));show GoesI Tryd.prog (X.h==0) (DT (ScZ z) Ch) Stop (G ((base 94).at ((cAct X.tb X.csl X.F X.asl X.rb X.ro X.calls.length ii N V u).put (some 31) (.agg #[I e,I x])) _) cs) w;rw[<-htb,ok.asl h0];refine carry_back (S:=S) (K:=K) (v:=v) (i:=X.i) (t:=t) X.csl X.F X.rb X.ro X.ab X.calls.length X.cap2 ii N V e x y0 y1 u cs hi ok.n c1 c2 c3 c4 (hfar X.ab hab) hvw hn hm ht hl (λv2 w2 tv u' hvw2 hn2 he2 hab2=>?_);have:=hk v2 w2 tv u' hvw2 hn2 he2 (hp.set hi e x hab2 (λb hb hne=>(he2.keeps (hp.lt ok hb) (hfar b hb) hne).1) (ok.ne h0));rw[<-htb,ok.asl h0] at this;exact this
structure Mid (X:Fix mc) (rest:List Cl) (ii:Nat) (ans:List (Int×Int)) (E:Nat->Prop) (M:Nat->Option Obj) (cs:List Frame) (cu:Value->Goroutine) (Mo:Nat->Option Obj):Prop where
 sees:Sees X E M ans
 drop:X.calls.drop (ii+1)=rest
 lt:ii<X.calls.length
 ends:CarryEnds X cs
 answers:Answers X cs ii ans cu
 e:E=λb=>Mo b≠none
 m:∀ b o,Mo b=some o->M b=some o
def HomeBack (P:Pkg mc fid) (X:Fix mc):Ph->(Nat->Prop)->(Nat->Option Obj)->Goroutine->Prop
 |.turn op j q rest ii ans,E,M,g=>∃ cs cu Mo,Mid X rest ii ans E M cs cu Mo∧P.Sit X (.turn op j q) Mo cu g
 |.wait j q rest ii ans,E,M,g=>∃ cs cu Mo,Mid X rest ii ans E M cs cu Mo∧P.Sit X (.wait j q) Mo cu g
 |_,_,_,_=>False
theorem home_of {P:Pkg mc fid}{X:Fix mc}(ok:X.Ok) {Hm:Ph->(Nat->Prop)->(Nat->Option Obj)->Goroutine->Prop}(hHm:∀ l E M g,HomeBack P X l E M g->Hm l E M g) {rest:List Cl}{ans:List (Int×Int)}{cs:List Frame}{cu:Value->Goroutine}(hdrop:X.calls.drop (ii+1)=rest) (hlt:ii<X.calls.length) (hends:CarryEnds X cs) (hans:Answers X cs ii ans cu)
 {v0:World} (hp:PM X ans v0) {Mo0:Nat->Option Obj} (hMp:∀ b,Mo0 b≠none->¬ X.Pr b) (x:Nx) (Mo:Nat->Option Obj) (g:Goroutine) (hg:Good v0 Mo0 x Mo) (hs:P.Sit X x Mo cu g):Hm (phOf rest ii ans x) (λb=>Mo b≠none) (mindO X v0 Mo) g:=by
 have h1:∀ b,Mo b≠none->¬ X.Pr b:=λb hb hpr=>(hg.new b hb).elim (λh=>hMp b h hpr) (λh=>by have:=hp.lt ok hpr;omega);have hmid:Mid X rest ii ans (λb=>Mo b≠none) (mindO X v0 Mo) cs cu Mo:=⟨sees_mindO hp ok h1 hg.row,hdrop,hlt,hends,hans,rfl,λb o hb=>by unfold mindO;rw[if_pos (by rw[hb];simp)];exact hb⟩
 apply hHm
 match x,hg.seat,hs with
 |.ans e y,h,_=>exact absurd rfl (h e y)
 |.turn op j q,_,hs=>exact ⟨cs,cu,Mo,hmid,hs⟩
 |.wait j q,_,hs=>exact ⟨cs,cu,Mo,hmid,hs⟩
theorem flow_goes (P:Pkg mc fid) {X:Fix mc}(ok:X.Ok) (hmine:P.Mine X) (hfid:X.fid=fid) (Hm:Ph->(Nat->Prop)->(Nat->Option Obj)->Goroutine->Prop) (hHm:∀ l E M g,HomeBack P X l E M g->Hm l E M g) {cs:List Frame}(hce:CarryEnds X cs) {Ch:Nat->Prop}{Stop:Goroutine->World->Prop}(hz:z X.tb=some 2) (hcont:cont ⟨X.tb,2,none⟩=.chan (some X.gc)):
 ∀ (rest:List Cl) (ii:Nat),X.calls.drop ii=rest->ii<=X.calls.length->FlowGoes X Hm cs z cont Ch Stop rest ii:=by
 intro rest;induction rest with
 |nil =>
  intro ii hd hi sk ans E S K v w t u hvw hn hm ht htb hgc hK hp hfar hl hstop;obtain rfl:ii=X.calls.length:=by have:=List.drop_eq_nil_iff.1 hd;omega
  refine hce z Ch Stop cont w v S K t sk u hvw hn hm ht htb hp.box (hfar X.bb (.inl rfl)) (λg w' hg=>hstop g w' (λ_=>False) (mind X v) ⟨by cases sk<;>exact sees_mind hp ok,λ_ h=>h.elim,?_⟩);have efl:flow X.i mc [] X.calls.length sk ans (nv S)=(ended (nv S) X.i (thrI (nv S) X.i),.done ans):=by cases sk<;>rfl
  rw[efl];refine atGive_mono (λhF=>?_) hg;obtain ⟨v',k1,k2,k3⟩:=hF;have kp:∀ b,X.Pr b->v'.heap[b]? = v.heap[b]?∧¬ Own (ended S X.i t) K b:=λb hb=>(Evo.toP (Pr:=λ_=>False) k3).keeps (hp.lt ok hb) (hfar b hb) (λh=>h);refine ⟨v',_,k1,k2,?_,k3.toP,λb o hb=>?_,λb hb=>?_⟩
  .show nv (ended S X.i t)=ended (nv S) X.i (thrI (nv S) X.i)
   rw[show thrI (nv S) X.i=t from thrI_of ht];rfl
  .unfold mind at hb
   split at hb
   .rename_i hc;rw[(kp b hc).1];exact hb
   cases hb
  .unfold mind at hb
   split at hb
   .rename_i hc;exact (kp b hc).2
   exact absurd rfl hb
 |cons c rest ih =>
  intro ii hd hi sk ans E S K v w t u hvw hn hm ht htb hgc hK hp hfar hl hstop;have hlt:ii<X.calls.length:=by rcases Nat.lt_or_ge ii X.calls.length with h|h;exact h;rw[List.drop_eq_nil_iff.2 h] at hd;cases hd
  have h0:0<X.calls.length:=by omega
  have hc:X.calls[ii]? = some c:=by have:=congrArg (·[0]?) hd;simpa using this
  have hd':X.calls.drop (ii+1)=rest:=by have:=congrArg List.tail hd;simpa using this
  have ecs:X.csl=.slice (some ⟨X.rb,X.ro,none⟩) X.calls.length X.cap:=by unfold Fix.csl;exact congrArg (λp=>Value.slice p X.calls.length X.cap) (ok.pc h0)
  obtain ⟨p0,p1,p2,p3⟩:=hp.call ii c hc;obtain ⟨y0,y1,c1,c2,c3,c4⟩:=hp.cells hlt;cases sk with
  |true =>have hab:X.Pr X.ab:=.inr (.inr (.inl rfl));rw[ecs,ok.asl h0];refine carry_skip (S:=S) (K:=K) (v:=v) X.F X.rb X.ro X.ab X.calls.length X.cap X.cap2 ii c.po c.ca c.cb c.cc y0 y1 u cs hlt ok.n p0 p1 p2 p3 c1 c2 c3 c4 (hfar X.ab hab) hvw hn hm (λv1 w1 u1 hvw1 hn1 he1 hab1=>?_);have hp1:PM X (ans.set ii (4,0)) v1:=hp.set hlt 4 0 hab1 (λb hb hne=>(he1.keeps (hp.lt ok hb) (hfar b hb) hne).1) (ok.ne h0);have:=ih (ii+1) hd' (by omega) true (ans.set ii (4,0)) E S K v1 w1 t u1 hvw1 hn1 he1.mem ht htb hgc hK hp1 hfar hl (λg' w' E' M' hg=>hstop g' w' E' M' (hg.join (he1.wider (λb _ e=>.inl e)) rfl (λb e=>.inl e)));rw[ecs,ok.asl h0] at this;exact this
  |false =>
   rw[flow_cons X.i mc c rest ii ans (nv S) K] at hl hstop;have hn1:(S.n+1)*40<=140737488355328:=by refine Qk (Nat.mul_le_mul_right 40 ?_) hl;exact (on_sta (i:=X.i) (m:=mc) rest ii ans K (noted (nv S) undef X.i 9 (-1) ii 0) (mc.start X.i c)).n
   rw[ecs,<-htb];refine carry_step (S:=S) (K:=K) (v:=v) (i:=X.i) (t:=t) X.asl X.fid P.fn (mc.bn X.caps) (mc.fr X.caps) (by rw[hfid];exact P.hf) P.hname P.code P.hcode X.rb X.ro X.calls.length X.cap ii c.po c.ca c.cb c.cc u cs hlt p0 p1 p2 p3 hvw hn hm ht hn1 (λv1 w1 tv hvw1 hn1 he1 hbx1=>?_);have st1:∀ b,X.Pr b->v1.heap[b]? = v.heap[b]?∧¬ Own (noted S tv X.i 9 (-1) ii 0) K b:=λb hb=>(Evo.toP (Pr:=λ_=>False) he1).keeps (hp.lt ok hb) (hfar b hb) (λh=>h);have hp1:PM X ans v1:=hp.stay (λb hb=>(st1 b hb).1);have hans:=answers_of (cs:=cs) (ans:=ans) (N:=v.heap.size) (V:=.agg #[I c.po,I c.ca,I c.cb,I c.cc]) (u:=u) ok hlt;rw[ecs] at hans;rw[htb];have hat:At X z cont Ch (noted S tv X.i 9 (-1) ii 0) K v1 w1 t:=⟨hvw1,hn1,he1.mem,ht,htb,hgc,hK,hz,hcont,hp1.pk,λb hb=>(st1 b (.inr (.inr (.inr hb)))).2⟩
   have:=P.start X ok hmine hfid c (List.mem_of_getElem? hc) cs (base 94) (cAct X.tb (.slice (some ⟨X.rb,X.ro,none⟩) X.calls.length X.cap) X.F X.asl X.rb X.ro X.calls.length ii v.heap.size (.agg #[I c.po,I c.ca,I c.cb,I c.cc]) u) ops347 5 [6,7] _ [.code R89,.inBlock 1,.code R10,.inLoop L34,.inBlock 0] dst5
    (λx Mo=>Hm (phOf rest ii ans x) (λb=>Mo b≠none) (mindO X v1 Mo)) z cont Ch Stop (noted S tv X.i 9 (-1) ii 0) K v1 w1 t hat
    (λx Mo g hg hs=>home_of (P:=P) ok hHm hd' hlt hce (by rw[dst5'];exact hans) hp1 (λ_ h=>absurd rfl h) x Mo g hg hs)
    (ob_of ok (ih (ii+1) hd' (by omega)) (by rw[dst5'];exact hans) (E:=E) (λ_ h=>absurd rfl h) hp1 (λb hb=>(st1 b hb).2) (λ_ h=>absurd rfl h) hK (t:=t) ht htb hgc rfl hl (λg' w' E' M' hg=>hstop g' w' E' M' (Gives.join (Evo.toP he1) rfl (λb h=>.inl h) (by rw[on_K] at hg;exact hg))))
   subst hfid;exact this
variable {mc:Mc}{fid:FuncId}
theorem home_all (P:Pkg mc fid) {X:Fix mc}(ok:X.Ok) (hmine:P.Mine X) (hfid:X.fid=fid):∀ (n:Nat) (l:Ph) (E:Nat->Prop) (M:Nat->Option Obj) (g:Goroutine),HomeBack P X l E M g->Home X n l E M g:=by
 intro n;induction n with
 |zero=>intros;trivial
 |succ n ih =>
  intro l E M g hb z Ch Stop cont y w v S K t hvw hn hm ht htb hgc hfit hK hz hcont hM hfar hl hstop;have main:∀ (rest:List Cl) (ii:Nat) (ans:List (Int×Int)) (cs:List Frame) (cu:Value->Goroutine) (Mo:Nat->Option Obj),Mid X rest ii ans E M cs cu Mo ->
   PM X ans v∧(∀ b,X.Pr b->¬ Own S K b)∧Has Mo v∧(∀ b,Mo b≠none->¬ Own S K b)∧(∀ b,Mo b≠none->¬ X.Pr b)∧At X z cont Ch S K v w t:=λrest ii ans cs cu Mo hmid=>by
   have hp:PM X ans v:=hmid.sees.pm v hM;have hf:∀ b,X.Pr b->¬ Own S K b:=λb hb=>hfar b (hmid.sees.pr b hb);have hMo:Has Mo v:=λb o hb=>hM b o (hmid.m b o hb);refine ⟨hp,hf,hMo,λb hb=>?_,λb hb=>hmid.sees.apart b (by rw[hmid.e];exact hb),⟨hvw,hn,hm,ht,htb,hgc,hK,hz,hcont,hp.pk,λb hb=>hf b (.inr (.inr (.inr hb)))⟩⟩;obtain ⟨o,ho⟩:=Option.ne_none_iff_exists'.1 hb;exact hfar b (by rw[hmid.m b o ho];simp)
  have eth:thrI (nv S) X.i=t:=thrI_of ht
  match l,hb,hfit,hl,hstop with
  |.turn op j q rest ii ans,hb,hfit,hl,hstop =>
   obtain ⟨cs,cu,Mo,hmid,hsit⟩:=hb;obtain ⟨hp,hf,hMo,hMf,hMp,hat⟩:=main rest ii ans cs cu Mo hmid;rw[resume_turn,eth] at hl hstop;have hl1:(S.n+1)*40<=140737488355328:=by refine Qk (Nat.mul_le_mul_right 40 ?_) hl;refine Qk ?_ (on_sta (i:=X.i) (m:=mc) rest ii ans _ _ _).n;unfold didS;split<;>exact Qi _
   refine P.turn X ok hmine hfid op j q Mo cu g hsit _ z cont Ch Stop y S K v w t hat (λx Mo' g hg hs=>home_of (P:=P) ok ih hmid.drop hmid.lt hmid.ends hmid.answers hp hMp x Mo' g hg hs) hfit.1 hfit.2 hl1 hMo hMf hMp ?_;exact ob_of ok (flow_goes P ok hmine hfid (Home X n) ih hmid.ends hz hcont rest (ii+1) hmid.drop hmid.lt) hmid.answers (E:=E) (λb hb=>by rw[hmid.e];exact hb) hp hf hMp hK (t:=t) (by unfold didS;split<;>exact ht) htb hgc (by unfold didS;split<;>rfl) hl hstop
  |.wait j q rest ii ans,hb,hfit,hl,hstop =>
   obtain ⟨cs,cu,Mo,hmid,hsit⟩:=hb;obtain ⟨hp,hf,hMo,hMf,hMp,hat⟩:=main rest ii ans cs cu Mo hmid;rw[resume_wait] at hl hstop;have hl1:(S.n+1)*40<=140737488355328:=by refine Qk (Nat.mul_le_mul_right 40 ?_) hl;split;exact (flow_sta X.i mc rest (ii+1) _ _ (noted (nv S) undef X.i 10 (-1) ii _)).n;exact (on_sta (i:=X.i) (m:=mc) rest ii ans K (noted (nv S) undef X.i 6 j 0 0) (mc.woke q)).n
   refine P.wake X ok hmine hfid j q Mo cu g hsit _ z cont Ch Stop y S K v w t hat (λx Mo' g hg hs=>home_of (P:=P) ok ih hmid.drop hmid.lt hmid.ends hmid.answers hp hMp x Mo' g hg hs) hl1 hMo hMf hMp (λhs=>?_) (λhs=>?_)
   .rw[if_pos (show (nv S).stk=true from hs)] at hl hstop
    exact ob_of ok (flow_goes P ok hmine hfid (Home X n) ih hmid.ends hz hcont rest (ii+1) hmid.drop hmid.lt) hmid.answers (E:=E) (λb hb=>by rw[hmid.e];exact hb) hp hf hMp hK (x:=.ans (mc.stuck q).1 (mc.stuck q).2) (t:=t) ht htb hgc rfl hl hstop
   .rw[if_neg (show ¬ (nv S).stk=true from by show ¬ S.stk=true;rw[hs];simp)] at hl hstop
    exact ob_of ok (flow_goes P ok hmine hfid (Home X n) ih hmid.ends hz hcont rest (ii+1) hmid.drop hmid.lt) hmid.answers (E:=E) (λb hb=>by rw[hmid.e];exact hb) hp hf hMp hK (t:=t) ht htb hgc rfl hl hstop
  |.done _,hb,_,_,_=>exact hb.elim
theorem ends_of {X:Fix mc}(ok:X.Ok) {F33:Value}{bd:Frame}{ad:Act}{od:Array Oper}{qd:Nat}{rd:List Nat}{oe:Oper}{kd:List Item}(hoe:od[qd]? = some oe)
 (hf:∀ (z:Nat->Option Nat) (Ch:Nat->Prop) (Stop:Goroutine->World->Prop) (w:World),GoesI Tryd.prog (X.h==0) (DT (ScZ z) Ch) Stop (G ((baseD 124).at ((lifeAct X.tb X.bb F33).put (ops492.getD 2 default).dst (.tuple #[])) [.inRegion ops492 []]) [botP Tryd.prog]) w ->
   GoesI Tryd.prog (X.h==0) (DT (ScZ z) Ch) Stop (G (bd.at (ad.put oe.dst (.tuple #[])) (.inRegion od rd :: kd)) [lifeFr X.tb X.bb F33,botP Tryd.prog]) w):
 CarryEnds X [bd.at ad (.inRegion od (qd :: rd) :: kd),lifeFr X.tb X.bb F33,botP Tryd.prog]:=by
 intro z Ch Stop cont w v S K t sk u hvw hn hm ht htb hbox hbo hstop;refine carry_end X.csl X.F X.asl X.calls.length sk u _ hoe (hf z Ch Stop w ?_);rw[<-htb];exact life_tail X.bb F33 ok.h hvw hn hm ht (by rw[htb];exact hbox) hbo hstop
theorem birth_goes {P:Pkg mc fid}{X:Fix mc}(ok:X.Ok) (hmine:P.Mine X) (hfid:X.fid=fid) (n:Nat) {Ch:Nat->Prop}{Stop:Goroutine->World->Prop}(hz:z X.tb=some 2) (hcont:cont ⟨X.tb,2,none⟩=.chan (some X.gc)) {S:TS}{K:List (Nat×Int)}{v w:World}{t:Thr}{ans:List (Int×Int)}(p1 p2 p3 p4 rr m cap' ix:Nat) (hix:ix<m)
 (hvw:Rel z v w) (hn:NoRow Ch v) (hm:Mem z S K v) (ht:S.thr[X.i]? = some t) (htb:t.tb=X.tb) (hgc:t.gc=X.gc) (hK:K.map (·.1)=X.kb) (hbb:X.bb=v.heap.size)
 (h1:v.cell? ⟨p1,0,none⟩=some X.csl) (h2:v.cell? ⟨p2,0,none⟩=some X.F) (h3:v.cell? ⟨p3,0,none⟩=some (.slice (some ⟨rr,0,none⟩) m cap')) (h4:v.cell? ⟨p4,0,none⟩=some (I ix)) (h5:v.cell? ⟨rr,ix,none⟩=some X.asl)
 (hp:∀ v1,Grows v v1->v1.cell? ⟨X.bb,0,none⟩=some (Pt X.tb 0)->PM X ans v1) (hfar:∀ b,X.Pr b->¬ Own S K b)
 (hl:(flow X.i mc X.calls 0 false ans (nv S)).1.n*40<=140737488355328)
 (hstop:∀ g' w' E' M',Gives X (Home X n) z cont Ch S K v (λ_=>False) (flow X.i mc X.calls 0 false ans (nv S)).1 K (flow X.i mc X.calls 0 false ans (nv S)).2 E' M' g' w'->Stop g' w') (code:Code) (hc:Tryd.f124.body=some code):
 GoesI Tryd.prog (X.h==0) (DT (ScZ z) Ch) Stop (G ((baseD 124).at { tmps:=#[Pt X.tb 0,.func (.func 93) #[] #[Pt p1 0,Pt p2 0,Pt p3 0,Pt p4 0]]++Array.replicate 6 undef,defers:=[] } [.code code]) [botP Tryd.prog]) w:=by
 refine run_goes X.tb 93 Tryd.f93 #[Pt p1 0,Pt p2 0,Pt p3 0,Pt p4 0] Tryd.func93 (by kernel_rfl) _ rfl hvw hn (λv1 w1 hvw1 hn1 hg1 hbx hs1=>?_) code hc;have hbox:v1.cell? ⟨X.bb,0,none⟩=some (Pt X.tb 0):=by rw[hbb];simp[World.cell?,hbx]
 refine body33_goes (tb:=X.tb) X.csl X.F X.asl rr m cap' ix hix (hg1.cell h1) (hg1.cell h2) (hg1.cell h3) (hg1.cell h4) (hg1.cell h5) [botP Tryd.prog] dst492 hvw1 hn1 (λw2 bd ad od qd rd oe kd hvw2 hoe hfact code hcode=>?_) _ rfl;rw[<-hbb] at hfact;have hce:=ends_of ok hoe hfact;refine carry_in X.F X.asl X.pc X.calls.length X.cap _ (λu=>?_) code hcode;have:=flow_goes P ok hmine hfid (Home X n) (home_all P ok hmine hfid n) hce hz hcont X.calls 0 (by simp) (Nat.zero_le _) false ans (λ_=>False) S K v1 w2 t u hvw2 hn1 (hm.grows hg1).mem ht htb hgc hK (hp v1 hg1 hbox) hfar hl (λg' w' E' M' hg=>hstop g' w' E' M' (hg.join (Evo.toP (hm.grows hg1)) rfl (λb h=>.inl h)));rw[hbb] at this;exact this
end Go.Proofs.YtfjjoohflcchnaaDoor.Gen
