/- Of the proof of OnceLinear. Part 17 of 27. (Joined, by program, and written short, of: OnPk, OnPkg, OnN, OnY, OnY2.) -/
import Derived.Test.YtaofjdoielmobaaDoorOnceLinear07
import Derived.Test.YtaofjdoielmobaaDoorOnceLinear10
import Derived.Test.YtaofjdoielmobaaDoorOnceLinear16
import Derived.Deep.RegionHeld3
set_option linter.unusedSimpArgs false
set_option linter.unusedVariables false
set_option maxHeartbeats 4000000
set_option maxRecDepth 100000
namespace Go.Proofs.YtaofjdoielmobaaDoor.Gen
open Go Go.Lift Go.Conc Go.RowKit
section
variable {m:Nat}{X:Fix (mcO m)}{z:Nat->Option Nat}{cont:Addr->Value}{Ch:Nat->Prop}{Stop:Goroutine->World->Prop}{cu:Value->Goroutine}{S0:TS}{K0:List (Nat×Int)}{v0:World}{Mo0 M:Nat->Option Obj}{σ:TS}{κ:List (Nat×Int)}{S:TS}{v w:World}{t:Thr}{H:Nx->(Nat->Option Obj)->Goroutine->Prop}
variable {o ob kp cw cv:Nat}{k b:Int}{d:Nat}{f:Frs}{rb b3 b4 b5:Nat}{a:Act}
theorem look_goes (hD:ODat X o ob kp cw cv) (hk:0≤k∧k≤3) (hf:f.Ok) (hC:OCtx (X.h==0) X.tb kp ob k b d M f.ret cu) (hB:Box3 ob X.tb k b b3 b4 b5 M) (hr:M rb=none) (hA:GF kp X.tb b3 b4 b5 rb a) (hH:∀ x Mo' g,Good v0 Mo0 x Mo'->oSit X x Mo' cu g->H x Mo' g)
 (hob:Ob X H z cont Ch Stop cu S0 K0 v0 Mo0 σ κ (.turn 1 (2*o) (1,lO o k b d X.i))) (N:NowP X z cont Ch S0 K0 v0 Mo0 (uni (oneM rb Bn) M) σ κ S v w t) :
 GoesI Tryd.prog (X.h==0) (DT (ScZ z) Ch) Stop (G (gFr a) f.stack) w:=by
 have htb:=N.now.at_.tb
 have hgc:=N.now.at_.gc
 rw[←htb] at hA
 refine get_look (h:=X.h) (i:=X.i) (j:=2*o) (cb:=cw) (kp:=kp) (rb:=rb) (cont:=cont) (cellAt κ (2*o)).2 (hD.mem v N.now.at_.pk).2.2.1 hA _ (H (.turn 1 (2*o) (1,lO o k b d X.i)) (uni (oneM rb Bn) M)) (fun g hg=>?_) N.now.at_.rel N.now.at_.noRow N.now.at_.mem N.now.at_.thr (N.now.cell hD.kw).1 (by rw[htb];exact N.now.at_.z) (by rw[htb,hgc];exact N.now.at_.cont) (ob_turn hob N.now)
 obtain ⟨a2,hA2,hg⟩:=hg
 rw[htb] at hA2 hg
 exact hH _ _ g (N.now.good (fun _ _ h=>by cases h)) ⟨N.now.row,o,ob,kp,cw,cv,k,b,d,f,rb,b3,b4,b5,a2,M,hD,hk,hf,hC,hB,hr,hA2,.inl ⟨rfl,.inl ⟨rfl,hg⟩⟩⟩
theorem done_goes {e y:Int}(he:0≤e∧e<1048576) (he4:e≠4) (hD:ODat X o ob kp cw cv) (hk:0≤k∧k≤3) (hf:f.Ok) (hC:OCtx (X.h==0) X.tb kp ob k b d M f.ret cu) (hB:Box3 ob X.tb k b b3 b4 b5 M) (hr:M rb=none) (hA:Fl 62 [(0,Pt kp 0),(1,Pt X.tb 0),(2,.func (.func 31) #[] #[Pt b3 0,Pt b4 0,Pt b5 0]),(6,Pt rb 0),(57,Pt kp 0),(58,Pt X.tb 0)] a) (hH:∀ x Mo' g,Good v0 Mo0 x Mo'->oSit X x Mo' cu g->H x Mo' g)
 (hob:Ob X H z cont Ch Stop cu S0 K0 v0 Mo0 σ κ (.turn 2 (2*o+1) (5,lO o k b d X.i++[e,y]))) (N:NowP X z cont Ch S0 K0 v0 Mo0 (uni (oneM rb Bn) M) σ κ S v w t) :
 GoesI Tryd.prog (X.h==0) (DT (ScZ z) Ch) Stop (G (gDone a (.agg #[I e,I y])) f.stack) w:=by
 refine get_came hA f.stack (fun a2 o2 hA2 ho hd code hc=>?_)
 refine keep_in he4 _ N.now.at_.rel N.now.at_.noRow (fun a3 v' w' hA3 r n g hbx hrb=>?_) code hc
 have hbx':∀ b,uni (oneM rb Bn) M b≠none->b<v.heap.size:=fun b hb=>N.lt hb
 have hM:∀ b,M b≠none->b<v.heap.size:=fun b hb=>hbx' b (Df.2 (.inr hb))
 have hrl:rb<v.heap.size:=hbx' rb (Df.2 (.inl (by rw[Ci];simp)))
 have hMn:∀ b,v.heap.size≤b->M b=none:=fun b hb=>by
  cases hx:M b with
  |none=>rfl
  |some o=>have:=hM b (by rw[hx];simp);omega
 have N1:NowP X z cont Ch S0 K0 v0 Mo0 (kMo v.heap.size (v.heap.size+1) rb e y M) σ κ S v' w' t:=N.to g r n (fun b o hb=>by
  unfold kMo at hb
  by_cases h1:b=v.heap.size
  ·subst h1
   rw[Cr (Ci _ _)] at hb
   cases hb
   exact .inr ⟨Nat.le_refl _,hbx,_,_,_,rfl⟩
  by_cases h2:b=v.heap.size+1
  ·subst h2
   rw[Dl (Bz (by omega)) (Cr (Ci _ _))] at hb
   cases hb
   exact .inr ⟨by omega,hrb,_,_,_,rfl⟩
  ·left
   unfold uni at hb
   rw[Bz h1,Bz h2] at hb
   exact hb)
 have htb:=N1.now.at_.tb
 have hgc:=N1.now.at_.gc
 rw[←htb] at hA3
 refine keep_store (h:=X.h) (x:=y) (i:=X.i) (j:=2*o+1) (cb:=cv) (kp:=kp) (cont:=cont) (cellAt κ (2*o+1)).2 (hD.mem v' N1.now.at_.pk).2.2.2 (by simp[World.cell?,hbx]) hA3 _ (H (.turn 2 (2*o+1) (5,lO o k b d X.i++[e,y])) (kMo v.heap.size (v.heap.size+1) rb e y M)) (fun g hg=>?_) N1.now.at_.rel N1.now.at_.noRow N1.now.at_.mem N1.now.at_.thr (N1.now.cell hD.kv).1 (by rw[htb];exact N1.now.at_.z) (by rw[htb,hgc];exact N1.now.at_.cont) (ob_turn hob N1.now)
 obtain ⟨a4,hA4,hg⟩:=hg
 rw[htb] at hA4 hg
 exact hH _ _ g (N1.now.good (fun _ _ h=>by cases h)) ⟨N1.now.row,o,ob,kp,cw,cv,k,b,d,f,rb,b3,b4,b5,a2,M,hD,hk,hf,hC,hB,hr,hA2,.inr ⟨e,y,v.heap.size,v.heap.size+1,a4,rfl,hA4,he,⟨by omega,by omega,hMn _ (Nat.le_refl _),by omega,hMn _ (by omega)⟩,.inl ⟨rfl,hg⟩⟩⟩
theorem ctx_ans {c:Value->Goroutine}(hD:ODat X o ob kp cw cv) (hk:0≤k∧k≤3) (hC:OCtx (X.h==0) X.tb kp ob k b d M c cu) (hH:∀ x Mo' g,Good v0 Mo0 x Mo'->oSit X x Mo' cu g->H x Mo' g) (an:Int×Int)
 (hob:Ob X H z cont Ch Stop cu S0 K0 v0 Mo0 σ κ (nxO o k b d X.i an)) (N:NowP X z cont Ch S0 K0 v0 Mo0 M σ κ S v w t) :
 GoesI Tryd.prog (X.h==0) (DT (ScZ z) Ch) Stop (c (.agg #[I an.1,I an.2])) w:=by
 cases hC with
 |base hK =>
  exact hK z Ch Stop w v S κ an N.now.at_.rel N.now.at_.noRow N.now.at_.mem N.now.mo N.now.far (fun v' w' r' n' e'=>hob.ans an rfl v' w' S r' n' N.now.nv (N.now.evo.join e' (fun b hb=>N.now.new b hb)))
 |@nest d M0 M1 _ _ f a rb b3 b4 b5 hf h0 hA hB hK ha1 ha2 =>
  obtain ⟨k1,k2⟩:=has_uni N.now.mo ha1
  refine hK z Ch Stop w v S κ an N.now.at_.rel N.now.at_.noRow N.now.at_.mem k1 (fun b hb=>N.now.far b (Df.2 (.inl hb))) (fun v' w' r' n' e'=>?_)
  exact done_goes (e:=70) (y:=an.1) (by decide) (by decide) hD hk hf h0 hB ha2 hA hH hob (N.wrote ha1 e' r' n')
theorem NowP.laid {an:Int×Int}(N:NowP X z cont Ch S0 K0 v0 Mo0 (uni (oneM rb Bn) M) σ κ S v w t) (hr:M rb=none) {w':World}(r:Rel z (ansW v rb an.1 an.2) w') (n:Ah Ch (ansW v rb an.1 an.2)):NowP X z cont Ch S0 K0 v0 Mo0 M σ κ S (ansW v rb an.1 an.2) w' t :=
 N.wrote (one_apart hr) ((ans_evo N.now.at_.mem (N.now.far rb (Df.2 (.inl (by rw[Ci];simp)))) an.1 an.2).wider (fun b _ hb=>by rw[show b=rb from hb,Ci];simp)) r n
theorem NowP.zero (N:NowP X z cont Ch S0 K0 v0 Mo0 (uni (oneM rb Bn) M) σ κ S v w t):v.heap[rb]? = some Bn:=N.now.mo rb _ (Cr (Ci _ _))
theorem seen_goes (x:Int) (hD:ODat X o ob kp cw cv) (hk:0≤k∧k≤3) (hf:f.Ok) (hC:OCtx (X.h==0) X.tb kp ob k b d M f.ret cu) (hB:Box3 ob X.tb k b b3 b4 b5 M) (hr:M rb=none) (hA:GF kp X.tb b3 b4 b5 rb a) (hH:∀ x Mo' g,Good v0 Mo0 x Mo'->oSit X x Mo' cu g->H x Mo' g)
 (hob:Ob X H z cont Ch Stop cu S0 K0 v0 Mo0 σ κ ((mcO m).set S.stk (lookO o k b d X.i x))) (N:NowP X z cont Ch S0 K0 v0 Mo0 (uni (oneM rb Bn) M) σ κ S v w t) :
 GoesI Tryd.prog (X.h==0) (DT (ScZ z) Ch) Stop (G (gSeen a (I x)) f.stack) w:=by
 refine get_st (hD.mem v N.now.at_.pk).1 hA _ N.now.at_.rel N.now.at_.noRow (fun a1 v1 w1 hA1 r1 n1 g1=>?_)
 have N1:=N.grows g1 r1 n1
 have htb:=N1.now.at_.tb
 have hgc:=N1.now.at_.gc
 have hz:z t.tb=some 2:=by rw[htb];exact N1.now.at_.z
 have hcont:cont ⟨t.tb,2,none⟩=.chan (some t.gc):=by rw[htb,hgc];exact N1.now.at_.cont
 obtain ⟨m1,m2,m3,m4⟩:=hD.mem v1 N1.now.at_.pk
 have hid:v1.cell? ⟨X.tb,1,none⟩=some (I X.i):=by rw[←htb];exact (N1.now.at_.mem.rep.cell N1.now.at_.thr).2.1
 unfold lookO at hob
 by_cases h2:R1.stI x=2
 ·rw[if_pos h2] at hob
  rw[←htb] at hA1
  refine get_done (h:=X.h) (i:=X.i) (j:=2*o+1) (cb:=cv) (kp:=kp) (rb:=rb) (cont:=cont) (cellAt κ (2*o+1)).2 h2 m1 m4 hA1 _ (H (.turn 1 (2*o+1) (2,lO o k b d X.i++[R1.codI x])) (uni (oneM rb Bn) M)) (fun g hg=>?_) r1 n1 N1.now.at_.mem N1.now.at_.thr (N1.now.cell hD.kv).1 hz hcont (ob_turn hob N1.now)
  obtain ⟨a2,hA2,hg⟩:=hg
  rw[htb] at hA2 hg
  exact hH _ _ g (N1.now.good (fun _ _ h=>by cases h)) ⟨N1.now.row,o,ob,kp,cw,cv,k,b,d,f,rb,b3,b4,b5,a2,M,hD,hk,hf,hC,hB,hr,hA2.sub (by simp),.inl ⟨rfl,.inr (.inl ⟨R1.codI x,rfl,hA2.sub (by simp),hg⟩)⟩⟩
 rw[if_neg h2] at hob
 by_cases h0:R1.stI x=0
 ·rw[if_pos h0] at hob
  rw[←htb] at hA1
  refine get_new (h:=X.h) (i:=X.i) (j:=2*o) (cb:=cw) (kp:=kp) (rb:=rb) (cont:=cont) (cellAt κ (2*o)).2 h0 m1 m3 hA1 _ (H (.turn 4 (2*o) (3,lO o k b d X.i++[x])) (uni (oneM rb Bn) M)) (fun g hg=>?_) r1 n1 N1.now.at_.mem N1.now.at_.thr (N1.now.cell hD.kw).1 hz hcont (ob_turn hob N1.now)
  obtain ⟨a2,hA2,hg⟩:=hg
  rw[htb] at hA2 hg
  exact hH _ _ g (N1.now.good (fun _ _ h=>by cases h)) ⟨N1.now.row,o,ob,kp,cw,cv,k,b,d,f,rb,b3,b4,b5,a2,M,hD,hk,hf,hC,hB,hr,hA2,.inl ⟨rfl,.inr (.inr (.inl ⟨x,rfl,hg⟩))⟩⟩
 rw[if_neg h0] at hob
 by_cases hw:R1.whoI x=(X.i:Int)
 ·rw[if_pos hw,set_nx] at hob
  refine get_again (bc:=f.bd) (ac:=f.ad) (ops:=f.od) (q:=f.qd) (rest:=f.rd) (oc:=f.oe) (k0:=f.kd) h2 h0 hw m1 hid hA1 f.fs hf N1.zero r1 n1 (fun v2 w2 r2 n2 g2 w' r' n'=>?_)
  exact ctx_ans hD hk hC hH (72,0) hob ((N1.grows g2 r2 n2).laid (an:=(72,0)) hr r' n')
 rw[if_neg hw] at hob
 refine get_wait (j:=2*o) (cb:=cw) h2 h0 hw m1 hid m3 (N1.now.at_.mem.cells (N1.now.cell hD.kw).1).1 hA1 _ r1 n1 (fun v2 w2 a2 bd ad od qd rd oe kd hA2 r2 n2 g2 hoe hfr code hcode=>?_)
 have N2:=N1.grows g2 r2 n2
 cases hs:S.stk with
 |true =>
  rw[hs] at hob
  have hob:Ob X H z cont Ch Stop cu S0 K0 v0 Mo0 σ κ ((mcO m).stuck (4,lO o k b d X.i)):=hob
  rw[stuck4] at hob
  have:=await_no (i:=X.i) (main:=X.h==0) (Ch:=Ch) (Stop:=Stop) ((2*o:Nat):Int) f.stack hoe N2.now.at_.rel N2.now.at_.noRow N2.now.at_.mem hs N2.now.at_.thr (fun v3 w3 r3 n3 e3=>by
   rw[hfr]
   have N3:NowP X z cont Ch S0 K0 v0 Mo0 (uni (oneM rb Bn) M) σ κ S v3 w3 t:=⟨N2.now.on e3 r3 n3 N2.now.nv N2.now.at_.thr N2.now.at_.tb N2.now.at_.gc rfl N2.now.at_.kb.2,N2.hp⟩
   exact get_stuck (bc:=f.bd) (ac:=f.ad) (ops:=f.od) (q:=f.qd) (rest:=f.rd) (oc:=f.oe) (k0:=f.kd) hA2 f.fs hf N3.zero r3 n3 (fun w' r' n'=>ctx_ans hD hk hC hH (4,0) hob (N3.laid (an:=(4,0)) hr r' n'))) code hcode
  rw[N2.now.at_.tb] at this
  exact this
 |false =>
  rw[hs,(mcO m).set_false] at hob
  have ee:(fun r=>G (bd.at (ad.put oe.dst r) (.inRegion od rd :: kd)) f.stack)=(fun r=>G (gWoke a2 r) f.stack):=funext fun r=>by rw[hfr]
  have:=await_goes (h:=X.h) (cont:=cont) (i:=X.i) (Stop:=Stop) ((2*o:Nat):Int) f.stack (H (.wait (2*o) (4,lO o k b d X.i)) (uni (oneM rb Bn) M)) hoe (fun g hg=>hH _ _ g (N2.now.good (fun _ _ h=>by cases h)) ⟨N2.now.row,o,ob,kp,cw,cv,k,b,d,f,rb,b3,b4,b5,a2,M,hD,hk,hf,hC,hB,hr,hA2,.inl ⟨rfl,.inr (.inr (.inr ⟨rfl,by rw[←ee,←N2.now.at_.tb];exact hg⟩))⟩⟩) N2.now.at_.rel N2.now.at_.noRow N2.now.at_.mem hs N2.now.at_.thr hz hcont (ob_wait hob N2.now) code hcode
  rw[N2.now.at_.tb] at this
  exact this
def doM (n ob tb:Nat) (k b:Int):Nat->Option Obj:=uni (oneM n (.cells #[Pt ob 0] 46 (0,0))) (uni (oneM (n+1) (.cells #[Pt tb 0] 48 (0,0))) (uni (oneM (n+2) (.cells #[I k,I b] 52 (0,0))) (oneM (n+3) Bn)))
theorem doM_at (n ob tb:Nat) (k b:Int):Box3 ob tb k b n (n+1) (n+2) (doM n ob tb k b)∧doM n ob tb k b (n+3)=some Bn:=by
 refine ⟨⟨Cr (Ci _ _),Dl (Bz (by omega)) (Cr (Ci _ _)),Dl (Bz (by omega)) (Dl (Bz (by omega)) (Cr (Ci _ _)))⟩,Dl (Bz (by omega)) (Dl (Bz (by omega)) (Dl (Bz (by omega)) (Ci _ _)))⟩
theorem doM_ne {n ob tb:Nat}{k b:Int}{c:Nat}(h:doM n ob tb k b c≠none):c=n∨c=n+1∨c=n+2∨c=n+3:=by
 unfold doM at h
 rcases Df.1 h with h|h
 ·exact .inl (Eg h)
 rcases Df.1 h with h|h
 ·exact .inr (.inl (Eg h))
 rcases Df.1 h with h|h
 ·exact .inr (.inr (.inl (Eg h)))
 ·exact .inr (.inr (.inr (Eg h)))
theorem doM_some {n ob tb:Nat}{k b:Int}{c:Nat}{o:Obj}(h:doM n ob tb k b c=some o):n≤c∧c≤n+3∧((c=n∧o=.cells #[Pt ob 0] 46 (0,0))∨(c=n+1∧o=.cells #[Pt tb 0] 48 (0,0))∨(c=n+2∧o=.cells #[I k,I b] 52 (0,0))∨(c=n+3∧o=Bn)):=by
 obtain ⟨⟨h3,h4,h5⟩,h6⟩:=doM_at n ob tb k b
 rcases doM_ne (by rw[h];simp) with rfl|rfl|rfl|rfl
 ·rw[h3] at h;cases h;exact ⟨by omega,by omega,.inl ⟨rfl,rfl⟩⟩
 ·rw[h4] at h;cases h;exact ⟨by omega,by omega,.inr (.inl ⟨rfl,rfl⟩)⟩
 ·rw[h5] at h;cases h;exact ⟨by omega,by omega,.inr (.inr (.inl ⟨rfl,rfl⟩))⟩
 ·rw[h6] at h;cases h;exact ⟨by omega,by omega,.inr (.inr (.inr ⟨rfl,rfl⟩))⟩
theorem enter_do {f0:Frs}(hf0:f0.Ok) (hD:ODat X o ob kp cw cv) (hk:0≤k∧k≤3) (hH:∀ x Mo' g,Good v0 Mo0 x Mo'->oSit X x Mo' cu g->H x Mo' g)
 (hctx:∀ f:Frs,KBack (X.h==0) (doM v.heap.size ob X.tb k b) (fun a=>a) f.ret f0.ret->OCtx (X.h==0) X.tb kp ob k b d (uni (doM v.heap.size ob X.tb k b) M) f.ret cu)
 (hob:Ob X H z cont Ch Stop cu S0 K0 v0 Mo0 σ κ (.turn 1 (2*o) (1,lO o k b d X.i))) (N:NowP X z cont Ch S0 K0 v0 Mo0 M σ κ S v w t) (code:Code) (hc:Tryd.f19.body=some code) :
 GoesI Tryd.prog (X.h==0) (DT (ScZ z) Ch) Stop (G ((base 19).at { tmps:=#[Pt ob 0,Pt X.tb 0,.agg #[I k,I b]]++Array.replicate 11 undef,defers:=[] } [.code code]) f0.stack) w:=by
 refine do_in (hD.mem v N.now.at_.pk).2.1 _ N.now.at_.rel N.now.at_.noRow (fun a1 v1 w1 o1 hA1 r1 n1 g1 e3 e4 e5 e6 ho1 hd1 code1 hc1=>?_) code hc
 have hdm:=doM_at v.heap.size ob X.tb k b
 let f1:Frs:=⟨base 19,a1,dO1,6,[7],o1,[.code .ret],f0.stack⟩
 have hret:f1.ret=fun r=>G (dFr a1 r) f0.stack:=funext fun r=>by
  show G ((base 19).at (a1.put o1.dst r) _) _=_
  rw[hd1]
  rfl
 have hkb:KBack (X.h==0) (doM v.heap.size ob X.tb k b) (fun a=>a) f1.ret f0.ret:=by
  rw[hret]
  refine (kb_of (rb:=v.heap.size+3) (fun z Ch Stop v w e x hz hvw hn hk=>?_)).more (fun c o' hb=>by
   obtain ⟨rfl,rfl⟩:=oneM_eq hb
   exact hdm.2)
  exact do_back (bc:=f0.bd) (ac:=f0.ad) (ops:=f0.od) (q:=f0.qd) (rest:=f0.rd) (oc:=f0.oe) (k0:=f0.kd) hA1 f0.fs hf0 hz hvw hn hk
 have hC:=hctx f1 hkb
 have hl1:v.heap.size+3<v1.heap.size:=(Array.getElem?_eq_some_iff.1 e6).1
 have hMn:∀ c,v.heap.size≤c->M c=none:=fun c hb=>by
  cases hx:M c with
  |none=>rfl
  |some o=>have:=N.lt (b:=c) (by rw[hx];simp);omega
 have N1:NowP X z cont Ch S0 K0 v0 Mo0 (uni (doM v.heap.size ob X.tb k b) M) σ κ S v1 w1 t:=N.to g1 r1 n1 (fun c o' hb=>by
  cases hx:doM v.heap.size ob X.tb k b c with
  |none =>
   unfold uni at hb
   rw[hx] at hb
   exact .inl hb
  |some o2 =>
   rw[Cr hx] at hb
   cases hb
   obtain ⟨q1,q2,q3⟩:=doM_some hx
   rcases q3 with ⟨rfl,rfl⟩|⟨rfl,rfl⟩|⟨rfl,rfl⟩|⟨rfl,rfl⟩
   ·exact .inr ⟨q1,e3,_,_,_,rfl⟩
   ·exact .inr ⟨q1,e4,_,_,_,rfl⟩
   ·exact .inr ⟨q1,e5,_,_,_,rfl⟩
   ·exact .inr ⟨q1,e6,_,_,_,rfl⟩)
 refine get_in _ r1 n1 (fun a2 v2 w2 hA2 r2 n2 g2 hz2=>?_) code1 hc1
 have N2:NowP X z cont Ch S0 K0 v0 Mo0 (uni (oneM v1.heap.size Bn) (uni (doM v.heap.size ob X.tb k b) M)) σ κ S v2 w2 t:=N1.to g2 r2 n2 (fun c o' hb=>by
  by_cases hcc:c=v1.heap.size
  ·subst hcc
   rw[Cr (Ci _ _)] at hb
   cases hb
   exact .inr ⟨Nat.le_refl _,hz2,_,_,_,rfl⟩
  ·left
   unfold uni at hb
   rw[Bz hcc] at hb
   exact hb)
 have hnone:uni (doM v.heap.size ob X.tb k b) M v1.heap.size=none:=by
  cases hx:uni (doM v.heap.size ob X.tb k b) M v1.heap.size with
  |none=>rfl
  |some o=>have:=N1.lt (b:=v1.heap.size) (by rw[hx];simp);omega
 exact look_goes (f:=f1) hD hk ho1 hC ⟨Cr hdm.1.1,Cr hdm.1.2.1,Cr hdm.1.2.2⟩ hnone hA2 hH hob N2
theorem won_goes (hD:ODat X o ob kp cw cv) (hk:0≤k∧k≤3) (hf:f.Ok) (hC:OCtx (X.h==0) X.tb kp ob k b d M f.ret cu) (hB:Box3 ob X.tb k b b3 b4 b5 M) (hr:M rb=none) (hA:GF kp X.tb b3 b4 b5 rb a) (hH:∀ x Mo' g,Good v0 Mo0 x Mo'->oSit X x Mo' cu g->H x Mo' g)
 (hob:Ob X H z cont Ch Stop cu S0 K0 v0 Mo0 σ κ (Fb o k b d X.i)) (N:NowP X z cont Ch S0 K0 v0 Mo0 (uni (oneM rb Bn) M) σ κ S v w t) :
 GoesI Tryd.prog (X.h==0) (DT (ScZ z) Ch) Stop (G (gTry a (.bool true)) f.stack) w:=by
 have hin:∀ c o',M c=some o'->uni (oneM rb Bn) M c=some o':=fun c o' hb=>by
  by_cases e:c=rb
  ·subst e;rw[hr] at hb;cases hb
  ·exact Dl (Bz e) hb
 refine get_won hA f.stack (fun a2 o2 hA2 ho2 hd2 code hc=>?_)
 refine clo_in (N.now.mo _ _ (hin _ _ hB.1)) (N.now.mo _ _ (hin _ _ hB.2.1)) (N.now.mo _ _ (hin _ _ hB.2.2)) _ N.now.at_.rel N.now.at_.noRow (fun a3 v1 w1 o3 hA3 r1 n1 g1 hz1 ho3 hd3 code3 hc3=>?_) code hc
 have hl1:v.heap.size<v1.heap.size:=(Array.getElem?_eq_some_iff.1 hz1).1
 have hkc:KBack (X.h==0) (oneM v.heap.size Bn) (fun a=>a) (fun r=>G ((base 31).at (a3.put o3.dst r) (.inRegion cO1 [4] :: [.code .ret])) ((base 30).at a2 (.inRegion gO11 [3,4,5] :: [.code .ret,.inBlock 2,.inBlock 1,.inLoop gL,.inBlock 0]) :: f.stack)) (fun r=>G (gDone a2 r) f.stack):=by
  refine kb_of (fun z Ch Stop v w e x hz hvw hn hk=>?_)
  rw[hd3]
  refine clo_back (bc:=base 30) (ac:=a2) (ops:=gO11) (q:=3) (rest:=[4,5]) (oc:=o2) (k0:=[.code .ret,.inBlock 2,.inBlock 1,.inLoop gL,.inBlock 0]) hA3 f.stack ho2 hz hvw hn (fun w' r' n'=>?_)
  rw[hd2]
  exact hk w' r' n'
 have N1:NowP X z cont Ch S0 K0 v0 Mo0 (uni (oneM v.heap.size Bn) (uni (oneM rb Bn) M)) σ κ S v1 w1 t:=N.to g1 r1 n1 (fun c o' hb=>by
  by_cases hcc:c=v.heap.size
  ·subst hcc
   rw[Cr (Ci _ _)] at hb
   cases hb
   exact .inr ⟨Nat.le_refl _,hz1,_,_,_,rfl⟩
  ·left
   unfold uni at hb
   rw[Bz hcc] at hb
   exact hb)
 have hap:apartM (oneM v.heap.size Bn) (uni (oneM rb Bn) M):=apart_lt (n:=v.heap.size) (fun c hb=>by rw[Eg hb];exact Nat.le_refl _) (fun c hb=>N.lt hb)
 have fin:∀ (e y:Int),(0≤e∧e<1048576)->e≠4->Fb o k b d X.i=.turn 2 (2*o+1) (5,lO o k b d X.i++[e,y])->∀ v2 w2,Rel z v2 w2->Ah Ch v2->Grows v1 v2->GoesI Tryd.prog (X.h==0) (DT (ScZ z) Ch) Stop (G ((base 31).at (a3.put o3.dst (.agg #[I e,I y])) (.inRegion cO1 [4] :: [.code .ret])) ((base 30).at a2 (.inRegion gO11 [3,4,5] :: [.code .ret,.inBlock 2,.inBlock 1,.inLoop gL,.inBlock 0]) :: f.stack)) w2:=fun e y he he4 hce v2 w2 r2 n2 g2=>by
  rw[hce] at hob
  have N2:=N1.grows g2 r2 n2
  obtain ⟨k1,k2⟩:=has_uni N2.now.mo hap
  refine hkc z Ch Stop w2 v2 S κ (e,y) r2 n2 N2.now.at_.mem k1 (fun c hb=>N2.now.far c (Df.2 (.inl hb))) (fun v3 w3 r3 n3 e3=>?_)
  exact done_goes he he4 hD hk hf hC hB hr hA2 hH hob (N2.wrote hap e3 r3 n3)
 by_cases k0:k=0
 ·exact come0 (bc:=base 31) (ac:=a3) (ops:=cO1) (q:=3) (rest:=[4]) (oc:=o3) (k0:=[.code .ret]) k0 _ ho3 r1 n1 (fin 0 b (by decide) (by decide) (by unfold Fb;rw[if_neg (by omega)];unfold cmO;rw[if_pos k0])) code3 hc3
 by_cases k1:k=1
 ·exact come1 (bc:=base 31) (ac:=a3) (ops:=cO1) (q:=3) (rest:=[4]) (oc:=o3) (k0:=[.code .ret]) k1 _ ho3 r1 n1 (fin 70 b (by decide) (by decide) (by unfold Fb;rw[if_neg (by omega)];unfold cmO;rw[if_neg k0,if_pos k1])) code3 hc3
 by_cases k2:k=2
 ·exact come2 (bc:=base 31) (ac:=a3) (ops:=cO1) (q:=3) (rest:=[4]) (oc:=o3) (k0:=[.code .ret]) k2 _ ho3 r1 n1 (fin 71 b (by decide) (by decide) (by unfold Fb;rw[if_neg (by omega)];unfold cmO;rw[if_neg k0,if_neg k1])) code3 hc3
 have k3:k=3:=by omega
 have hce:Fb o k b d X.i=.turn 1 (2*o) (1,lO o k b (d+1) X.i):=by unfold Fb;rw[if_pos k3]
 rw[hce] at hob
 refine come3 (bc:=base 31) (ac:=a3) (ops:=cO1) (q:=3) (rest:=[4]) (oc:=o3) (k0:=[.code .ret]) k3 _ ho3 r1 n1 (fun v2 w2 bd ad od qd rd oe kd r2 n2 g2 hz2 hoe hK code4 hc4=>?_) code3 hc3
 have hl2:v1.heap.size+1<v2.heap.size:=(Array.getElem?_eq_some_iff.1 hz2).1
 let M0:=uni (oneM rb Bn) M
 have N2:NowP X z cont Ch S0 K0 v0 Mo0 (uni (oneM (v1.heap.size+1) Bn) (uni (oneM v.heap.size Bn) (uni (oneM rb Bn) M))) σ κ S v2 w2 t:=N1.to g2 r2 n2 (fun c o' hb=>by
  by_cases hcc:c=v1.heap.size+1
  ·subst hcc
   rw[Cr (Ci _ _)] at hb
   cases hb
   exact .inr ⟨by omega,hz2,_,_,_,rfl⟩
  ·left
   unfold uni at hb
   rw[Bz hcc] at hb
   exact hb)
 rw[←k3]
 refine enter_do (f0:=⟨bd,ad,od,qd,rd,oe,kd,_⟩) hoe hD hk hH (d:=d+1) (fun f5 hkb=>?_) hob N2 code4 hc4
 have hap2:apartM (oneM (v1.heap.size+1) Bn) (oneM v.heap.size Bn):=fun c hb=>by rw[Eg hb];exact Bz (by omega)
 have hj:=(hkb.trans (hK.trans hkc hap2) (apart_lt (n:=v2.heap.size) (fun c hb=>by have:=doM_ne hb;omega) (fun c hb=>by
  rcases Df.1 hb with h|h
  ·rw[Eg h];omega
  ·rw[Eg h];omega)))
 have hj:KBack (X.h==0) (uni (doM v2.heap.size ob X.tb k b) (uni (oneM (v1.heap.size+1) Bn) (oneM v.heap.size Bn))) (fun a=>(70,a.1)) f5.ret (fun r=>G (gDone a2 r) f.stack):=hj
 have:=OCtx.nest hf hC hA2 hB hj (apart_lt (n:=v.heap.size) (fun c hb=>by
  rcases Df.1 hb with h|h
  ·have:=doM_ne h;omega
  rcases Df.1 h with h|h
  ·rw[Eg h];omega
  ·rw[Eg h];exact Nat.le_refl _) (fun c hb=>N.lt hb)) hr
 rw[←uni_assoc,←uni_assoc] at this
 exact this
end
theorem fl_join {n:Nat}{l l':List (Nat×Value)}{a:Act}(h:Fl n l a) (h':Fl n l' a):Fl n (l++l') a:=⟨h.1,h.2.1,fun p hp=>(List.mem_append.1 hp).elim (h.2.2 p) (h'.2.2 p)⟩
structure OMine (m:Nat) (X:Fix (mcO m)) (xb mb sb:Nat):Prop where
 caps:X.caps=#[Pt xb 0,Pt mb 0]
 m0:0<m
 m1:m≤1000
 mem:∀ v,Has X.pk v->R1.Flds v∧v.cell? ⟨xb,0,none⟩=some (.slice (some ⟨sb,0,none⟩) m m)∧v.cell? ⟨mb,0,none⟩=some (I m)
 obj:∀ o,o<m->∃ ob kp cw cv,X.kb[2*o]? = some cw∧X.kb[2*o+1]? = some cv∧∀ v,Has X.pk v->v.cell? ⟨sb,o,none⟩=some (Pt ob 0)∧v.cell? ⟨ob,0,none⟩=some (Pt kp 0)∧v.cell? ⟨kp,0,none⟩=some (Pt cw 0)∧v.cell? ⟨kp,1,none⟩=some (Pt cv 0)
noncomputable def pkgO (m:Nat):Pkg (mcO m) 25 where
 fn:=Tryd.f25
 code:=Tryd.f25.body.getD .skip
 hf:=Tryd.func25
 hname:=by kernel_rfl
 hcode:=rfl
 Mine X:=∃ xb mb sb,OMine m X xb mb sb
 Sit:=oSit
 start:=by
  rintro X ok ⟨xb,mb,sb,hm⟩ hfid c hc cs bc ac ops q rest oc k hoc H z cont Ch Stop S K v w t A hH hob
  rw[hm.caps]
  show GoesI Tryd.prog (X.h==0) (DT (ScZ z) Ch) Stop (G ((base 25).at { tmps:=#[Pt X.tb 0,.agg #[I c.po,I c.ca,I c.cb,I c.cc],Pt xb 0,Pt mb 0]++Array.replicate 27 undef,defers:=[] } [.code (Tryd.f25.body.getD .skip)]) (bc.at ac (.inRegion ops (q :: rest) :: k) :: cs)) w
  have N0:NowP X z cont Ch S K v (fun _=>none) (fun _=>none) (Gen.nv S) K S v w t:=⟨Now.here A (fun b o h=>by cases h) (fun b h=>absurd rfl h) (fun b o h=>by cases h),fun b h=>absurd rfl h⟩
  by_cases hp:1≤c.po∧c.po≤4
  ·have es:(mcO m).start X.i c=.turn 1 (2*Aq c.ca m) (1,lO (Aq c.ca m) (c.po - 1) c.cb 0 X.i):=if_pos hp
   rw[es] at hob
   obtain ⟨ob,kp,cw,cv,kw,kv,hv⟩:=hm.obj (Aq c.ca m) (F8 _ hm.m0)
   have hD:ODat X (Aq c.ca m) ob kp cw cv:=⟨fun v hv'=>⟨(hm.mem v hv').1,(hv v hv').2⟩,kw,kv⟩
   refine call_in hp.1 hp.2 hm.m0 hm.m1 (hm.mem v A.pk).2.1 (hm.mem v A.pk).2.2 (hv v A.pk).1 _ A.rel A.noRow (fun a1 v1 w1 o1 hA1 r1 n1 g1 hz1 ho1 hd1 code1 hc1=>?_) _ rfl
   have N1:NowP X z cont Ch S K v (fun _=>none) (oneM (v.heap.size+1) Bn) (Gen.nv S) K S v1 w1 t:=N0.to g1 r1 n1 (fun b o hb=>by
    obtain ⟨rfl,rfl⟩:=oneM_eq hb
    exact .inr ⟨by omega,hz1,_,_,_,rfl⟩)
   have hl1:v.heap.size+1<v1.heap.size:=(Array.getElem?_eq_some_iff.1 hz1).1
   refine enter_do (f0:=⟨base 25,a1,pO3,14,[15],o1,[.code .ret],bc.at ac (.inRegion ops (q :: rest) :: k) :: cs⟩) ho1 hD (by omega) hH (d:=0) (fun f hkb=>?_) hob N1 code1 hc1
   refine .base (hkb.trans (f2:=fun a=>a) (kb_of (rb:=v.heap.size+1) (fun z Ch Stop v w e x hz hvw hn hk=>?_)) (apart_lt (n:=v1.heap.size) (fun c hb=>by have:=doM_ne hb;omega) (fun c hb=>by rw[Eg hb];exact hl1)))
   show GoesI Tryd.prog (X.h==0) (DT (ScZ z) Ch) Stop (G ((base 25).at (a1.put o1.dst (.agg #[I e,I x])) (.inRegion pO3 [15] :: [.code .ret])) _) w
   rw[hd1]
   exact call_back hA1 cs hoc hz hvw hn hk
  ·have es:(mcO m).start X.i c=.ans 1 0:=if_neg hp
   rw[es] at hob
   refine call_no (by omega) cs hoc A.rel A.noRow (fun v' w' r' n' g'=>?_) _ rfl
   have N1:=N0.grows g' r' n'
   exact hob.ans (1,0) rfl v' w' S r' n' rfl N1.now.evo
 turn:=by
  rintro X ok - hfid op j q Mo cu g ⟨hrow,o,ob,kp,cw,cv,k,b,d,f,rb,b3,b4,b5,a,M,hD,hk,hf,hC,hB,hr,hA,hsit⟩ H z cont Ch Stop y S K v w t A hH hop hce hl hMo hMf hMp hob
  have hpk:∀ b,Mo b≠none->X.pk b=none:=fun b hb=>by
   cases hx:X.pk b with
   |none=>rfl
   |some o=>exact absurd (.inr (.inr (.inr (by rw[hx];simp)))) (hMp b hb)
  have N0:NowP X z cont Ch S K v Mo Mo (Gen.nv S) K S v w t:=⟨Now.here A hMo hMf hrow,hpk⟩
  have cw':=N0.now.cell hD.kw
  have cv':=N0.now.cell hD.kv
  have hokK:∀ K',KOk (mcO m) K':=fun K' j p _=>trivial
  rcases hsit with ⟨rfl,⟨hx,hg⟩|⟨c,hx,hA37,hg⟩|⟨c,hx,hg⟩|⟨hx,_⟩⟩|⟨e,y',bx,rb2,a2,rfl,hA2,he,hne,⟨hx,hg⟩|⟨hx,hg⟩⟩
  · -- it has looked
   cases hx
   refine hg z Ch Stop y w v S K t (cellAt K (2*o)).2 A.rel A.noRow A.mem A.thr A.tb hop hce cw'.1 hl (fun v1 w1 tv r1 n1 e1=>?_)
   have sd:=Ht (i:=X.i) S tv t (cellAt K (2*o)).2 (cellAt K (2*o)).2
   have N1:NowP X z cont Ch S K v (uni (oneM rb Bn) M) (uni (oneM rb Bn) M) _ _ _ v1 w1 t:=⟨N0.now.on e1 r1 n1 (nv_did tv t _ _) (G3 A.thr) A.tb A.gc sd.bk (hokK _),hpk⟩
   rw[turn1] at hob
   have e2:(cellAt K (2*o)).1=cw:=by rw[cw'.2]
   rw[e2,←sd.stk] at hob
   exact seen_goes (cellAt K (2*o)).2 hD hk hf hC hB hr hA hH hob N1
  · -- it has the value
   cases hx
   refine hg z Ch Stop y w v S K t (cellAt K (2*o+1)).2 A.rel A.noRow A.mem A.thr A.tb hop hce cv'.1 hl (fun v1 w1 tv r1 n1 e1=>?_)
   have sd:=Ht (i:=X.i) S tv t (cellAt K (2*o+1)).2 (cellAt K (2*o+1)).2
   have N1:NowP X z cont Ch S K v (uni (oneM rb Bn) M) (uni (oneM rb Bn) M) _ _ _ v1 w1 t:=⟨N0.now.on e1 r1 n1 (nv_did tv t _ _) (G3 A.thr) A.tb A.gc sd.bk (hokK _),hpk⟩
   rw[turn2,set_nx] at hob
   have e2:(cellAt K (2*o+1)).1=cv:=by rw[cv'.2]
   rw[e2] at hob
   exact get_val (bc:=f.bd) (ac:=f.ad) (ops:=f.od) (q:=f.qd) (rest:=f.rd) (oc:=f.oe) (k0:=f.kd) (fl_join hA37 hA) f.fs hf N1.zero r1 n1 (fun w' r' n'=>ctx_ans hD hk hC hH (c,(cellAt K (2*o+1)).2) hob (N1.laid (an:=(c,(cellAt K (2*o+1)).2)) hr r' n'))
  · -- it has tried
   cases hx
   refine hg z Ch Stop y w v S K t (cellAt K (2*o)).2 A.rel A.noRow A.mem A.thr A.tb hop hce cw'.1 hl (fun v1 w1 tv r1 n1 e1=>?_)
   have e2:(cellAt K (2*o)).1=cw:=by rw[cw'.2]
   rw[turn3,e2] at hob
   by_cases hxc:(cellAt K (2*o)).2=c
   ·rw[if_pos hxc,set_come] at hob
    have ef:Dy c (R1.Bh 1 X.i 0) (cellAt K (2*o)).2=((c,R1.Bh 1 X.i 0),R1.Bh 1 X.i 0,.bool true):=by unfold Dy;rw[if_pos hxc]
    rw[ef] at e1 ⊢
    have sd:=Ht (i:=X.i) S tv t c (R1.Bh 1 X.i 0)
    have N1:NowP X z cont Ch S K v (uni (oneM rb Bn) M) (uni (oneM rb Bn) M) _ _ _ v1 w1 t:=⟨N0.now.on e1 r1 n1 (nv_did tv t _ _) (G3 A.thr) A.tb A.gc sd.bk (hokK _),hpk⟩
    exact won_goes hD hk hf hC hB hr hA hH hob N1
   ·rw[if_neg hxc] at hob
    have ef:Dy c (R1.Bh 1 X.i 0) (cellAt K (2*o)).2=(((cellAt K (2*o)).2,(cellAt K (2*o)).2),(cellAt K (2*o)).2,.bool false):=by unfold Dy;rw[if_neg hxc]
    rw[ef] at e1 ⊢
    have sd:=Ht (i:=X.i) S tv t (cellAt K (2*o)).2 (cellAt K (2*o)).2
    have N1:NowP X z cont Ch S K v (uni (oneM rb Bn) M) (uni (oneM rb Bn) M) _ _ _ v1 w1 t:=⟨N0.now.on e1 r1 n1 (nv_did tv t _ _) (G3 A.thr) A.tb A.gc sd.bk (hokK _),hpk⟩
    exact get_lost hA f.stack (fun a2 hA2=>look_goes hD hk hf hC hB hr hA2 hH hob N1)
  ·cases hx
  · -- the value is stored
   cases hx
   refine hg z Ch Stop y w v S K t (cellAt K (2*o+1)).2 A.rel A.noRow A.mem A.thr A.tb hop hce cv'.1 hl (fun v1 w1 tv r1 n1 e1=>?_)
   have sd:=Ht (i:=X.i) S tv t (cellAt K (2*o+1)).2 y'
   have N1:NowP X z cont Ch S K v (kMo bx rb2 rb e y' M) (kMo bx rb2 rb e y' M) _ _ _ v1 w1 t:=⟨N0.now.on e1 r1 n1 (nv_did tv t _ _) (G3 A.thr) A.tb A.gc sd.bk (hokK _),hpk⟩
   rw[turn5] at hob
   have e2:(cellAt K (2*o+1)).1=cv:=by rw[cv'.2]
   rw[e2] at hob
   have htb:=N1.now.at_.tb
   have hgc:=N1.now.at_.gc
   rw[←htb] at hA2
   have hbx:=N1.now.mo bx _ (Cr (Ci _ _))
   refine keep_word (h:=X.h) (e:=e) (i:=X.i) (j:=2*o) (cb:=cw) (kp:=kp) (cont:=cont) (cellAt (K.set (2*o+1) (cv,y')) (2*o)).2 (hD.mem v1 N1.now.at_.pk).1 (hD.mem v1 N1.now.at_.pk).2.2.1 (by simp[World.cell?,hbx]) hA2 _ _ (H (.turn 2 (2*o) (6,lO o k b d X.i++[e,y'])) (kMo bx rb2 rb e y' M)) (fun g hg=>?_) N1.now.at_.rel N1.now.at_.noRow N1.now.at_.mem N1.now.at_.thr (N1.now.cell hD.kw).1 (by rw[htb];exact N1.now.at_.z) (by rw[htb,hgc];exact N1.now.at_.cont) (ob_turn hob N1.now)
   obtain ⟨a4,hA4,hg⟩:=hg
   rw[htb] at hA4 hg
   exact hH _ _ g (N1.now.good (fun _ _ h=>by cases h)) ⟨N1.now.row,o,ob,kp,cw,cv,k,b,d,f,rb,b3,b4,b5,a,M,hD,hk,hf,hC,hB,hr,hA,.inr ⟨e,y',bx,rb2,a4,rfl,hA4,he,hne,.inr ⟨rfl,hg⟩⟩⟩
  · -- both are stored
   cases hx
   refine hg z Ch Stop y w v S K t (cellAt K (2*o)).2 A.rel A.noRow A.mem A.thr A.tb hop hce cw'.1 hl (fun v1 w1 tv r1 n1 e1=>?_)
   have sd:=Ht (i:=X.i) S tv t (cellAt K (2*o)).2 (R1.Bh 2 0 e)
   have N1:NowP X z cont Ch S K v (kMo bx rb2 rb e y' M) (kMo bx rb2 rb e y' M) _ _ _ v1 w1 t:=⟨N0.now.on e1 r1 n1 (nv_did tv t _ _) (G3 A.thr) A.tb A.gc sd.bk (hokK _),hpk⟩
   rw[turn6,set_nx] at hob
   have e2:(cellAt K (2*o)).1=cw:=by rw[cw'.2]
   rw[e2] at hob
   have hbx:=N1.now.mo bx _ (Cr (Ci _ _))
   have hrn:uni (oneM rb Bn) M rb2=none:=by unfold uni;rw[Bz hne.2.2.2.1];exact hne.2.2.2.2
   have N2:=N1.less (M1:=uni (oneM rb2 Bn) (uni (oneM rb Bn) M)) (fun c o' hb=>Dl (Bz (fun h=>by
    subst h
    unfold uni at hb
    rw[Bz hne.1,Bz hne.2.1] at hb
    simp only[Option.orElse_none] at hb
    rw[hne.2.2.1] at hb
    cases hb)) hb)
   have o4:gO11[4]? = some (gO11.getD 4 default):=by kernel_rfl
   refine keep_out (bc:=base 30) (ac:=a) (ops:=gO11) (q:=4) (rest:=[5]) (oc:=gO11.getD 4 default) (k0:=[.code .ret,.inBlock 2,.inBlock 1,.inLoop gL,.inBlock 0]) hA2 _ f.stack o4 hbx N2.zero r1 n1 (fun w' r' n'=>?_)
   have N3:=N2.laid (an:=(e,y')) hrn r' n'
   rw[show (gO11.getD 4 default).dst=some 61 by kernel_rfl]
   exact get_kept (bc:=f.bd) (ac:=f.ad) (ops:=f.od) (q:=f.qd) (rest:=f.rd) (oc:=f.oe) (k0:=f.kd) hA f.fs hf N3.zero r' n' (fun w'' r'' n''=>ctx_ans hD hk hC hH (e,y') hob (N3.laid (an:=(e,y')) hr r'' n''))
 wake:=by
  rintro X ok - hfid j q Mo cu g ⟨hrow,o,ob,kp,cw,cv,k,b,d,f,rb,b3,b4,b5,a,M,hD,hk,hf,hC,hB,hr,hA,hsit⟩ H z cont Ch Stop y S K v w t A hH hl hMo hMf hMp hob1 hob2
  have hpk:∀ b,Mo b≠none->X.pk b=none:=fun b hb=>by
   cases hx:X.pk b with
   |none=>rfl
   |some o=>exact absurd (.inr (.inr (.inr (by rw[hx];simp)))) (hMp b hb)
  have N0:NowP X z cont Ch S K v Mo Mo (Gen.nv S) K S v w t:=⟨Now.here A hMo hMf hrow,hpk⟩
  rcases hsit with ⟨rfl,⟨hx,hg⟩|⟨c,hx,hA37,hg⟩|⟨c,hx,hg⟩|⟨hx,hg⟩⟩|⟨e,y',bx,rb2,a2,rfl,hA2,he,hne,⟨hx,hg⟩|⟨hx,hg⟩⟩
  ·cases hx
  ·cases hx
  ·cases hx
  ·cases hx
   refine hg z Ch Stop y w v S K t A.rel A.noRow A.mem A.thr A.tb hl (fun v1 w1 tv hs r1 n1 e1=>?_) (fun v1 w1 hs r1 n1 e1=>?_)
   ·have N1:NowP X z cont Ch S K v (uni (oneM rb Bn) M) (uni (oneM rb Bn) M) _ _ _ v1 w1 t:=⟨N0.now.on e1 r1 n1 rfl A.thr A.tb A.gc rfl A.kb.2,hpk⟩
    have hob:=hob2 hs
    rw[woke4] at hob
    exact get_woke hA f.stack (fun a2 hA2=>look_goes hD hk hf hC hB hr hA2 hH hob N1)
   ·have N1:NowP X z cont Ch S K v (uni (oneM rb Bn) M) (uni (oneM rb Bn) M) _ _ _ v1 w1 t:=⟨N0.now.on e1 r1 n1 rfl A.thr A.tb A.gc rfl A.kb.2,hpk⟩
    have hob:=hob1 hs
    rw[stuck4] at hob
    exact get_stuck (bc:=f.bd) (ac:=f.ad) (ops:=f.od) (q:=f.qd) (rest:=f.rd) (oc:=f.oe) (k0:=f.kd) hA f.fs hf N1.zero r1 n1 (fun w' r' n'=>ctx_ans hD hk hC hH (4,0) hob (N1.laid (an:=(4,0)) hr r' n'))
  ·cases hx
  ·cases hx
section
variable {v u u':World}{S S1:TS}{K:List (Nat×Int)}{xs:List Int}{pk:Nat->Option Obj}
theorem Objs.set (h:Objs v S xs pk S1 K u) {b:Nat}{o o':Obj}(hb:pk b=some o) (hvb:v.heap.size≤b) (hw:∀ x,x≠b->u'.heap[x]? = u.heap[x]?) (hn:u'.heap[b]? = some o') (hs:u'.heap.size=u.heap.size) (e1:u'.os=u.os) (e2:u'.output=u.output) (hr:∃ c e f,o'=.cells c e f):Objs v S xs (padd pk b o') S1 K u':=by
 have ho:=(h.new b (by rw[hb];simp)).2
 have em:=h.cel.mem.other (v':=u') ho hw hs e1 e2
 refine ⟨⟨em.mem,⟨e1.trans h.cel.fr.os,e2.trans h.cel.fr.output,by rw[hs];exact h.cel.fr.size,fun x hx hn=>by rw[hw x (by omega)];exact h.cel.fr.block x hx hn⟩,h.cel.own⟩,h.vals,h.st,fun x y hx=>?_,fun x hx=>?_,fun x y hx=>?_⟩
 ·by_cases e:x=b
  ·subst e;rw[D6] at hx;cases hx;exact hn
  ·rw[Cp e] at hx;rw[hw x e];exact h.has x y hx
 ·by_cases e:x=b
  ·subst e;exact h.new x (by rw[hb];simp)
  ·rw[Cp e] at hx;exact h.new x hx
 ·by_cases e:x=b
  ·subst e;rw[D6] at hx;cases hx;exact hr
  ·rw[Cp e] at hx;exact h.row x y hx
theorem padd_padd (pk:Nat->Option Obj) (b:Nat) (o o':Obj):padd (padd pk b o) b o'=padd pk b o':=by
 funext x;unfold padd;split<;>rfl
theorem kept_new (h:Objs v S xs pk S1 K u) (hl:xs.length+2≤1000000):Calls Tryd.prog 29 #[Pt S.wb 0] u (fun e w'=>∃ cw cv,e=.returned (Pt u.heap.size 0)∧u.heap.size<w'.heap.size∧∃ S2,Objs v S (xs++[0]++[0]) (padd pk u.heap.size (.cells #[Pt cw 0,Pt cv 0] 103 (0,0))) S2 (K++[(cw,0)]++[(cv,0)]) w'):=by
 have o1:=h.push (u':=u.alloc (.cells #[.pointer none,.pointer none] 103)) (c:=#[.pointer none,.pointer none]) (t:=103) rfl rfl rfl
 have hvu:v.heap.size≤u.heap.size:=h.cel.fr.size
 have HO:Hid (Objs v S xs (padd pk u.heap.size (.cells #[.pointer none,.pointer none] 103)) S1 K (u.alloc (.cells #[.pointer none,.pointer none] 103))):=⟨o1⟩
 clear o1 h
 go_enter Tryd.func29,Tryd.ntmps29
 generalize hN:u.heap.size=N at HO hvu ⊢
 go_wp2_with fail
 refine (HO.out.cell 0 (by omega)).mono ?_
 rintro e w1 ⟨cw,rfl,hs1,S2,o2⟩
 have hk2:w1.heap[N]? = some (.cells #[.pointer none,.pointer none] 103 (0,0)):=o2.has N _ (D6 _ _ _)
 have p0:w1.cell? ⟨N,0,none⟩=some (.pointer none):=by simp[World.cell?,hk2]
 have f0:w1.frozen? ⟨N,0,none⟩=false:=by simp[World.frozen?,hk2]
 have o3:=o2.set (u':=w1.setCell ⟨N,0,none⟩ (Pt cw 0)) (b:=N) (o':=.cells #[Pt cw 0,.pointer none] 103 (0,0)) (D6 _ _ _) hvu (fun x hx=>Below.heap_setCell _ _ _ _ hx) (by have:=heap_setCell_same (o:=0) hk2 (Pt cw 0);simpa using this) (by simp[World.setCell]) rfl rfl ⟨_,_,_,rfl⟩
 rw[padd_padd] at o3
 have HO3:Hid (Objs v S (xs++[0]) (padd pk N (.cells #[Pt cw 0,.pointer none] 103 (0,0))) S2 (K++[(cw,0)]) (w1.setCell ⟨N,0,none⟩ (Pt cw 0))):=⟨o3⟩
 clear o2 o3 hk2 HO hs1
 go_wp2_with fail
 refine (HO3.out.cell 0 (by simp;omega)).mono ?_
 rintro e w2 ⟨cv,rfl,hs2,S3,o4⟩
 have hk4:w2.heap[N]? = some (.cells #[Pt cw 0,.pointer none] 103 (0,0)):=o4.has N _ (D6 _ _ _)
 have p1:w2.cell? ⟨N,1,none⟩=some (.pointer none):=by simp[World.cell?,hk4]
 have f1:w2.frozen? ⟨N,1,none⟩=false:=by simp[World.frozen?,hk4]
 have hsz:N<w2.heap.size:=(Array.getElem?_eq_some_iff.1 hk4).1
 have o5:=o4.set (u':=w2.setCell ⟨N,1,none⟩ (Pt cv 0)) (b:=N) (o':=.cells #[Pt cw 0,Pt cv 0] 103 (0,0)) (D6 _ _ _) hvu (fun x hx=>Below.heap_setCell _ _ _ _ hx) (by have:=heap_setCell_same (o:=1) hk4 (Pt cv 0);simpa using this) (by simp[World.setCell]) rfl rfl ⟨_,_,_,rfl⟩
 rw[padd_padd] at o5
 have HO5:Hid (Objs v S (xs++[0]++[0]) (padd pk N (.cells #[Pt cw 0,Pt cv 0] 103 (0,0))) S3 (K++[(cw,0)]++[(cv,0)]) (w2.setCell ⟨N,1,none⟩ (Pt cv 0))):=⟨o5⟩
 have HS:Hid (N<(w2.setCell ⟨N,1,none⟩ (Pt cv 0)).heap.size):=⟨by simpa [World.setCell] using hsz⟩
 clear o4 o5 hk4 HO3 hs2 p0 f0 hsz
 go_wp2_with fail
 go_ret
 exact ⟨cw,cv,rfl,HS.out,S3,HO5.out⟩
theorem once_new (h:Objs v S xs pk S1 K u) (hl:xs.length+2≤1000000):Calls Tryd.prog 16 #[Pt S.wb 0] u (fun e w'=>∃ cw cv ob,e=.returned (Pt ob 0)∧u.heap.size<ob∧ob<w'.heap.size∧∃ S2,Objs v S (xs++[0]++[0]) (padd (padd pk u.heap.size (.cells #[Pt cw 0,Pt cv 0] 103 (0,0))) ob (.cells #[Pt u.heap.size 0] 79 (0,0))) S2 (K++[(cw,0)]++[(cv,0)]) w'):=by
 have HC:Hid (Calls Tryd.prog 29 #[Pt S.wb 0] u (fun e w'=>∃ cw cv,e=.returned (Pt u.heap.size 0)∧u.heap.size<w'.heap.size∧∃ S2,Objs v S (xs++[0]++[0]) (padd pk u.heap.size (.cells #[Pt cw 0,Pt cv 0] 103 (0,0))) S2 (K++[(cw,0)]++[(cv,0)]) w')):=⟨kept_new h hl⟩
 clear h
 go_enter Tryd.func16,Tryd.ntmps16
 go_wp2_with fail
 refine HC.out.mono ?_
 rintro e w1 ⟨cw,cv,rfl,hs1,S2,o1⟩
 have o2:=o1.push (u':=w1.alloc (.cells #[Pt u.heap.size 0] 79)) (c:=#[Pt u.heap.size 0]) (t:=79) rfl rfl rfl
 have HO:Hid (Objs v S (xs++[0]++[0]) (padd (padd pk u.heap.size (.cells #[Pt cw 0,Pt cv 0] 103 (0,0))) w1.heap.size (.cells #[Pt u.heap.size 0] 79)) S2 (K++[(cw,0)]++[(cv,0)]) (w1.alloc (.cells #[Pt u.heap.size 0] 79))):=⟨o2⟩
 have HS:Hid (u.heap.size<w1.heap.size):=⟨hs1⟩
 clear o1 o2 HC hs1
 go_wp2_with fail
 go_ret
 exact ⟨cw,cv,w1.heap.size,rfl,HS.out,by simp,S2,HO.out⟩
end
noncomputable def yB:Code:=Tryd.f9.body.getD .skip
noncomputable def y0:Code:=seq1 yB
noncomputable def y1:Code:=seq1 (seq2 yB)
noncomputable def y2:Code:=seq1 (seq2 (seq2 yB))
noncomputable def y3:Code:=seq1 (seq2 (seq2 (seq2 yB)))
noncomputable def y4:Code:=seq1 (seq2 (seq2 (seq2 (seq2 yB))))
noncomputable def yR:Code:=seq2 (seq2 (seq2 (seq2 (seq2 yB))))
theorem eYB:yB=.seq y0 (.seq y1 (.seq y2 (.seq y3 (.seq y4 yR)))):=by kernel_rfl
theorem fine_y0:As Tryd.prog true LV y0:=Br Bw extT (by kernel_rfl)
theorem fine_y1:As Tryd.prog true LV y1:=Br Bw extT (by kernel_rfl)
theorem fine_y2:As Tryd.prog true LV y2:=Br Bw extT (by kernel_rfl)
theorem fine_y3:As Tryd.prog true LV y3:=Br Bw extT (by kernel_rfl)
theorem fine_y4:As Tryd.prog true LV y4:=Br Bw extT (by kernel_rfl)
section
variable {S:TS}{v:World}{a:Act}{n cap mb xb:Nat}{p:Option Addr}{m:Int}
theorem y0_wp (hA:Fl 40 [(0,Pt S.wb 0),(1,I m),(2,.slice p n cap)] a):y0.wp Tryd.prog (fun e a w'=>e=.normal∧Fl 40 [(0,Pt S.wb 0),(2,.slice p n cap),(4,Pt v.heap.size 0),(6,.slice none 0 0),(7,I 0)] a∧w'.heap=v.heap.push (.cells #[I m] 3)∧w'.os=v.os∧w'.output=v.output) a v:=by
 obtain ⟨hsz,hd,hpp⟩:=hA
 obtain ⟨u,rfl,hg⟩:=litN hsz hd
 have u0:=(hg 0).symm.trans (hpp (0,Pt S.wb 0) (by simp))
 have u1:=(hg 1).symm.trans (hpp (1,I m) (by simp))
 have u2:=(hg 2).symm.trans (hpp (2,.slice p n cap) (by simp))
 clear hg hpp hsz hd
 unfold y0 yB Tryd.f9 seq1
 simp only[Option.getD_some,lits,Nat.reduceAdd,u0,u1,u2]
 clear u0 u1 u2
 go_wp2_with fail
 exact ⟨⟨rfl,rfl,by
  intro p hp
  simp only[List.mem_cons,List.not_mem_nil,or_false] at hp
  rcases hp with rfl|rfl|rfl|rfl|rfl<;>rfl⟩,rfl,rfl,rfl⟩
theorem y1_no (h:Rep zn S v) (pc:Nat->Option Addr) (ln cp:Nat->Nat) (hs:∀ k,k<n->∃ sb so,p=some ⟨sb,so,none⟩∧v.cell? ⟨sb,so+k,none⟩=some (.slice (pc k) (ln k) (cp k))) (hn:n≤17592186043904) (hr:S.ran=false) {E:Int}(hE:Refused n ln E) (hA:Fl 40 [(0,Pt S.wb 0),(2,.slice p n cap),(4,Pt mb 0),(6,.slice none 0 0),(7,I 0)] a) :
 y1.wp Tryd.prog (fun e a w'=>e=.ret∧∃ x,(results Tryd.f9 a.tmps).run Tryd.prog w'=.ok x w'∧x=.tuple #[.slice none 0 0,I E]∧w'.heap=v.heap∧w'.os=v.os∧w'.output=v.output) a v:=by
 have h19:=(body19 h p n cap hn pc ln cp hs).calls Tryd.func23 rfl
 have H19:Hid (Calls Tryd.prog 23 #[Pt S.wb 0,.slice p n cap] v (fun e w'=>e=.returned (I E)∧w'=v)):=⟨h19.mono (by
  rintro e w' ⟨r,rfl,rfl,⟨hk,rfl⟩|⟨hk,rfl⟩⟩
  ·rcases hE with ⟨_,rfl⟩|⟨h1,_⟩
   ·exact ⟨rfl,rfl⟩
   ·obtain ⟨k,k1,k2⟩:=hk
    exact absurd (h1 k k1) (by omega)
  ·rcases hE with ⟨⟨k,k1,k2⟩,_⟩|⟨_,h1,rfl⟩
   ·exact absurd (hk k k1) (by omega)
   ·refine ⟨?_,rfl⟩
    unfold checkE
    rw[if_pos (h1.imp_right .inl)])⟩
 have hE0:¬ E=0:=by rcases hE with ⟨_,rfl⟩|⟨_,_,rfl⟩<;>decide
 clear h19 h hs hn hr hE
 obtain ⟨hsz,hd,hpp⟩:=hA
 obtain ⟨u,rfl,hg⟩:=litN hsz hd
 have u0:=(hg 0).symm.trans (hpp (0,Pt S.wb 0) (by simp))
 have u2:=(hg 2).symm.trans (hpp (2,.slice p n cap) (by simp))
 have u4:=(hg 4).symm.trans (hpp (4,Pt mb 0) (by simp))
 have u6:=(hg 6).symm.trans (hpp (6,.slice none 0 0) (by simp))
 have u7:=(hg 7).symm.trans (hpp (7,I 0) (by simp))
 clear hg hpp hsz hd
 unfold y1 yB Tryd.f9 seq1 seq2
 simp only[Option.getD_some,lits,Nat.reduceAdd,u0,u2,u4,u6,u7]
 clear u0 u2 u4 u6 u7
 go_wp2_with (first
  |(go_at_call 23;refine H19.out.mono ?_;rintro e w1 ⟨rfl,rfl⟩))
 exact results_tmp2 (t:=6) (u:=7) rfl _ _ _
theorem y1_yes (h:Rep zn S v) (pc:Nat->Option Addr) (ln cp:Nat->Nat) (hs:∀ k,k<n->∃ sb so,p=some ⟨sb,so,none⟩∧v.cell? ⟨sb,so+k,none⟩=some (.slice (pc k) (ln k) (cp k))) (hln:∀ k,k<n->ln k≤64) (hn:0<n∧n≤8) (hr:S.ran=false) (hA:Fl 40 [(0,Pt S.wb 0),(2,.slice p n cap),(4,Pt mb 0),(6,.slice none 0 0),(7,I 0)] a) :
 y1.wp Tryd.prog (fun e a w'=>e=.normal∧Fl 40 [(0,Pt S.wb 0),(2,.slice p n cap),(4,Pt mb 0),(6,.slice none 0 0),(7,I 0)] a∧w'.heap=v.heap∧w'.os=v.os∧w'.output=v.output) a v:=by
 have h19:=(body19 h p n cap (by omega) pc ln cp hs).calls Tryd.func23 rfl
 have he:checkE n S.ran=0:=by unfold checkE;rw[if_neg (by rw[hr];rintro (h|h|h)<;>first|omega|cases h)]
 have H19:Hid (Calls Tryd.prog 23 #[Pt S.wb 0,.slice p n cap] v (fun e w'=>e=.returned (I 0)∧w'=v)):=⟨h19.mono (by
  rintro e w' ⟨r,rfl,rfl,⟨⟨k,hk,h1⟩,_⟩|⟨_,rfl⟩⟩
  ·exact absurd (hln k hk) (by omega)
  ·rw[he];exact ⟨rfl,rfl⟩)⟩
 clear h19 h hs hln hn hr he
 obtain ⟨hsz,hd,hpp⟩:=hA
 obtain ⟨u,rfl,hg⟩:=litN hsz hd
 have u0:=(hg 0).symm.trans (hpp (0,Pt S.wb 0) (by simp))
 have u2:=(hg 2).symm.trans (hpp (2,.slice p n cap) (by simp))
 have u4:=(hg 4).symm.trans (hpp (4,Pt mb 0) (by simp))
 have u6:=(hg 6).symm.trans (hpp (6,.slice none 0 0) (by simp))
 have u7:=(hg 7).symm.trans (hpp (7,I 0) (by simp))
 clear hg hpp hsz hd
 unfold y1 yB Tryd.f9 seq1 seq2
 simp only[Option.getD_some,lits,Nat.reduceAdd,u0,u2,u4,u6,u7]
 clear u0 u2 u4 u6 u7
 go_wp2_with (first
  |(go_at_call 23;refine H19.out.mono ?_;rintro e w1 ⟨rfl,rfl⟩))
 first
  |exact ⟨rfl,rfl,by
    intro p hp
    simp only[List.mem_cons,List.not_mem_nil,or_false] at hp
    rcases hp with rfl|rfl|rfl|rfl|rfl<;>rfl⟩
  |exact ⟨⟨rfl,rfl,by
    intro p hp
    simp only[List.mem_cons,List.not_mem_nil,or_false] at hp
    rcases hp with rfl|rfl|rfl|rfl|rfl<;>rfl⟩,rfl,rfl,rfl⟩
theorem y2_yes (h1:1≤m) (h2:m≤1000) (hmb:v.cell? ⟨mb,0,none⟩=some (I m)) (hA:Fl 40 [(0,Pt S.wb 0),(2,.slice p n cap),(4,Pt mb 0),(6,.slice none 0 0),(7,I 0)] a):y2.wp Tryd.prog (fun e a w'=>e=.normal∧Fl 40 [(0,Pt S.wb 0),(2,.slice p n cap),(4,Pt mb 0),(6,.slice none 0 0),(7,I 0)] a∧w'.heap=v.heap∧w'.os=v.os∧w'.output=v.output) a v:=by
 have g1:decide (m<1)=false:=decide_eq_false (by omega)
 have g2:decide (m > 1000)=false:=decide_eq_false (by omega)
 have g3:¬ m<1:=by omega
 have g4:¬ m > 1000:=by omega
 obtain ⟨hsz,hd,hpp⟩:=hA
 obtain ⟨u,rfl,hg⟩:=litN hsz hd
 have u0:=(hg 0).symm.trans (hpp (0,Pt S.wb 0) (by simp))
 have u2:=(hg 2).symm.trans (hpp (2,.slice p n cap) (by simp))
 have u4:=(hg 4).symm.trans (hpp (4,Pt mb 0) (by simp))
 have u6:=(hg 6).symm.trans (hpp (6,.slice none 0 0) (by simp))
 have u7:=(hg 7).symm.trans (hpp (7,I 0) (by simp))
 clear hg hpp hsz hd
 unfold y2 yB Tryd.f9 seq1 seq2
 simp only[Option.getD_some,lits,Nat.reduceAdd,u0,u2,u4,u6,u7]
 clear u0 u2 u4 u6 u7
 go_wp2_with fail
 first
  |exact ⟨rfl,rfl,by
    intro p hp
    simp only[List.mem_cons,List.not_mem_nil,or_false] at hp
    rcases hp with rfl|rfl|rfl|rfl|rfl<;>rfl⟩
  |exact ⟨⟨rfl,rfl,by
    intro p hp
    simp only[List.mem_cons,List.not_mem_nil,or_false] at hp
    rcases hp with rfl|rfl|rfl|rfl|rfl<;>rfl⟩,rfl,rfl,rfl⟩
theorem y2_no1 (h1:m<1) (hmb:v.cell? ⟨mb,0,none⟩=some (I m)) (hA:Fl 40 [(0,Pt S.wb 0),(2,.slice p n cap),(4,Pt mb 0),(6,.slice none 0 0),(7,I 0)] a):y2.wp Tryd.prog (fun e a w'=>e=.ret∧∃ x,(results Tryd.f9 a.tmps).run Tryd.prog w'=.ok x w'∧x=.tuple #[.slice none 0 0,I 1]∧w'.heap=v.heap∧w'.os=v.os∧w'.output=v.output) a v:=by
 have g1:decide (m<1)=true:=decide_eq_true h1
 obtain ⟨hsz,hd,hpp⟩:=hA
 obtain ⟨u,rfl,hg⟩:=litN hsz hd
 have u0:=(hg 0).symm.trans (hpp (0,Pt S.wb 0) (by simp))
 have u2:=(hg 2).symm.trans (hpp (2,.slice p n cap) (by simp))
 have u4:=(hg 4).symm.trans (hpp (4,Pt mb 0) (by simp))
 have u6:=(hg 6).symm.trans (hpp (6,.slice none 0 0) (by simp))
 have u7:=(hg 7).symm.trans (hpp (7,I 0) (by simp))
 clear hg hpp hsz hd
 unfold y2 yB Tryd.f9 seq1 seq2
 simp only[Option.getD_some,lits,Nat.reduceAdd,u0,u2,u4,u6,u7]
 clear u0 u2 u4 u6 u7
 go_wp2_with fail
 exact results_tmp2 (t:=6) (u:=7) rfl _ _ _
theorem y2_no2 (h1:1000<m) (hmb:v.cell? ⟨mb,0,none⟩=some (I m)) (hA:Fl 40 [(0,Pt S.wb 0),(2,.slice p n cap),(4,Pt mb 0),(6,.slice none 0 0),(7,I 0)] a):y2.wp Tryd.prog (fun e a w'=>e=.ret∧∃ x,(results Tryd.f9 a.tmps).run Tryd.prog w'=.ok x w'∧x=.tuple #[.slice none 0 0,I 1]∧w'.heap=v.heap∧w'.os=v.os∧w'.output=v.output) a v:=by
 have g1:decide (m<1)=false:=decide_eq_false (by omega)
 have g2:decide (m > 1000)=true:=decide_eq_true h1
 have g3:¬ m<1:=by omega
 obtain ⟨hsz,hd,hpp⟩:=hA
 obtain ⟨u,rfl,hg⟩:=litN hsz hd
 have u0:=(hg 0).symm.trans (hpp (0,Pt S.wb 0) (by simp))
 have u2:=(hg 2).symm.trans (hpp (2,.slice p n cap) (by simp))
 have u4:=(hg 4).symm.trans (hpp (4,Pt mb 0) (by simp))
 have u6:=(hg 6).symm.trans (hpp (6,.slice none 0 0) (by simp))
 have u7:=(hg 7).symm.trans (hpp (7,I 0) (by simp))
 clear hg hpp hsz hd
 unfold y2 yB Tryd.f9 seq1 seq2
 simp only[Option.getD_some,lits,Nat.reduceAdd,u0,u2,u4,u6,u7]
 clear u0 u2 u4 u6 u7
 go_wp2_with fail
 exact results_tmp2 (t:=6) (u:=7) rfl _ _ _
end
theorem info46:(Tryd.prog.info? 46).map (fun i=>(i.zero,i.size,i.bytes))=some (some (.pointer none),1,8):=by kernel_rfl
theorem make_onces (n:Nat) (hn:n≤1048576) (w:World) :
 (Instr.makeSlice 68 (.int .i64 (n:Int)) (.int .i64 (n:Int))).run Tryd.prog w=.ok (.slice (some ⟨w.heap.size,0,none⟩) n n) (w.alloc (.cells (madeCells #[.pointer none] n) 46)):=by
 cases hq:Tryd.prog.info? 46 with
 |none=>have:=info46;rw[hq] at this;cases this
 |some i =>
  have hi:=info46
  rw[hq] at hi
  simp only[Option.map_some,Option.some.injEq,Prod.mk.injEq] at hi
  obtain ⟨hz,hs,hb⟩:=hi
  have:=run_make (P:=Tryd.prog) w 68 46 i _ Tryd.underlying68 hq hz .i64 .i64 (n:Int) (n:Int) (by omega) (by omega) (by rw[hb];omega) (by omega)
  rw[hs] at this
  rw[this]
  simp[Value.cells]
def rowQ (s:Nat) (obs:List Nat):List Value:=(List.range s).map fun j=>match obs[j]? with|some b=>Pt b 0|none=>.pointer none
def objQ (s:Nat) (obs:List Nat):Obj:=.cells (rowQ s obs).toArray 46 (0,0)
theorem made_rowQ (s:Nat):(.cells (madeCells #[.pointer none] s) 46:Obj)=objQ s []:=by
 unfold objQ rowQ
 congr 1
 apply Array.ext_getElem?
 intro i
 by_cases h:i<s
 ·simp[madeCells,h,Nat.mod_one]
 ·simp[madeCells,h]
theorem rowQ_next {s:Nat}{obs:List Nat}(c:Nat) (hK:obs.length<s):(rowQ s obs).toArray.setIfInBounds obs.length (Pt c 0)=(rowQ s (obs++[c])).toArray:=by
 apply Array.ext_getElem?
 intro i
 unfold rowQ
 rw[Array.getElem?_setIfInBounds]
 by_cases h:obs.length=i
 ·subst h
  simp[hK]
 ·rw[if_neg h]
  by_cases hi:i<s
  ·by_cases hlt:i<obs.length
   ·have e2:(obs++[c])[i]? = obs[i]?:=List.getElem?_append_left hlt
    simp[hi,e2]
   ·have h1:obs[i]? = none:=List.getElem?_eq_none (by omega)
    have h2:(obs++[c])[i]? = none:=List.getElem?_eq_none (by simp;omega)
    simp[hi,h1,h2]
  ·simp[hi]
theorem objQ_at {s k:Nat}{obs:List Nat}{w:World}{N:Nat}(h:w.heap[N]? = some (objQ s obs)) (hK:obs.length=k) (hk:k<s):w.cell? ⟨N,k,none⟩=some (.pointer none)∧w.frozen? ⟨N,k,none⟩=false:=by
 constructor
 ·refine cell_of h ?_
  unfold rowQ
  have:obs[k]? = none:=List.getElem?_eq_none (by omega)
  simp[hk,this]
 ·simp only[World.frozen?,h,objQ]
  simp
structure OI (v:World) (S:TS) (m k sb xb mb:Nat) (pk:Nat->Option Obj) (S1:TS) (K:List (Nat×Int)) (u:World):Prop where
 objs:Objs v S (List.replicate (2*k) 0) pk S1 K u
 klen:K.length=2*k
 fl:∀ w,(∀ b o,b<v.heap.size->pk b=some o->w.heap[b]? = some o)->R1.Flds w
 var:pk xb=some (.cells #[.slice (some ⟨sb,0,none⟩) m m] 68 (0,0))
 many:pk mb=some (.cells #[I m] 3 (0,0))
 low:v.heap.size≤sb
 row:∃ obs:List Nat,obs.length=k∧pk sb=some (objQ m obs)∧∀ o b,obs[o]? = some b->∃ kp cw cv,pk b=some (.cells #[Pt kp 0] 79 (0,0))∧pk kp=some (.cells #[Pt cw 0,Pt cv 0] 103 (0,0))∧K[2*o]? = some (cw,0)∧K[2*o+1]? = some (cv,0)
theorem OI.same {v:World}{S:TS}{m k sb xb mb:Nat}{pk:Nat->Option Obj}{S1:TS}{K:List (Nat×Int)}{u u':World}(h:OI v S m k sb xb mb pk S1 K u) (e:u'.heap=u.heap) (e1:u'.os=u.os) (e2:u'.output=u.output):OI v S m k sb xb mb pk S1 K u':=⟨h.objs.same e e1 e2,h.klen,h.fl,h.var,h.many,h.low,h.row⟩
theorem OI.next {v:World}{S:TS}{m k sb xb mb:Nat}{pk:Nat->Option Obj}{S1 S2:TS}{K:List (Nat×Int)}{u w1:World}(h:OI v S m k sb xb mb pk S1 K u) (hk:k<m) {cw cv ob:Nat}(ho:u.heap.size<ob) (o2:Objs v S (List.replicate (2*k) 0++[0]++[0]) (padd (padd pk u.heap.size (.cells #[Pt cw 0,Pt cv 0] 103 (0,0))) ob (.cells #[Pt u.heap.size 0] 79 (0,0))) S2 (K++[(cw,0)]++[(cv,0)]) w1):∃ pk',OI v S m (k+1) sb xb mb pk' S2 (K++[(cw,0)]++[(cv,0)]) (w1.setCell ⟨sb,k,none⟩ (Pt ob 0)):=by
 have lt:∀ b o,pk b=some o->b<u.heap.size:=fun b o hb=>(Array.getElem?_eq_some_iff.1 (h.objs.has b o hb)).1
 obtain ⟨obs,hl,hrow,hobs⟩:=h.row
 have hsb:=lt _ _ hrow
 let pk1:=padd (padd pk u.heap.size (.cells #[Pt cw 0,Pt cv 0] 103 (0,0))) ob (.cells #[Pt u.heap.size 0] 79 (0,0))
 have old:∀ b o,pk b=some o->pk1 b=some o:=fun b o hb=>by
  have:=lt b o hb
  show padd (padd pk _ _) _ _ b=_
  rw[Cp (by omega),Cp (by omega)]
  exact hb
 have hN:w1.heap[sb]? = some (objQ m obs):=o2.has sb _ (old _ _ hrow)
 have hrow2:(w1.setCell ⟨sb,k,none⟩ (Pt ob 0)).heap[sb]? = some (objQ m (obs++[ob])):=by
  have:=heap_setCell_same (o:=k) (show w1.heap[sb]? = some (.cells (rowQ m obs).toArray 46 (0,0)) from hN) (Pt ob 0)
  rw[←hl,rowQ_next ob (by omega)] at this
  rw[←hl]
  exact this
 have o3:=o2.set (u':=w1.setCell ⟨sb,k,none⟩ (Pt ob 0)) (b:=sb) (o':=objQ m (obs++[ob])) (old _ _ hrow) h.low (fun x hx=>Below.heap_setCell _ _ _ _ hx) hrow2 (by simp[World.setCell]) rfl rfl ⟨_,_,_,rfl⟩
 have old2:∀ b o,b≠sb->pk b=some o->padd pk1 sb (objQ m (obs++[ob])) b=some o:=fun b o hne hb=>by rw[Cp hne];exact old b o hb
 have eR:List.replicate (2*k) (0:Int)++[0]++[0]=List.replicate (2*(k+1)) 0:=by
  rw[show 2*(k+1)=2*k+1+1 by omega,List.replicate_succ',List.replicate_succ']
 rw[eR] at o3
 have ne1:∀ (c:Array Value) (t:TypeId),t≠46->∀ b,pk b=some (.cells c t (0,0))->b≠sb:=fun c t ht b hb e=>by
  subst e
  rw[hrow] at hb
  unfold objQ at hb
  cases hb
  exact ht rfl
 refine ⟨padd pk1 sb (objQ m (obs++[ob])),o3,by simp[h.klen];omega,fun w hw=>h.fl w (fun b o hlt hb=>hw b o hlt (old2 b o (by have:=h.low;omega) hb)),old2 _ _ (ne1 _ _ (by decide) _ h.var) h.var,old2 _ _ (ne1 _ _ (by decide) _ h.many) h.many,h.low,obs++[ob],by simp[hl],D6 _ _ _,fun o b hb=>?_⟩
 ·rw[List.getElem?_append] at hb
  split at hb
  ·rename_i hlt
   obtain ⟨kp,cw',cv',q1,q2,q3,q4⟩:=hobs o b hb
   refine ⟨kp,cw',cv',old2 _ _ (ne1 _ _ (by decide) _ q1) q1,old2 _ _ (ne1 _ _ (by decide) _ q2) q2,?_,?_⟩
   ·rw[List.append_assoc,List.getElem?_append_left (List.getElem?_eq_some_iff.1 q3).1];exact q3
   ·rw[List.append_assoc,List.getElem?_append_left (List.getElem?_eq_some_iff.1 q4).1];exact q4
  ·rename_i hge
   have e0:o=obs.length:=by
    have:=(List.getElem?_eq_some_iff.1 hb).1
    simp at this
    omega
   subst e0
   simp at hb
   subst hb
   refine ⟨u.heap.size,cw,cv,?_,?_,?_,?_⟩
   ·rw[Cp (by omega)];exact D6 _ _ _
   ·rw[Cp (by omega)]
    show padd (padd pk _ _) _ _ _=_
    rw[Cp (by omega)];exact D6 _ _ _
   ·rw[List.append_assoc,List.getElem?_append_right (by rw[h.klen,hl];exact Nat.le_refl _),h.klen,hl];simp
   ·rw[List.append_assoc,List.getElem?_append_right (by rw[h.klen,hl];omega),h.klen,hl,show 2*k+1 - 2*k=1 by omega];rfl
theorem y3_wp {S:TS}{v:World}{a:Act}{n cap mb m:Nat}{p:Option Addr}(h1:m≤1000) (hmb:v.cell? ⟨mb,0,none⟩=some (I m)) (hA:Fl 40 [(0,Pt S.wb 0),(2,.slice p n cap),(4,Pt mb 0),(6,.slice none 0 0),(7,I 0)] a):y3.wp Tryd.prog (fun e a w'=>e=.normal∧Fl 40 [(0,Pt S.wb 0),(2,.slice p n cap),(4,Pt mb 0),(6,.slice none 0 0),(7,I 0),(9,Pt (v.heap.size+1) 0)] a∧w'.heap=((v.alloc (objQ m [])).alloc (.cells #[.slice (some ⟨v.heap.size,0,none⟩) m m] 68)).heap∧w'.os=v.os∧w'.output=v.output) a v:=by
 have hmk:=make_onces m (by omega)
 rw[made_rowQ] at hmk
 obtain ⟨hsz,hd,hpp⟩:=hA
 obtain ⟨u,rfl,hg⟩:=litN hsz hd
 have u0:=(hg 0).symm.trans (hpp (0,Pt S.wb 0) (by simp))
 have u2:=(hg 2).symm.trans (hpp (2,.slice p n cap) (by simp))
 have u4:=(hg 4).symm.trans (hpp (4,Pt mb 0) (by simp))
 have u6:=(hg 6).symm.trans (hpp (6,.slice none 0 0) (by simp))
 have u7:=(hg 7).symm.trans (hpp (7,I 0) (by simp))
 clear hg hpp hsz hd
 unfold y3 yB Tryd.f9 seq1 seq2
 simp only[Option.getD_some,lits,Nat.reduceAdd,u0,u2,u4,u6,u7]
 clear u0 u2 u4 u6 u7
 go_wp2_with fail
 exact ⟨⟨rfl,rfl,by
  intro p hp
  simp only[List.mem_cons,List.not_mem_nil,or_false] at hp
  rcases hp with rfl|rfl|rfl|rfl|rfl|rfl<;>rfl⟩,rfl,rfl⟩
theorem y4_wp {S:TS}{v u:World}{a:Act}{n cap mb xb sb m:Nat}{p:Option Addr}{pk:Nat->Option Obj}{S1:TS}{K:List (Nat×Int)}(h1:m≤1000) (hI:OI v S m 0 sb xb mb pk S1 K u) (hA:Fl 40 [(0,Pt S.wb 0),(2,.slice p n cap),(4,Pt mb 0),(6,.slice none 0 0),(7,I 0),(9,Pt xb 0)] a):y4.wp Tryd.prog (fun e a w'=>e=.normal∧Fl 40 [(0,Pt S.wb 0),(2,.slice p n cap),(4,Pt mb 0),(6,.slice none 0 0),(7,I 0),(9,Pt xb 0)] a∧∃ pk S1 K,OI v S m m sb xb mb pk S1 K w') a u:=by
 have HI:Hid (OI v S m 0 sb xb mb pk S1 K u):=⟨hI⟩
 have c1:u.cell? ⟨xb,0,none⟩=some (.slice (some ⟨sb,0,none⟩) m m):=cell_of (hI.objs.has _ _ hI.var) rfl
 clear hI
 obtain ⟨hsz,hd,hpp⟩:=hA
 obtain ⟨u,rfl,hg⟩:=litN hsz hd
 have u0:=(hg 0).symm.trans (hpp (0,Pt S.wb 0) (by simp))
 have u2:=(hg 2).symm.trans (hpp (2,.slice p n cap) (by simp))
 have u4:=(hg 4).symm.trans (hpp (4,Pt mb 0) (by simp))
 have u6:=(hg 6).symm.trans (hpp (6,.slice none 0 0) (by simp))
 have u7:=(hg 7).symm.trans (hpp (7,I 0) (by simp))
 have u9:=(hg 9).symm.trans (hpp (9,Pt xb 0) (by simp))
 clear hg hpp hsz hd
 unfold y4 yB Tryd.f9 seq1 seq2
 simp only[Option.getD_some,lits,Nat.reduceAdd,u0,u2,u4,u6,u7,u9]
 clear u0 u2 u4 u6 u7 u9
 go_wp2_with fail
 go_loopw [27] (fun i u'=>∃ (k:Nat) (pk:Nat->Option Obj) (S1:TS) (K:List (Nat×Int)),k≤m∧i=.int .i64 k∧OI v S m k sb xb mb pk S1 K u') (fun i _=>m - (intOf i).toNat)
 case atStart=>exact ⟨0,pk,S1,K,Nat.zero_le _,rfl,HI.out⟩
 case round =>
  obtain ⟨k,pk2,S2,K2,hk,rfl,hO⟩:=hrel
  have HOB:Hid (OI v S m k sb xb mb pk2 S2 K2 wr):=⟨hO⟩
  by_cases hlt:k<m
  ·have c1:wr.cell? ⟨xb,0,none⟩=some (.slice (some ⟨sb,0,none⟩) m m):=cell_of (hO.objs.has _ _ hO.var) rfl
   have hks:(k:Int)<(m:Int):=by omega
   have hne:sb≠xb:=fun e=>by
    have h1:=hO.var
    obtain ⟨obs,_,h2,_⟩:=hO.row
    rw[←e,h2] at h1
    have h3:(46:Nat)=68:=by
     have:=Option.some.inj h1
     unfold objQ at this
     injection this
    exact absurd h3 (by decide)
   have hx:∀ (ww:World) (val:Value),(ww.setCell ⟨sb,k,none⟩ val).cell? ⟨xb,0,none⟩=ww.cell? ⟨xb,0,none⟩:=fun ww val=>World.cell?_setCell_far _ _ _ _ hne
   clear hO
   go_wp2_with fail
   go_region_held3 (fun u=>u.cell? ⟨xb,0,none⟩=some (.slice (some ⟨sb,0,none⟩) m m))
    (first|assumption|(simp[go_sem, *];done))
    (first
      |(go_at_call 16;refine (once_new (HOB.out.same (u':=wr.drew) rfl rfl rfl).objs (by rw[List.length_replicate];omega)).mono ?_;rintro e w1 ⟨cw,cv,ob,rfl,hs1,hs2,S3,o2⟩
        have HO2:Hid (∃ pk',OI v S m (k+1) sb xb mb pk' S3 (K2++[(cw,0)]++[(cv,0)]) (w1.setCell ⟨sb,k,none⟩ (Pt ob 0))):=⟨(HOB.out.same (u':=wr.drew) rfl rfl rfl).next hlt hs1 o2⟩
        have lt:∀ b o,pk2 b=some o->b<wr.heap.size:=fun b o hb=>(Array.getElem?_eq_some_iff.1 (HOB.out.objs.has b o hb)).1
        have oldv:∀ b o,pk2 b=some o->w1.heap[b]? = some o:=fun b o hb=>o2.has b o (by
         have:=lt b o hb
         have hs1:wr.heap.size<ob:=hs1
         rw[Cp (by omega),Cp (by show b≠wr.heap.size;omega)]
         exact hb)
        have c2:w1.cell? ⟨xb,0,none⟩=some (.slice (some ⟨sb,0,none⟩) m m):=cell_of (oldv _ _ HOB.out.var) rfl
        obtain ⟨obs,ol,orow,-⟩:=HOB.out.row
        obtain ⟨c3,c4⟩:=objQ_at (oldv _ _ orow) ol hlt
        clear o2 lt oldv hs1 hs2 obs ol orow))
   go_wp2_with fail
   go_roundw
   case rel =>
    obtain ⟨pk',hn⟩:=HO2.out
    exact ⟨k+1,pk',S3,_,by omega,by go_num,hn⟩
   case measure=>simp[intOf];omega
  ·have:k=m:=by omega
   subst this
   clear hO
   go_wp2_with fail
   exact ⟨⟨rfl,rfl,by
    intro p hp
    simp only[List.mem_cons,List.not_mem_nil,or_false] at hp
    rcases hp with rfl|rfl|rfl|rfl|rfl|rfl<;>rfl⟩,pk2,S2,K2,HOB.out⟩
def QO (m:Nat) (caps:Array Value) (pk:Nat->Option Obj) (K:List (Nat×Int)):Prop :=
 0<m∧m≤1000∧∃ xb mb sb,caps=#[Pt xb 0,Pt mb 0]∧(∀ w,Has pk w->R1.Flds w)∧pk xb=some (.cells #[.slice (some ⟨sb,0,none⟩) m m] 68 (0,0))∧pk mb=some (.cells #[I m] 3 (0,0)) ∧
   ∃ obs:List Nat,obs.length=m∧pk sb=some (objQ m obs)∧∀ o b,obs[o]? = some b->∃ kp cw cv,pk b=some (.cells #[Pt kp 0] 79 (0,0))∧pk kp=some (.cells #[Pt cw 0,Pt cv 0] 103 (0,0))∧K[2*o]? = some (cw,0)∧K[2*o+1]? = some (cv,0)
theorem mineO (m:Nat) (caps:Array Value) (pk:Nat->Option Obj) (K:List (Nat×Int)) (h:QO m caps pk K) (X:Fix (mcO m)) (hf:X.fid=25) (hc:X.caps=caps) (hp:X.pk=pk) (hk:X.kb=K.map (·.1)):(pkgO m).Mine X:=by
 obtain ⟨h0,h1,xb,mb,sb,rfl,hfl,hx,hmb,obs,hl,hrow,hobs⟩:=h
 subst hp
 refine ⟨xb,mb,sb,hc,h0,h1,fun v hv=>⟨hfl v hv,cell_of (hv _ _ hx) rfl,cell_of (hv _ _ hmb) rfl⟩,fun o ho=>?_⟩
 obtain ⟨b,hb⟩:∃ b,obs[o]? = some b:=⟨_,List.getElem?_eq_getElem (by omega)⟩
 obtain ⟨kp,cw,cv,q1,q2,q3,q4⟩:=hobs o b hb
 refine ⟨b,kp,cw,cv,by rw[hk,List.getElem?_map,q3];rfl,by rw[hk,List.getElem?_map,q4];rfl,fun v hv=>⟨cell_of (hv _ _ hrow) ?_,cell_of (hv _ _ q1) rfl,cell_of (hv _ _ q2) rfl,cell_of (hv _ _ q2) rfl⟩⟩
 unfold rowQ
 simp[ho,hb]
theorem kokO (m:Nat) (caps:Array Value) (pk:Nat->Option Obj) (K:List (Nat×Int)) (h:QO m caps pk K):KOk (mcO m) K:=fun j p _=>trivial
theorem oplay_no {Ch:Nat->Prop}{Stop:Goroutine->World->Prop}{main:Bool}{S:TS}{v w:World}(m:Int) (p:Option Addr) (n cap:Nat) (pc:Nat->Option Addr) (ln cp:Nat->Nat) (hs:∀ k,k<n->∃ sb so,p=some ⟨sb,so,none⟩∧v.cell? ⟨sb,so+k,none⟩=some (.slice (pc k) (ln k) (cp k))) (hn1:n≤17592186043904) (hran:S.ran=false) (hm:Mem zn S [] v)
 {E:Int} (hRe:Refused n ln E∨((∀ k,k<n->ln k≤64)∧(0<n∧n≤8)∧(m<1∨1000<m)∧E=1)) (cs:List Frame) {bc:Frame} {ac:Act} {ops:Array Oper} {q:Nat} {rest:List Nat} {oc:Oper} {k:List Item} (hoc:ops[q]? = some oc)
 (hvw:Rel zn v w) (hn:Ah Ch v)
 (hk:∀ v' w',Rel zn v' w'->Ah Ch v'->Grows v v'->GoesI Tryd.prog main (DT (ScZ zn) Ch) Stop (G (bc.at (ac.put oc.dst (.tuple #[.slice none 0 0,I E])) (.inRegion ops rest :: k)) cs) w') :
 GoesI Tryd.prog main (DT (ScZ zn) Ch) Stop (G ((base 9).at { tmps:=#[Pt S.wb 0,I m,.slice p n cap]++Array.replicate 37 undef,defers:=[] } [.code yB]) (bc.at ac (.inRegion ops (q :: rest) :: k) :: cs)) w:=by
 have hA0:Fl 40 [(0,Pt S.wb 0),(1,I m),(2,.slice p n cap)] { tmps:=#[Pt S.wb 0,I m,.slice p n cap]++Array.replicate 37 undef,defers:=[] }:=by
  simp only[Array.replicate_succ,Array.replicate_zero,List.push_toArray,List.append_toArray,List.nil_append,List.cons_append]
  exact ⟨rfl,rfl,by
   intro p hp
   simp only[List.mem_cons,List.not_mem_nil,or_false] at hp
   rcases hp with rfl|rfl|rfl<;>rfl⟩
 rw[eYB]
 refine Ac (Aa _ _) ?_
 refine Am (z:=zn) (wr:=true) (L:=LV) (I:=Ah Ch) hE Gy Al (fun v v' w w' es hi hr ho he=>Az v v' w w' es hi hr ho he) hvw fine_y0 hA0.2.1 (by simp[base]) hn (Q:=fun a w'=>Fl 40 [(0,Pt S.wb 0),(2,.slice p n cap),(4,Pt v.heap.size 0),(6,.slice none 0 0),(7,I 0)] a∧w'.heap=v.heap.push (.cells #[I m] 3)∧w'.os=v.os∧w'.output=v.output) (fun τ=>y0_wp (v:=Ap v τ 0) hA0) ?_
 rintro a0 v0 w0 ⟨hB0,e0,o0,u0⟩ hr0 hn0 -
 have g0:Grows v v0:=⟨by rw[e0];simp,fun b hb=>by rw[e0,Array.getElem?_push,if_neg (by omega)],o0,u0⟩
 have m0:Mem zn S [] v0:=(hm.grows g0).mem
 have hmb:v0.cell? ⟨v.heap.size,0,none⟩=some (I m):=by
  have:v0.heap[v.heap.size]? = some (.cells #[I m] 3):=by rw[e0];exact Array.getElem?_push_size
  exact cell_of this rfl
 have hs0:∀ τ,∀ k,k<n->∃ sb so,p=some ⟨sb,so,none⟩∧(Ap v0 τ 0).cell? ⟨sb,so+k,none⟩=some (.slice (pc k) (ln k) (cp k)):=fun τ k hk=>by
  obtain ⟨sb,so,h1,h2⟩:=hs k hk
  exact ⟨sb,so,h1,g0.cell h2⟩
 refine Ac (Aa _ _) ?_
 rcases hRe with hRe|⟨hE1,hE2,hE3,rfl⟩
 ·refine Fy (c:=y1) (f:=9) (fn:=Tryd.f9) (L:=LV) hE Gy hr0 hn0 Tryd.func9 fine_y1 hB0.2.1 hoc (R:=fun r w'=>r=.tuple #[.slice none 0 0,I E]∧w'.heap=v0.heap∧w'.os=v0.os∧w'.output=v0.output) (fun τ=>y1_no (v:=Ap v0 τ 0) (m0.grows (v':=Ap v0 τ 0) ⟨Nat.le_refl _,fun _ _=>rfl,rfl,rfl⟩).mem.rep pc ln cp (hs0 τ) hn1 hran hRe hB0) (fun r v' w' hR hr' hn'=>?_)
  obtain ⟨rfl,h1,h2,h3⟩:=hR
  exact hk v' w' hr' hn' (D9 g0 ⟨by rw[h1];exact Nat.le_refl _,fun b _=>by rw[h1],h2,h3⟩)
 ·refine Am (z:=zn) (wr:=true) (L:=LV) (I:=Ah Ch) hE Gy Al (fun v v' w w' es hi hr ho he=>Az v v' w w' es hi hr ho he) hr0 fine_y1 hB0.2.1 (by simp[base]) hn0 (Q:=fun a w'=>Fl 40 [(0,Pt S.wb 0),(2,.slice p n cap),(4,Pt v.heap.size 0),(6,.slice none 0 0),(7,I 0)] a∧w'.heap=v0.heap∧w'.os=v0.os∧w'.output=v0.output) (fun τ=>y1_yes (v:=Ap v0 τ 0) (m0.grows (v':=Ap v0 τ 0) ⟨Nat.le_refl _,fun _ _=>rfl,rfl,rfl⟩).mem.rep pc ln cp (hs0 τ) hE1 hE2 hran hB0) ?_
  rintro a1 v1 w1 ⟨hB1,e1,o1,u1⟩ hr1 hn1 -
  have g1:Grows v0 v1:=⟨by rw[e1];exact Nat.le_refl _,fun b _=>by rw[e1],o1,u1⟩
  refine Ac (Aa _ _) ?_
  refine Fy (c:=y2) (f:=9) (fn:=Tryd.f9) (L:=LV) hE Gy hr1 hn1 Tryd.func9 fine_y2 hB1.2.1 hoc (R:=fun r w'=>r=.tuple #[.slice none 0 0,I 1]∧w'.heap=v1.heap∧w'.os=v1.os∧w'.output=v1.output) (fun τ=>hE3.elim (fun h=>y2_no1 (v:=Ap v1 τ 0) h (g1.cell hmb) hB1) (fun h=>y2_no2 (v:=Ap v1 τ 0) h (g1.cell hmb) hB1)) (fun r v' w' hR hr' hn'=>?_)
  obtain ⟨rfl,h1,h2,h3⟩:=hR
  exact hk v' w' hr' hn' (D9 (D9 g0 g1) ⟨by rw[h1];exact Nat.le_refl _,fun b _=>by rw[h1],h2,h3⟩)
theorem oplay_in {Ch:Nat->Prop}{Stop:Goroutine->World->Prop}{main:Bool}{S:TS}{v w:World}(m:Nat) (h0:0<m) (h1:m≤1000) {pk0:Nat->Option Obj}(hfl:∀ w,Has pk0 w->R1.Flds w) (hO:Objs v S [] pk0 S [] v) (hlt:∀ b,pk0 b≠none->b<v.heap.size) (p:Option Addr) (n cap:Nat) (hn8:0<n∧n≤8) (hran:S.ran=false) (pc:Nat->Option Addr) (ln cp:Nat->Nat) (hs:∀ k,k<n->∃ sb so,p=some ⟨sb,so,none⟩∧v.cell? ⟨sb,so+k,none⟩=some (.slice (pc k) (ln k) (cp k))) (hln:∀ k,k<n->ln k≤64)
 (cs:List Frame) {bc:Frame} {ac:Act} {ops:Array Oper} {q:Nat} {rest:List Nat} {oc:Oper} {k:List Item} (hoc:ops[q]? = some oc) (hvw:Rel zn v w) (hn:Ah Ch v)
 (hk:∀ v' w' (bd:Frame) (ad:Act) (od:Array Oper) (qd:Nat) (rd:List Nat) (oe:Oper) (kd:List Item) (caps:Array Value) (pk:Nat->Option Obj) (S1:TS) (K:List (Nat×Int)),Rel zn v' w'->Ah Ch v'->Objs v S (List.replicate (2*m) 0) pk S1 K v'->QO m caps pk K->od[qd]? = some oe ->
   (∀ (Ch:Nat->Prop) (Stop:Goroutine->World->Prop) (w:World) (x:Value),(∀ d,GoesI Tryd.prog main (DT (ScZ zn) Ch) Stop (G (bc.at (ac.put oc.dst (.tuple #[x,I 0])) (.inRegion ops rest :: k)) cs) (w.at d))->GoesI Tryd.prog main (DT (ScZ zn) Ch) Stop (G (bd.at (ad.put oe.dst x) (.inRegion od rd :: kd)) (bc.at ac (.inRegion ops (q :: rest) :: k) :: cs)) w) ->
   GoesI Tryd.prog main (DT (ScZ zn) Ch) Stop (G ((base 24).at { tmps:=#[Pt S.wb 0,.slice p n cap,.func (.func 25) ((mcO m).bn caps) ((mcO m).fr caps)]++Array.replicate 36 undef,defers:=[] } [.code B20]) (bd.at ad (.inRegion od (qd :: rd) :: kd) :: bc.at ac (.inRegion ops (q :: rest) :: k) :: cs)) w') :
 GoesI Tryd.prog main (DT (ScZ zn) Ch) Stop (G ((base 9).at { tmps:=#[Pt S.wb 0,I m,.slice p n cap]++Array.replicate 37 undef,defers:=[] } [.code yB]) (bc.at ac (.inRegion ops (q :: rest) :: k) :: cs)) w:=by
 have hm:=hO.cel.mem
 have hA0:Fl 40 [(0,Pt S.wb 0),(1,I m),(2,.slice p n cap)] { tmps:=#[Pt S.wb 0,I m,.slice p n cap]++Array.replicate 37 undef,defers:=[] }:=by
  simp only[Array.replicate_succ,Array.replicate_zero,List.push_toArray,List.append_toArray,List.nil_append,List.cons_append]
  exact ⟨rfl,rfl,by
   intro p hp
   simp only[List.mem_cons,List.not_mem_nil,or_false] at hp
   rcases hp with rfl|rfl|rfl<;>rfl⟩
 rw[eYB]
 refine Ac (Aa _ _) ?_
 refine Am (z:=zn) (wr:=true) (L:=LV) (I:=Ah Ch) hE Gy Al (fun v v' w w' es hi hr ho he=>Az v v' w w' es hi hr ho he) hvw fine_y0 hA0.2.1 (by simp[base]) hn (Q:=fun a w'=>Fl 40 [(0,Pt S.wb 0),(2,.slice p n cap),(4,Pt v.heap.size 0),(6,.slice none 0 0),(7,I 0)] a∧w'.heap=v.heap.push (.cells #[I m] 3)∧w'.os=v.os∧w'.output=v.output) (fun τ=>y0_wp (v:=Ap v τ 0) hA0) ?_
 rintro a0 v0 w0 ⟨hB0,e0,o0,u0⟩ hr0 hn0 -
 have g0:Grows v v0:=⟨by rw[e0];simp,fun b hb=>by rw[e0,Array.getElem?_push,if_neg (by omega)],o0,u0⟩
 have m0:Mem zn S [] v0:=(hm.grows g0).mem
 have hmb:v0.cell? ⟨v.heap.size,0,none⟩=some (I m):=by
  have:v0.heap[v.heap.size]? = some (.cells #[I m] 3):=by rw[e0];exact Array.getElem?_push_size
  exact cell_of this rfl
 have hs0:∀ τ,∀ k,k<n->∃ sb so,p=some ⟨sb,so,none⟩∧(Ap v0 τ 0).cell? ⟨sb,so+k,none⟩=some (.slice (pc k) (ln k) (cp k)):=fun τ k hk=>by
  obtain ⟨sb,so,h1,h2⟩:=hs k hk
  exact ⟨sb,so,h1,g0.cell h2⟩
 refine Ac (Aa _ _) ?_
 refine Am (z:=zn) (wr:=true) (L:=LV) (I:=Ah Ch) hE Gy Al (fun v v' w w' es hi hr ho he=>Az v v' w w' es hi hr ho he) hr0 fine_y1 hB0.2.1 (by simp[base]) hn0 (Q:=fun a w'=>Fl 40 [(0,Pt S.wb 0),(2,.slice p n cap),(4,Pt v.heap.size 0),(6,.slice none 0 0),(7,I 0)] a∧w'.heap=v0.heap∧w'.os=v0.os∧w'.output=v0.output) (fun τ=>y1_yes (v:=Ap v0 τ 0) (m0.grows (v':=Ap v0 τ 0) ⟨Nat.le_refl _,fun _ _=>rfl,rfl,rfl⟩).mem.rep pc ln cp (hs0 τ) hln hn8 hran hB0) ?_
 rintro a1 v1 w1 ⟨hB1,e1,o1,u1⟩ hr1 hn1 -
 have g1:Grows v0 v1:=⟨by rw[e1];exact Nat.le_refl _,fun b _=>by rw[e1],o1,u1⟩
 refine Ac (Aa _ _) ?_
 refine Am (z:=zn) (wr:=true) (L:=LV) (I:=Ah Ch) hE Gy Al (fun v v' w w' es hi hr ho he=>Az v v' w w' es hi hr ho he) hr1 fine_y2 hB1.2.1 (by simp[base]) hn1 (Q:=fun a w'=>Fl 40 [(0,Pt S.wb 0),(2,.slice p n cap),(4,Pt v.heap.size 0),(6,.slice none 0 0),(7,I 0)] a∧w'.heap=v1.heap∧w'.os=v1.os∧w'.output=v1.output) (fun τ=>y2_yes (v:=Ap v1 τ 0) (by omega) (by omega) (g1.cell hmb) hB1) ?_
 rintro a2 v2 w2 ⟨hB2,e2,o2,u2⟩ hr2 hn2 -
 have g2:Grows v1 v2:=⟨by rw[e2];exact Nat.le_refl _,fun b _=>by rw[e2],o2,u2⟩
 refine Ac (Aa _ _) ?_
 refine Am (z:=zn) (wr:=true) (L:=LV) (I:=Ah Ch) hE Gy Al (fun v v' w w' es hi hr ho he=>Az v v' w w' es hi hr ho he) hr2 fine_y3 hB2.2.1 (by simp[base]) hn2 (Q:=fun a w'=>Fl 40 [(0,Pt S.wb 0),(2,.slice p n cap),(4,Pt v.heap.size 0),(6,.slice none 0 0),(7,I 0),(9,Pt (v2.heap.size+1) 0)] a∧w'.heap=((v2.alloc (objQ m [])).alloc (.cells #[.slice (some ⟨v2.heap.size,0,none⟩) m m] 68)).heap∧w'.os=v2.os∧w'.output=v2.output) (fun τ=>y3_wp (v:=Ap v2 τ 0) h1 (g2.cell (g1.cell hmb)) hB2) ?_
 rintro a3 v3 w3 ⟨hB3,e3,o3,u3⟩ hr3 hn3 -
 have O0:=hO.push (u':=v0) (c:=#[I m]) (t:=3) e0 o0 u0
 have O2:=(O0.same e1 o1 u1).same e2 o2 u2
 have O3a:=O2.push (u':=v2.alloc (objQ m [])) (c:=(rowQ m []).toArray) (t:=46) rfl rfl rfl
 have O3:=(O3a.push (u':=(v2.alloc (objQ m [])).alloc (.cells #[.slice (some ⟨v2.heap.size,0,none⟩) m m] 68)) (c:=#[.slice (some ⟨v2.heap.size,0,none⟩) m m]) (t:=68) rfl rfl rfl).same (u':=v3) e3 o3 u3
 have hsz:(v2.alloc (objQ m [])).heap.size=v2.heap.size+1:=by simp
 rw[hsz] at O3
 have hs2:v2.heap.size=v.heap.size+1:=by rw[e2,e1,e0];simp
 have hI:OI v S m 0 v2.heap.size (v2.heap.size+1) v.heap.size (padd (padd (padd pk0 v.heap.size (.cells #[I m] 3)) v2.heap.size (.cells (rowQ m []).toArray 46)) (v2.heap.size+1) (.cells #[.slice (some ⟨v2.heap.size,0,none⟩) m m] 68)) S [] v3 :=
  ⟨O3,rfl,fun w hw=>hfl w (fun b o hb=>hw b o (hlt b (by rw[hb];simp)) (by have:=hlt b (by rw[hb];simp);rw[Cp (by omega),Cp (by omega),Cp (by omega)];exact hb)),D6 _ _ _,by rw[Cp (by omega),Cp (by omega)];exact D6 _ _ _,by omega,[],rfl,by rw[Cp (by omega)];exact D6 _ _ _,fun o b hb=>by simp at hb⟩
 refine Ac (Aa _ _) ?_
 refine Am (z:=zn) (wr:=true) (L:=LV) (I:=Ah Ch) hE Gy Al (fun v v' w w' es hi hr ho he=>Az v v' w w' es hi hr ho he) hr3 fine_y4 hB3.2.1 (by simp[base]) hn3 (Q:=fun a w'=>Fl 40 [(0,Pt S.wb 0),(2,.slice p n cap),(4,Pt v.heap.size 0),(6,.slice none 0 0),(7,I 0),(9,Pt (v2.heap.size+1) 0)] a∧∃ pk S1 K,OI v S m m v2.heap.size (v2.heap.size+1) v.heap.size pk S1 K w') (fun τ=>y4_wp h1 (hI.same (u':=Ap v3 τ 0) rfl rfl rfl) hB3) ?_
 rintro a4 v4 w4 ⟨hB4,pk,S1,K,hI4⟩ hr4 hn4 -
 have hset:=hI4.objs
 have hql:QO m #[Pt (v2.heap.size+1) 0,Pt v.heap.size 0] pk K:=⟨h0,h1,_,_,_,rfl,fun w hw=>hI4.fl w (fun b o _ hb=>hw b o hb),hI4.var,hI4.many,hI4.row⟩
 clear hI4 hI O3 O3a O2 O0 hr0 hr1 hr2 hr3 hn0 hn1 hn2 hn3 e0 e1 e2 e3 o0 o1 o2 o3 u0 u1 u2 u3 hvw hn hs hs0 hln m0 hO hlt hB0 hB1 hB2 hB3 hmb hm
 generalize v2.heap.size+1=xb at hB4 hql
 generalize v.heap.size=mb at hB4 hql
 have hA:=hB4
 clear hB4
 obtain ⟨hsz,hd,hpp⟩:=hA
 obtain ⟨u,rfl,hg⟩:=litN hsz hd
 have u0:=(hg 0).symm.trans (hpp (0,Pt S.wb 0) (by simp))
 have u2:=(hg 2).symm.trans (hpp (2,.slice p n cap) (by simp))
 have u4:=(hg 4).symm.trans (hpp (4,Pt mb 0) (by simp))
 have u6:=(hg 6).symm.trans (hpp (6,.slice none 0 0) (by simp))
 have u7:=(hg 7).symm.trans (hpp (7,I 0) (by simp))
 have u9:=(hg 9).symm.trans (hpp (9,Pt xb 0) (by simp))
 clear hg hpp hsz hd
 unfold yR yB Tryd.f9 seq2
 simp only[Option.getD_some,lits,Nat.reduceAdd,u0,u2,u4,u6,u7,u9]
 clear u0 u2 u4 u6 u7 u9
 refine Ac (Aa _ _) ?_
 refine Ae (Aa _ _) ?_
 simp only[List.size_toArray,List.length_cons,List.length_nil,Nat.reduceAdd,Nat.zero_add,List.range,List.range.loop]
 iterate 3
  (refine Af rfl rfl (by decide) (fun d K hK=>?_)
   go_simp
   refine hK _ _ ⟨Ak (fun e he=>?_),GoesI.at ?_ d⟩
   ·have hm:=mem_listed he
    simp[go_sem, *] at hm
    try exact ⟨_,_,hm⟩
    try (rcases hm with rfl|rfl<;>exact ⟨_,_,rfl⟩)
   clear hK K)
 refine Bj (f:=24) (fn:=Tryd.f24) (args:=#[Pt S.wb 0,.slice p n cap,.func (.func 25) #[] #[Pt xb 0,Pt mb 0]]) (Aa _ _) rfl rfl (by decide) rfl (by simp[Act.eval]) Tryd.func24 (by decide) rfl ?_
 refine hk v4 w4 _ _ _ _ _ _ _ _ _ _ _ hr4 hn4 hset hql rfl (fun Ch Stop w x hg=>?_)
 clear hk hset hr4 hn4 hql
 iterate 2
  (refine Af rfl rfl (by decide) (fun d K hK=>?_)
   go_simp
   refine hK _ _ ⟨Ak (fun e he=>?_),GoesI.at ?_ d⟩
   ·have hm:=mem_listed he
    simp[go_sem, *] at hm
    try exact ⟨_,_,hm⟩
    try (rcases hm with rfl|rfl<;>exact ⟨_,_,rfl⟩)
   clear hK K)
 refine Ab (Aa _ _) ?_
 refine GoesI.ctl rfl (fun _=>stepG_ret') (Aa _ _) ?_
 refine Ca (b:=base 9) (fn:=Tryd.f9) (v:=.tuple #[x,I 0]) rfl rfl Tryd.func9 (fun w=>?_) (fun w=>by simp[results,go_sem,Tryd.f9]) hoc (Aa _ _) ?_
 ·rw[results_tmp2 (t:=6) (u:=7) rfl]
  simp
 ·have:=hg w.drawn
  exact this
section
variable {S:TS}{n sb so cap:Nat}{pc:Nat->Option Addr}{ln cp rb:Nat->Nat}{cl:Nat->List Cl}
theorem oplay_all (m:Nat) (h0:0<m) (h1:m≤1000) {pk0:Nat->Option Obj}(hfl:∀ w,Has pk0 w->R1.Flds w) {cs:List Frame}{bc:Frame}{ac:Act}{ops:Array Oper}{q0:Nat}{rest:List Nat}{oc:Oper}{k0:List Item}(hoc:ops[q0]? = some oc) {w:World}{T:Trace}{gs:Array Goroutine}{q:Nat->Nat}(sl:Option (Nat×Nat)) (NT:Nat) (A:Alone gs w T q)
 (hg:gs[0]? = some (G ((base 9).at { tmps:=#[Pt S.wb 0,I m,.slice (some ⟨sb,so,none⟩) n cap]++Array.replicate 37 undef,defers:=[] } [.code yB]) (bc.at ac (.inRegion ops (q0 :: rest) :: k0) :: cs)))
 (hm:Mem zn S [] w) (hthr:S.thr=[]) (hran:S.ran=false) (hch:S.chg=[]) (hbk:Open w S.bk) (hpk:Has pk0 w) (hpf:∀ b,pk0 b≠none->¬ Own S [] b∧b≠S.bk) (hpr:∀ b o,pk0 b=some o->∃ c e f,o=.cells c e f) (t:Asked w S n sb so pc ln cp rb cl) (hn8:0<n∧n≤8)
 (hlen:∀ caps pk N K,S.n+2*lens (scrs (mcO m) 25 caps pk N n K pc ln cp rb cl)≤1000000) (hsl:S.sched.length≤4611686018427387904) (hsc:∀ x∈S.sched,-9223372036854775808≤x∧x<9223372036854775808) (l0:Nat->Ph)
 (hturn:∀ (caps:Array Value) (pk:Nat->Option Obj) (N:Nat) (cv:Value) (K:List (Nat×Int)),K.map (·.2)=List.replicate (2*m) 0->∀ S1 l1,Hires (mcO m) 0 (scrs (mcO m) 25 caps pk N n K pc ln cp rb cl) (nv { Gp S cv (List.replicate (2*m) (0:Int)).length with ran:=true }) l0 S1 l1->∃ mm p',mm≤NT∧Turns (mcO m) mm ⟨S1,K,l1⟩ p'∧p'.S.n*40≤140737488355328) :
 ∃ (N':Nat) (gs':Array Goroutine) (w':World) (sl':Option (Nat×Nat)) (T':Trace) (q':Nat->Nat) (caps:Array Value) (pk:Nat->Option Obj) (N:Nat) (cv:Value) (K:List (Nat×Int)) (S':TS) (S1:TS) (l1:Nat->Ph) (mm:Nat) (p':PSt),
   runNT Tryd.prog N' (crowd gs w sl) T=(.next (crowd gs' w' sl'),T')∧gs'.size=gs.size+n∧gs'[0]? = some (G (bc.at (ac.put oc.dst (.tuple #[.slice (some ⟨N+1,0,none⟩) n n,I 0])) (.inRegion ops rest :: k0)) cs) ∧
   Alone gs' w' T' q'∧K.map (·.2)=List.replicate (2*m) 0∧nv S'=p'.S∧Hires (mcO m) 0 (scrs (mcO m) 25 caps pk N n K pc ln cp rb cl) (nv { Gp S cv (List.replicate (2*m) (0:Int)).length with ran:=true }) l0 S1 l1∧Turns (mcO m) mm ⟨S1,K,l1⟩ p'∧GOut w S n ln N S' p'.K p'.l w':=by
 refine gplay_all (xs:=List.replicate (2*m) 0) (cap:=cap) (q0:=q0) (pkgO m) (mineO m) (kokO m) sl NT A hg ?_ hm hthr hran hbk t hn8 hlen hsl hsc l0 hturn
 exact oplay_in m h0 h1 hfl (Objs.startG (pk:=pk0) hm hch hpk hpf hpr) (fun b hb=>by obtain ⟨o,ho⟩:=Option.ne_none_iff_exists'.1 hb;exact (Array.getElem?_eq_some_iff.1 (hpk b o ho)).1) (some ⟨sb,so,none⟩) n cap hn8 hran pc ln cp (fun k hk=>⟨sb,so,rfl,t.row k hk⟩) (fun k hk=>(t.len k hk).2) cs hoc (Rel.refl w) (fun c hc=>hc.elim)
  (fun v' w' bd ad od qd rd oe kd caps pk S1 K hr hn ho hq hoe hback=>GoesI.stop fun d=>⟨bd,ad,od,qd,rd,oe,kd,caps,pk,S1,K,ho.same hr.eq hr.os hr.output,hq,hoe,hback,rfl⟩)
end
end Go.Proofs.YtaofjdoielmobaaDoor.Gen
