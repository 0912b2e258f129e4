/- OnceOnce, part 8 of 26: GDrive6, GServe, GFlow, GBirth, GDrive7, GDrive8. -/
import Derived.Test.YtfjjoohflcchnaaDoorOnceOnce01
import Derived.Test.YtfjjoohflcchnaaDoorOnceOnce05
import Derived.Test.YtfjjoohflcchnaaDoorOnceOnce06
import Derived.Test.YtfjjoohflcchnaaDoorOnceOnce07
set_option linter.unusedSimpArgs false
set_option linter.unusedVariables false
set_option maxHeartbeats 4000000
set_option maxRecDepth 100000
noncomputable section
namespace Go.Proofs.YtfjjoohflcchnaaDoor.Gen
open Go Go.Lift Go.Conc Go.RowKit
open Go.ConcN (upd upd_same upd_ne)
variable {mc:Mc}
section
variable {k:Nat}{X:Nat->Fix mc}{l:Nat->Ph}{E:Nat->Nat->Prop}{M:Nat->Nat->Option Obj}{Mm:Keep}{z z':Nat->Option Nat}{cont cont':Addr->Value}{Ch Ch':Nat->Prop}{S S':TS}{K K':List (Nat×Int)}{v v':World}{gsz gsz':Nat}
theorem has_move {m:Nat->Option Obj}(hkeep:∀ b,b<v.heap.size->¬ Own S K b->v'.heap[b]? = v.heap[b]?) (hown:∀ b,Own S' K' b->Own S K b∨v.heap.size<=b) (hM:Has m v) (hfar:∀ b,m b≠none->¬ Own S K b):Has m v'∧∀ b,m b≠none->¬ Own S' K' b:=by
 refine ⟨λb o hb=>?_,λb hb ho=>?_⟩
 .have hne:m b≠none:=by rw[hb];simp
  rw[hkeep b (hM.lt hne) (hfar b hne)];exact hM b o hb
 .rcases hown b ho with h1|h1
  exact hfar b hb h1;have:=hM.lt hb;omega
theorem Crew.move (h:Crew k X l E M Mm z cont Ch S K v gsz) (hkeep:∀ b,b<v.heap.size->¬ Own S K b->v'.heap[b]? = v.heap[b]?) (hown:∀ b,Own S' K b->Own S K b∨v.heap.size<=b)
 (hthr:∀ i,i<k->S'.thr[i]? = S.thr[i]?) (hlen:k<=S'.thr.length) (hwb:S'.wb=S.wb) (hbk:S'.bk=S.bk) (hgs:gsz<=gsz')
 (hz:∀ b n,z b=some n->z' b=some n∧cont' ⟨b,n,none⟩=cont ⟨b,n,none⟩) (hch:∀ c,Ch c->Ch' c) (hzc:∀ c,Ch' c->z' c=none) (hopn:∀ c,Ch' c->Open v' c) (hnc:∀ c,Ch' c->Ch c∨v.heap.size<=c) (hio:v'.os=v.os∧v'.output=v.output):Crew k X l E M Mm z' cont' Ch' S' K v' gsz':=by
 refine ⟨hlen,h.ok,λi hi=>?_,h.hinj,h.ginj,λi hi=>by rw[hbk];exact h.gbk i hi,λi hi=>Qp (h.hlt i hi) hgs,λi hi=>?_,?_,hzc,hopn,λi hi=>?_,h.apart,?_⟩
 .obtain ⟨t,h1,h2⟩:=h.thr i hi
  exact ⟨t,by rw[hthr i hi];exact h1,h2⟩
 .have a:=h.zs i hi
  have b:=hz _ _ a.1;exact ⟨b.1,b.2.trans a.2.1,hch _ a.2.2⟩
 .rw[hwb,hbk]
  have a:=h.z0;have b:=hz _ _ a.1;exact ⟨b.1,b.2.trans a.2.1,hch _ a.2.2⟩
 .have:=h.sees i hi
  exact ⟨this.1,has_move hkeep hown this.2.1 this.2.2⟩
 .have:=has_move hkeep hown h.mine.1 h.mine.2.1
  exact ⟨this.1,this.2,λb hb hc=>(hnc b hc).elim (h.mine.2.2.1 b hb) (λhle=>by have:=h.mine.1.lt hb;omega),h.mine.2.2.2.1,hio.1.trans h.mine.2.2.2.2.1,hio.2.trans h.mine.2.2.2.2.2⟩
theorem Crew.add (h:Crew k X l E M Mm z cont Ch S K v gsz) {Y:Fix mc}(he:EvoP (λb=>b=Y.ab∨False) z S K v S' K' v') (hst:Sta k S S') {l':Ph}{E':Nat->Prop}{M':Nat->Option Obj}{Mm':Keep}
 (hfit:∃ t',S'.thr[k]? = some t'∧FitsN l' t') (hs:Sees Y E' M' l'.ans) (hM':Has M' v') (hfar:∀ b,M' b≠none->¬ Own S' K' b) (hnew:∀ b,E' b->False∨v.heap.size<=b)
 (hok:Y.Ok∧Y.i=k∧Kb Y K) (hkk:KOk mc K') (htY:∃ t,S.thr[k]? = some t∧t.tb=Y.tb∧t.gc=Y.gc) (hm:Mem z S K v)
 (hh:∀ j,j<k->(X j).h≠Y.h) (hgc:∀ j,j<k->(X j).gc≠Y.gc) (hgbk:Y.gc≠S.bk) (hlt:Y.h<gsz) (hzY:z Y.tb=some 2∧cont ⟨Y.tb,2,none⟩=.chan (some Y.gc)∧Ch Y.gc)
 (habM:∀ j,j<k->∀ b,M j b≠none->b≠Y.ab) (habm:∀ b,Mm'.M b≠none->b≠Y.ab) (hMm:∀ b o,Mm'.M b=some o->Mm.M b=some o) (hYp:∀ b,Y.Pr b->v.heap.size<=b∨Mm.M b≠none) (hio:Mm'.os=Mm.os∧Mm'.out=Mm.out):
 Crew (k+1) (upd X k Y) (upd l k l') (upd E k E') (upd M k M') Mm' z cont Ch S' K' v' gsz:=by
 have hX:∀ j,j<k->upd X k Y j=X j:=λj hj=>upd_ne _ _ (by omega);have hl:∀ j,j<k->upd l k l' j=l j:=λj hj=>upd_ne _ _ (by omega);have hE:∀ j,j<k->upd E k E' j=E j:=λj hj=>upd_ne _ _ (by omega);have hM:∀ j,j<k->upd M k M' j=M j:=λj hj=>upd_ne _ _ (by omega);have cs:∀ j,j<k+1->j<k∨j=k:=λj hj=>by omega
 have hMlt:∀ j,j<k->∀ b,M j b≠none->b<v.heap.size:=λj hj b hb=>(h.sees j hj).2.1.lt hb;have hab:Y.ab<v.heap.size->Mm.M Y.ab≠none:=λhlt=>(hYp Y.ab (.inr (.inr (.inl rfl)))).elim (λhle=>by omega) id;have hopn:∀ c,Ch c->Open v' c:=λc hc=>by
  obtain ⟨cap,n,hh⟩:=h.opn c hc;have hcl:=(Qb hh).1;refine ⟨cap,n,?_⟩;rw[(he.keeps hcl (λho=>?_) (λhw=>?_)).1,hh]
  .obtain ⟨x,e,f,h1⟩:=hm.row ho
   rw[hh] at h1;cases h1
  .rcases hw with rfl|hw
   exact h.mine.2.2.1 _ (hab hcl) hc;exact hw
 have hMd:∀ b,M' b≠none->∀ j,j<k->¬ (b=(X j).ab∨E j b):=λb hb j hj hx=>by
  have hlt:=hMlt j hj b (h.abM hj hx);rcases hs.dom b hb with h1|h1
  .rcases hYp b h1 with h2|h2
   omega;exact h.mine.2.2.2.1 j hj b h2 hx
  .rcases hnew b h1 with h2|h2
   exact h2;omega
 refine ⟨?_,λj hj=>?_,λj hj=>?_,λi j hi hj e=>?_,λi j hi hj e=>?_,λj hj=>?_,λj hj=>?_,λj hj=>?_,by rw[hst.wb,hst.bk];exact h.z0,h.zc,hopn,λj hj=>?_,λi j hi hj hne b hb hx=>?_,?_⟩
 .obtain ⟨t,ht,_⟩:=htY
  rw[hst.len];exact (Qc ht).1
 .rcases cs j hj with hj|rfl
  .rw[hX j hj]
   exact ⟨(h.ok j hj).1,(h.ok j hj).2.1,he.blks.trans (h.ok j hj).2.2.1,hkk⟩
  .rw[upd_same]
   exact ⟨hok.1,hok.2.1,he.blks.trans hok.2.2.1,hkk⟩
 .rcases cs j hj with hj|rfl
  .rw[hX j hj,hl j hj]
   obtain ⟨t,h1,h2⟩:=h.thr j hj;exact ⟨t,by rw[hst.oth j (by omega)];exact h1,h2⟩
  .rw[upd_same,upd_same]
   obtain ⟨t,h1,h2,h3⟩:=htY;obtain ⟨t',k1,k2⟩:=hfit;obtain ⟨t2,q1,q2,q3⟩:=hst.own t h1;rw[k1] at q1;cases q1;exact ⟨t',k1,q2.trans h2,q3.trans h3,k2⟩
 .rcases cs i hi with hi|rfl<;>rcases cs j hj with hj|rfl
  rw[hX i hi,hX j hj] at e;exact h.hinj i j hi hj e;rw[hX i hi,upd_same] at e;exact absurd e (hh i hi);rw[hX j hj,upd_same] at e;exact absurd e.symm (hh j hj);rfl
 .rcases cs i hi with hi|rfl<;>rcases cs j hj with hj|rfl
  rw[hX i hi,hX j hj] at e;exact h.ginj i j hi hj e;rw[hX i hi,upd_same] at e;exact absurd e (hgc i hi);rw[hX j hj,upd_same] at e;exact absurd e.symm (hgc j hj);rfl
 .rw[hst.bk]
  rcases cs j hj with hj|rfl;rw[hX j hj];exact h.gbk j hj;rw[upd_same];exact hgbk
 .rcases cs j hj with hj|rfl
  rw[hX j hj];exact h.hlt j hj;rw[upd_same];exact hlt
 .rcases cs j hj with hj|rfl
  rw[hX j hj];exact h.zs j hj;rw[upd_same];exact hzY
 .rcases cs j hj with hj|rfl
  .rw[hX j hj,hl j hj,hE j hj,hM j hj]
   have:=h.sees j hj;exact ⟨this.1,keepM he this.2.1 this.2.2 (λb hb hx=>hx.elim (habM j hj b hb) id)⟩
  .rw[upd_same,upd_same,upd_same,upd_same]
   exact ⟨hs,hM',hfar⟩
 .rcases cs i hi with hi|rfl<;>rcases cs j hj with hj|rfl
  .rw[hX i hi,hE i hi] at hx
   rw[hM j hj] at hb;exact h.apart i j hi hj hne b hb hx
  .rw[hX i hi,hE i hi] at hx
   rw[upd_same] at hb;exact hMd b hb i hi hx
  .rw[upd_same,upd_same] at hx
   rw[hM j hj] at hb;rcases hx with h1|h1;exact habM j hj b hb h1
   .rcases hnew b h1 with h2|h2
    exact h2;have:=hMlt j hj b hb;omega
  exact hne rfl
 .have hmm:∀ b,Mm'.M b≠none->Mm.M b≠none:=λb hb=>by obtain ⟨o,ho⟩:=Option.ne_none_iff_exists'.1 hb;rw[hMm b o ho];simp
  have hMm':Has Mm'.M v:=λb o hb=>h.mine.1 b o (hMm b o hb);have:=keepM he hMm' (λb hb=>h.mine.2.1 b (hmm b hb)) (λb hb hx=>hx.elim (habm b hb) id);refine ⟨this.1,this.2,λb hb=>h.mine.2.2.1 b (hmm b hb),λj hj b hb hx=>?_,(he.fr.os.trans h.mine.2.2.2.2.1).trans hio.1.symm,(he.fr.output.trans h.mine.2.2.2.2.2).trans hio.2.symm⟩;rcases cs j hj with hj|rfl
  .rw[hX j hj,hE j hj] at hx
   exact h.mine.2.2.2.1 j hj b (hmm b hb) hx
  .rw[upd_same,upd_same] at hx
   rcases hx with h1|h1;exact habm b hb h1
   .rcases hnew b h1 with h2|h2
    exact h2;have:=hMm'.lt hb;omega
end
section
variable {P:Program}{K K':World->Prop}{Still Still':Loc->Prop}{B B':Nat}{Mem:Nat->Prop}{Inb:Nat->Option Seat}{h:Nat}{T:Trace}{gs:Array Goroutine}{w:World}{q:Nat->Nat}
open Go.ConcN (sumTo)
theorem hold_mute (hKat:∀ w d,K w->K (w.at d)) {D:World->World->Array Event->Prop}{Stop:Goroutine->World->Prop}(hD:∀ w w' es,D w w' es->K w->(∀ i s c,Inb i=some s->s.has c->∃ o,w.heap[c]? = some o)->∀ B,DH K Still B Inb w w' es)
 {a:Goroutine} {w:World} (hG:GoesI P (h==0) D Stop a w):∀ (gs:Array Goroutine) (sl:Option (Nat×Nat)) (T:Trace) (q:Nat->Nat) (B:Nat),gs[h]? = some a->Ring P K Still B Mem Inb h T gs w q ->
 ∃ (N:Nat) (gs':Array Goroutine) (a':Goroutine) (w':World) (sl':Option (Nat×Nat)) (T':Trace) (q':Nat->Nat),
   runNT P N (crowd gs w sl) T=(.next (crowd gs' w' sl'),T')∧gs'.size=gs.size∧gs'[h]? = some a'∧Stop a' w'∧Ring P K Still B Mem Inb h T' gs' w' q':=by
 refine hG.induct (M:=λa w=>∀ (gs:Array Goroutine) (sl:Option (Nat×Nat)) (T:Trace) (q:Nat->Nat) (B:Nat),gs[h]? = some a->Ring P K Still B Mem Inb h T gs w q ->
  ∃ (N:Nat) (gs':Array Goroutine) (a':Goroutine) (w':World) (sl':Option (Nat×Nat)) (T':Trace) (q':Nat->Nat),
    runNT P N (crowd gs w sl) T=(.next (crowd gs' w' sl'),T')∧gs'.size=gs.size∧gs'[h]? = some a'∧Stop a' w'∧Ring P K Still B Mem Inb h T' gs' w' q') ?_ ?_
 .intro g w hs gs sl T q B ha C
  exact ⟨0,gs,g,w,sl,T,q,rfl,rfl,ha,hs w.drawn,C⟩
 .intro g w hrun g' w' es e hDD _ ih
  have key:∀ (m:Nat) (gs:Array Goroutine) (sl:Option (Nat×Nat)) (T:Trace) (q:Nat->Nat) (B d₀:Nat),sumTo gs.size q=m->gs[h]? = some g->Ring P K Still B Mem Inb h T gs (w.at d₀) q ->
   ∃ (N:Nat) (gs':Array Goroutine) (a':Goroutine) (w':World) (sl':Option (Nat×Nat)) (T':Trace) (q':Nat->Nat),
     runNT P N (crowd gs (w.at d₀) sl) T=(.next (crowd gs' w' sl'),T')∧gs'.size=gs.size∧gs'[h]? = some a'∧Stop a' w'∧Ring P K Still B Mem Inb h T' gs' w' q':=by
   intro m;induction m using Nat.strongRecOn with
   |_ m ihm =>
    intro gs sl T q B d₀ hm ha C;obtain ⟨i,x,d,sl',hi,hg,hst⟩:=crowd_pick (P:=P) (w:=w.at d₀) (sl:=sl) (C.awake ha (.inl hrun)) ⟨h,g,ha,hrun⟩;have Cd:Ring P K Still B Mem Inb h T gs (w.at d) q:=TokCore.at hKat C d;have hst':stepT P (crowd gs (w.at d₀) sl)=runT P (crowd gs (w.at d) sl') i:=hst;by_cases ei:i=h
    .subst ei
     obtain rfl:x=g:=by rw[ha] at hi;exact (Qd hi).symm
     have hB₀:=hD _ _ _ (hDD d) Cd.keep (λj s c e hc=>by obtain ⟨cap,n,hk⟩:=Cd.chans j s c (λz=>z) e hc;exact ⟨_,hk⟩);obtain ⟨C',ha'⟩:=Ring.own (a':=g' d) Cd hi (hB₀ B);obtain ⟨N,gs2,a2,w2,sl2,T2,q2,r,hsz,h2,hS,C2⟩:=ih d _ sl' _ q _ ha' C';refine ⟨N+1,gs2,a2,w2,sl2,T2,q2,?_,by simpa using hsz,h2,hS,C2⟩;have hrt:=runT_crowd_go (P:=P) (sl:=sl') hi (e d);simp only[runNT,hst',hrt];exact r
    .obtain ⟨gs',ops,q',hrt,hsz',hsp,_,_,C',hlt⟩:=TokCore.by_step (sl:=sl') (λt u i=>Knows.app u) Cd hi ei hg
      (λy gy hy hgy=>by subst hy;rw[ha] at hgy;obtain rfl:=Qd hgy;exact again_of_running (.inl hrun) _) (λhD=>hD.elim)
      (λs g₂ _ _=>⟨λhD=>hD,λy gy c hy hgy _=>by subst hy;rw[ha] at hgy;obtain rfl:=Qd hgy;exact offersAt_of_not_blocked (by rw[hrun];simp) _ _⟩)
     obtain ⟨N,gs2,a2,w2,sl2,T2,q2,r,hsz,h2,hS,C2⟩:=ihm (sumTo gs'.size q') (by rw[hsz'];omega) gs' sl' _ q' B d rfl (by rw[hsp h rfl];exact ha) C';refine ⟨N+1,gs2,a2,w2,sl2,T2,q2,?_,hsz.trans hsz',h2,hS,C2⟩;simp only[runNT,hst',hrt];exact r
  intro gs sl T q B ha C;exact key _ gs sl T q B w.drawn rfl ha C
end
end Go.Proofs.YtfjjoohflcchnaaDoor.Gen
namespace Go.Proofs.YtfjjoohflcchnaaDoor.Gen
open Go Go.Lift Go.Conc Go.RowKit
variable {z:Nat->Option Nat} {cont:Addr->Value} {Ch:Nat->Prop} {Stop:Goroutine->World->Prop} {ii:Nat}
variable {mc:Mc}
structure Good (v0:World) (Mo0:Nat->Option Obj) (x:Nx) (Mo:Nat->Option Obj):Prop where
 seat:∀ e y,x≠.ans e y
 new:∀ b,Mo b≠none->Mo0 b≠none∨v0.heap.size<=b
 row:∀ b o,Mo b=some o->∃ c e f,o=.cells c e f
structure Ob (X:Fix mc) (H:Nx->(Nat->Option Obj)->Goroutine->Prop) (z:Nat->Option Nat) (cont:Addr->Value) (Ch:Nat->Prop) (Stop:Goroutine->World->Prop) (cu:Value->Goroutine) (S0:TS) (K0:List (Nat×Int)) (v0:World) (Mo0:Nat->Option Obj) (σ:TS) (κ:List (Nat×Int)) (x:Nx):Prop where
 ans:∀ a:Int×Int,x=.ans a.1 a.2->∀ (v w:World) (S:TS),Rel z v w->NoRow Ch v->nv S=σ->EvoP (λb=>Mo0 b≠none) z S0 K0 v0 S κ v->GoesI Tryd.prog (X.h==0) (DT (ScZ z) Ch) Stop (cu (.agg #[I a.1,I a.2])) w
 seat:∀ (s op:Int) (j:Nat),((∃ q,x=.turn op j q)∧s=1∨(∃ q,x=.wait j q)∧s=2∧op=6)->∀ (g:Goroutine) (w:World) (Mo:Nat->Option Obj),Good v0 Mo0 x Mo ->
  Lift.AtGive Tryd.prog (KC (ScZ z) cont) (StillC (ScZ z)) X.h S0.bk (.agg #[]) (some (seatT X.gc (H x Mo))) (λw'=>∃ v' S',Rel z v' w'∧NoRow Ch v'∧nv S'=waiting σ X.i (thrI σ X.i) s op j∧EvoP (λb=>Mo0 b≠none) z S0 K0 v0 S' κ v'∧Has Mo v'∧∀ b,Mo b≠none->¬ Own S' κ b) g w->Stop g w
structure At (X:Fix mc) (z:Nat->Option Nat) (cont:Addr->Value) (Ch:Nat->Prop) (S:TS) (K:List (Nat×Int)) (v w:World) (t:Thr):Prop where
 rel:Rel z v w
 noRow:NoRow Ch v
 mem:Mem z S K v
 thr:S.thr[X.i]? = some t
 tb:t.tb=X.tb
 gc:t.gc=X.gc
 kb:Kb X K
 z:z X.tb=some 2
 cont:cont ⟨X.tb,2,none⟩=.chan (some X.gc)
 pk:Has X.pk v
 far:∀ b,X.pk b≠none->¬ Own S K b
structure Pkg (mc:Mc) (fid:FuncId) where
 fn:Func
 code:Code
 hf:Tryd.prog.funcs[fid]? = some fn
 hname : (fn.name == "runtime.NumGoroutine") = false
 hcode:fn.body=some code
 Mine:Fix mc->Prop
 Sit:Fix mc->Nx->(Nat->Option Obj)->(Value->Goroutine)->Goroutine->Prop
 start:∀ (X:Fix mc),X.Ok->Mine X->X.fid=fid->∀ (c:Cl),c∈X.calls->∀ (cs:List Frame) (bc:Frame) (ac:Act) (ops:Array Oper) (q:Nat) (rest:List Nat) (oc:Oper) (k:List Item),ops[q]? = some oc ->
  ∀ (H:Nx->(Nat->Option Obj)->Goroutine->Prop) (z:Nat->Option Nat) (cont:Addr->Value) (Ch:Nat->Prop) (Stop:Goroutine->World->Prop) (S:TS) (K:List (Nat×Int)) (v w:World) (t:Thr),At X z cont Ch S K v w t ->
  (∀ x Mo g,Good v (λ_=>none) x Mo->Sit X x Mo (λr=>G (bc.at (ac.put oc.dst r) (.inRegion ops rest :: k)) cs) g->H x Mo g) ->
  Ob X H z cont Ch Stop (λr=>G (bc.at (ac.put oc.dst r) (.inRegion ops rest :: k)) cs) S K v (λ_=>none) (nv S) K (mc.set S.stk (mc.start X.i c)) ->
  GoesI Tryd.prog (X.h==0) (DT (ScZ z) Ch) Stop (G ((base fid).at { tmps:=(mc.bn X.caps++#[Pt X.tb 0,.agg #[I c.po,I c.ca,I c.cb,I c.cc]]++mc.fr X.caps)++Array.replicate (fn.ntmps - (mc.bn X.caps++#[Pt X.tb 0,.agg #[I c.po,I c.ca,I c.cb,I c.cc]]++mc.fr X.caps).size) undef,defers:=[] } [.code code]) (bc.at ac (.inRegion ops (q :: rest) :: k) :: cs)) w
 turn:∀ (X:Fix mc),X.Ok->Mine X->X.fid=fid->∀ (op:Int) (j:Nat) (q:Q) (Mo:Nat->Option Obj) (cu:Value->Goroutine) (g:Goroutine),Sit X (.turn op j q) Mo cu g ->
  ∀ (H:Nx->(Nat->Option Obj)->Goroutine->Prop) (z:Nat->Option Nat) (cont:Addr->Value) (Ch:Nat->Prop) (Stop:Goroutine->World->Prop) (y:Value) (S:TS) (K:List (Nat×Int)) (v w:World) (t:Thr),At X z cont Ch S K v w t->(∀ x Mo' g,Good v Mo x Mo'->Sit X x Mo' cu g->H x Mo' g)->t.op=op->t.ce=j->(S.n+1+(mc.nts q (cellAt K j).2).length)*40<=140737488355328->Has Mo v->(∀ b,Mo b≠none->¬ Own S K b)->(∀ b,Mo b≠none->¬ X.Pr b) ->
  Ob X H z cont Ch Stop cu S K v Mo (A0 X.i (mc.nts q (cellAt K j).2) (didS (nv S) undef X.i t (mc.turn q (cellAt K j).2).1.1 (mc.turn q (cellAt K j).2).1.2)) (K.set j ((cellAt K j).1,(mc.turn q (cellAt K j).2).2.1)) (mc.set S.stk (mc.turn q (cellAt K j).2).2.2) ->
  GoesI Tryd.prog (X.h==0) (DT (ScZ z) Ch) Stop (Go.Conc.served g y) w
 wake:∀ (X:Fix mc),X.Ok->Mine X->X.fid=fid->∀ (j:Nat) (q:Q) (Mo:Nat->Option Obj) (cu:Value->Goroutine) (g:Goroutine),Sit X (.wait j q) Mo cu g ->
  ∀ (H:Nx->(Nat->Option Obj)->Goroutine->Prop) (z:Nat->Option Nat) (cont:Addr->Value) (Ch:Nat->Prop) (Stop:Goroutine->World->Prop) (y:Value) (S:TS) (K:List (Nat×Int)) (v w:World) (t:Thr),At X z cont Ch S K v w t->(∀ x Mo' g,Good v Mo x Mo'->Sit X x Mo' cu g->H x Mo' g)->(S.stk=false->(S.n+1)*40<=140737488355328)->Has Mo v->(∀ b,Mo b≠none->¬ Own S K b)->(∀ b,Mo b≠none->¬ X.Pr b) ->
  (S.stk=true->Ob X H z cont Ch Stop cu S K v Mo (nv S) K (mc.stuck q)) ->
  (S.stk=false->Ob X H z cont Ch Stop cu S K v Mo (noted (nv S) undef X.i 6 j 0 0) K (mc.woke q)) ->
  GoesI Tryd.prog (X.h==0) (DT (ScZ z) Ch) Stop (Go.Conc.served g y) w
def FlowGoes (X:Fix mc) (Hm:Ph->(Nat->Prop)->(Nat->Option Obj)->Goroutine->Prop) (cs:List Frame) (z:Nat->Option Nat) (cont:Addr->Value) (Ch:Nat->Prop) (Stop:Goroutine->World->Prop) (rest:List Cl) (ii:Nat):Prop :=
 ∀ (sk:Bool) (ans:List (Int×Int)) (E:Nat->Prop) (S:TS) (K:List (Nat×Int)) (v w:World) (t:Thr) (u:Nat->Value),Rel z v w->NoRow Ch v->Mem z S K v->S.thr[X.i]? = some t->t.tb=X.tb->t.gc=X.gc->Kb X K->PM X ans v->(∀ b,X.Pr b->¬ Own S K b) ->
   (flow X.i mc rest ii sk ans (nv S)).1.n*40<=140737488355328 ->
   (∀ g' w' E' M',Gives X Hm z cont Ch S K v E (flow X.i mc rest ii sk ans (nv S)).1 K (flow X.i mc rest ii sk ans (nv S)).2 E' M' g' w'->Stop g' w') ->
   GoesI Tryd.prog (X.h==0) (DT (ScZ z) Ch) Stop (G (cFr X.tb X.csl X.F X.asl X.calls.length ii sk u) cs) w
def phOf (rest:List Cl) (ii:Nat) (ans:List (Int×Int)):Nx->Ph
 |.ans _ _=>.done ans
 |.turn op j q=>.turn op j q rest ii ans
 |.wait j q=>.wait j q rest ii ans
theorem ob_of {X:Fix mc}(ok:X.Ok) {Hm:Ph->(Nat->Prop)->(Nat->Option Obj)->Goroutine->Prop}{cs:List Frame}{rest:List Cl}{ans:List (Int×Int)}{cu:Value->Goroutine}(hfl:FlowGoes X Hm cs z cont Ch Stop rest (ii+1)) (hans:Answers X cs ii ans cu)
 {S0:TS} {K0:List (Nat×Int)} {v0:World} {Mo0:Nat->Option Obj} {E:Nat->Prop} (hE:∀ b,Mo0 b≠none->E b) (hp:PM X ans v0) (hfar:∀ b,X.Pr b->¬ Own S0 K0 b) (hMp:∀ b,Mo0 b≠none->¬ X.Pr b) (hkb:Kb X K0)
 {σ:TS} {κ:List (Nat×Int)} {x:Nx} {t:Thr} (ht:σ.thr[X.i]? = some t) (htb:t.tb=X.tb) (hgc:t.gc=X.gc) (hbk:σ.bk=S0.bk) (hok:KOk mc κ)
 (hl:(on X.i mc rest ii ans σ κ x).1.n*40<=140737488355328)
 (hstop:∀ g' w' E' M',Gives X Hm z cont Ch S0 K0 v0 E (on X.i mc rest ii ans σ κ x).1 (on X.i mc rest ii ans σ κ x).2.1 (on X.i mc rest ii ans σ κ x).2.2 E' M' g' w'->Stop g' w'):
 Ob X (λx Mo=>Hm (phOf rest ii ans x) (λb=>Mo b≠none) (mindO X v0 Mo)) z cont Ch Stop cu S0 K0 v0 Mo0 σ κ x:=by
 have stay:∀ {S:TS} {κ:List (Nat×Int)} {v:World},EvoP (λb=>Mo0 b≠none) z S0 K0 v0 S κ v->∀ b,X.Pr b->v.heap[b]? = v0.heap[b]?∧¬ Own S κ b:=λhe b hb=>he.keeps (hp.lt ok hb) (hfar b hb) (λh=>hMp b h hb);refine ⟨λa ha v w S hvw hn hS he=>?_,λs op j hx g w Mo ⟨_,hnew,hrow⟩ hat=>?_⟩
 .have eon:on X.i mc rest ii ans σ κ x=back X.i mc rest ii ans a σ κ:=by subst ha;rfl
  rw[eon] at hl hstop;subst hS;have hp1:PM X ans v:=hp.stay (λb hb=>(stay he b hb).1);have hl1:(S.n+1)*40<=140737488355328:=Qk (Nat.mul_le_mul_right 40 (flow_sta X.i mc rest (ii+1) (a.1==4) (ans.set ii a) (noted (nv S) undef X.i 10 (-1) ii a.1)).n) hl;refine hans z Ch Stop w v S κ t a.1 a.2 hvw hn he.mem ht htb hl1 hp1 (λb hb=>(stay he b hb).2) (λv2 w2 tv u' hvw2 hn2 he2 hp2=>?_);have ej:EvoP (λb=>b=X.ab∨E b) z S0 K0 v0 (noted S tv X.i 10 (-1) ii a.1) κ v2:=(he.wider (Pr':=λb=>b=X.ab∨E b) (λb _ hb=>.inr (hE b hb))).join he2 (λb hb=>.inl (.inl hb));refine hfl (a.1==4) (ans.set ii a) E (noted S tv X.i 10 (-1) ii a.1) κ v2 w2 t u' hvw2 hn2 he2.mem ht htb hgc ⟨he.blks.trans hkb.1,hok⟩ hp2 (λb hb ho=>?_) hl (λg' w' E' M' hg=>hstop g' w' E' M' (hg.join ej hbk (λb h=>.inl h)));rcases he2.new b ho with h1|h1;exact (stay he b hb).2 h1;have:=hp1.lt ok hb;omega
 .have eon:on X.i mc rest ii ans σ κ x=(waiting σ X.i (thrI σ X.i) s op j,κ,phOf rest ii ans x):=by
   rcases hx with ⟨⟨q,rfl⟩,rfl⟩|⟨⟨q,rfl⟩,rfl,rfl⟩
   rfl;rfl
  rw[eon] at hstop;have h1:∀ b,Mo b≠none->¬ X.Pr b:=λb hb hpr=>(hnew b hb).elim (λh=>hMp b h hpr) (λh=>by have:=hp.lt ok hpr;omega);have ea:(phOf rest ii ans x).ans=ans:=by rcases hx with ⟨⟨q,rfl⟩,_⟩|⟨⟨q,rfl⟩,_⟩<;>rfl
  have es:seatOf X Hm (phOf rest ii ans x) (λb=>Mo b≠none) (mindO X v0 Mo)=some (seatT X.gc (Hm (phOf rest ii ans x) (λb=>Mo b≠none) (mindO X v0 Mo))):=by rcases hx with ⟨⟨q,rfl⟩,_⟩|⟨⟨q,rfl⟩,_⟩<;>rfl
  refine hstop g w (λb=>Mo b≠none) (mindO X v0 Mo) ⟨by rw[ea];exact sees_mindO hp ok h1 hrow,λb hb=>(hnew b hb).imp (hE b) id,?_⟩;rw[es];refine atGive_mono (λhF=>?_) hat
  obtain ⟨v',S',q1,q2,q3,q4,q5,q6⟩:=hF;refine ⟨v',S',q1,q2,q3,q4.wider (λb _ hb=>.inr (hE b hb)),λb o hb=>?_,λb hb=>?_⟩
  .unfold mindO at hb
   split at hb;exact q5 b o hb
   .unfold mind at hb
    split at hb
    .rename_i hc
     rw[(stay q4 b hc).1];exact hb
    cases hb
  .unfold mindO at hb
   split at hb
   .rename_i hc;exact q6 b hc
   .unfold mind at hb
    split at hb
    .rename_i hc;exact (stay q4 b hc).2
    exact absurd rfl hb
variable {mc:Mc}{fid:FuncId}
theorem dst5:ops347[5]? = some (ops347.getD 5 default):=by kernel_rfl
theorem dst5':(ops347.getD 5 default).dst=some 31:=by kernel_rfl
theorem on_K (i:Nat) (m:Mc) (rest:List Cl) (ii:Nat) (ans:List (Int×Int)) (S:TS) (K:List (Nat×Int)) (x:Nx):(on i m rest ii ans S K x).2.1=K:=by
 cases x with
 |ans e x=>rfl
 |turn op j q=>rfl
 |wait j q=>rfl
theorem answers_of {X:Fix mc}(ok:X.Ok) {cs:List Frame}{ans:List (Int×Int)}{N:Nat}{V:Value}{u:Nat->Value}(hi:ii<X.calls.length):
 Answers X cs ii ans (λr=>G ((base 94).at ((cAct X.tb X.csl X.F X.asl X.rb X.ro X.calls.length ii N V u).put (some 31) r) [.inRegion ops347 [6,7],.code R89,.inBlock 1,.code R10,.inLoop L34,.inBlock 0]) cs):=by
 intro z Ch Stop w v S K t e x hvw hn hm ht htb hl hp hfar hk;have h0:0<X.calls.length:=by omega
 obtain ⟨y0,y1,c1,c2,c3,c4⟩:=hp.cells hi;have hab:X.Pr X.ab:=.inr (.inr (.inl rfl));show GoesI Tryd.prog (X.h==0) (DT (ScZ z) Ch) Stop (G ((base 94).at ((cAct X.tb X.csl X.F X.asl X.rb X.ro X.calls.length ii N V u).put (some 31) (.agg #[I e,I x])) _) cs) w;rw[<-htb,ok.asl h0];refine carry_back (S:=S) (K:=K) (v:=v) (i:=X.i) (t:=t) X.csl X.F X.rb X.ro X.ab X.calls.length X.cap2 ii N V e x y0 y1 u cs hi ok.n c1 c2 c3 c4 (hfar X.ab hab) hvw hn hm ht hl (λv2 w2 tv u' hvw2 hn2 he2 hab2=>?_);have:=hk v2 w2 tv u' hvw2 hn2 he2 (hp.set hi e x hab2 (λb hb hne=>(he2.keeps (hp.lt ok hb) (hfar b hb) hne).1) (ok.ne h0));rw[<-htb,ok.asl h0] at this;exact this
structure Mid (X:Fix mc) (rest:List Cl) (ii:Nat) (ans:List (Int×Int)) (E:Nat->Prop) (M:Nat->Option Obj) (cs:List Frame) (cu:Value->Goroutine) (Mo:Nat->Option Obj):Prop where
 sees:Sees X E M ans
 drop:X.calls.drop (ii+1)=rest
 lt:ii<X.calls.length
 ends:CarryEnds X cs
 answers:Answers X cs ii ans cu
 e:E=λb=>Mo b≠none
 m:∀ b o,Mo b=some o->M b=some o
def HomeBack (P:Pkg mc fid) (X:Fix mc):Ph->(Nat->Prop)->(Nat->Option Obj)->Goroutine->Prop
 |.turn op j q rest ii ans,E,M,g=>∃ cs cu Mo,Mid X rest ii ans E M cs cu Mo∧P.Sit X (.turn op j q) Mo cu g
 |.wait j q rest ii ans,E,M,g=>∃ cs cu Mo,Mid X rest ii ans E M cs cu Mo∧P.Sit X (.wait j q) Mo cu g
 |_,_,_,_=>False
theorem home_of {P:Pkg mc fid}{X:Fix mc}(ok:X.Ok) {Hm:Ph->(Nat->Prop)->(Nat->Option Obj)->Goroutine->Prop}(hHm:∀ l E M g,HomeBack P X l E M g->Hm l E M g) {rest:List Cl}{ans:List (Int×Int)}{cs:List Frame}{cu:Value->Goroutine}(hdrop:X.calls.drop (ii+1)=rest) (hlt:ii<X.calls.length) (hends:CarryEnds X cs) (hans:Answers X cs ii ans cu)
 {v0:World} (hp:PM X ans v0) {Mo0:Nat->Option Obj} (hMp:∀ b,Mo0 b≠none->¬ X.Pr b) (x:Nx) (Mo:Nat->Option Obj) (g:Goroutine) (hg:Good v0 Mo0 x Mo) (hs:P.Sit X x Mo cu g):Hm (phOf rest ii ans x) (λb=>Mo b≠none) (mindO X v0 Mo) g:=by
 have h1:∀ b,Mo b≠none->¬ X.Pr b:=λb hb hpr=>(hg.new b hb).elim (λh=>hMp b h hpr) (λh=>by have:=hp.lt ok hpr;omega);have hmid:Mid X rest ii ans (λb=>Mo b≠none) (mindO X v0 Mo) cs cu Mo:=⟨sees_mindO hp ok h1 hg.row,hdrop,hlt,hends,hans,rfl,λb o hb=>by unfold mindO;rw[if_pos (by rw[hb];simp)];exact hb⟩
 apply hHm
 match x,hg.seat,hs with
 |.ans e y,h,_=>exact absurd rfl (h e y)
 |.turn op j q,_,hs=>exact ⟨cs,cu,Mo,hmid,hs⟩
 |.wait j q,_,hs=>exact ⟨cs,cu,Mo,hmid,hs⟩
theorem flow_goes (P:Pkg mc fid) {X:Fix mc}(ok:X.Ok) (hmine:P.Mine X) (hfid:X.fid=fid) (Hm:Ph->(Nat->Prop)->(Nat->Option Obj)->Goroutine->Prop) (hHm:∀ l E M g,HomeBack P X l E M g->Hm l E M g) {cs:List Frame}(hce:CarryEnds X cs) (hz:z X.tb=some 2) (hcont:cont ⟨X.tb,2,none⟩=.chan (some X.gc)):
 ∀ (rest:List Cl) (ii:Nat),X.calls.drop ii=rest->ii<=X.calls.length->FlowGoes X Hm cs z cont Ch Stop rest ii:=by
 intro rest;induction rest with
 |nil =>
  intro ii hd hi sk ans E S K v w t u hvw hn hm ht htb hgc hK hp hfar hl hstop;obtain rfl:ii=X.calls.length:=by have:=List.drop_eq_nil_iff.1 hd;omega
  refine hce z Ch Stop cont w v S K t sk u hvw hn hm ht htb hp.box (hfar X.bb (.inl rfl)) (λg w' hg=>hstop g w' (λ_=>False) (mind X v) ⟨by cases sk<;>exact sees_mind hp ok,λ_ h=>h.elim,?_⟩);have efl:flow X.i mc [] X.calls.length sk ans (nv S)=(ended (nv S) X.i (thrI (nv S) X.i),.done ans):=by cases sk<;>rfl
  rw[efl];refine atGive_mono (λhF=>?_) hg;obtain ⟨v',k1,k2,k3⟩:=hF;have kp:∀ b,X.Pr b->v'.heap[b]? = v.heap[b]?∧¬ Own (ended S X.i t) K b:=λb hb=>(Evo.toP (Pr:=λ_=>False) k3).keeps (hp.lt ok hb) (hfar b hb) (λh=>h);refine ⟨v',_,k1,k2,?_,k3.toP,λb o hb=>?_,λb hb=>?_⟩
  .show nv (ended S X.i t)=ended (nv S) X.i (thrI (nv S) X.i)
   rw[show thrI (nv S) X.i=t from thrI_of ht];rfl
  .unfold mind at hb
   split at hb
   .rename_i hc;rw[(kp b hc).1];exact hb
   cases hb
  .unfold mind at hb
   split at hb
   .rename_i hc;exact (kp b hc).2
   exact absurd rfl hb
 |cons c rest ih =>
  intro ii hd hi sk ans E S K v w t u hvw hn hm ht htb hgc hK hp hfar hl hstop;have hlt:ii<X.calls.length:=by rcases Nat.lt_or_ge ii X.calls.length with h|h;exact h;rw[List.drop_eq_nil_iff.2 h] at hd;cases hd
  have h0:0<X.calls.length:=by omega
  have hc:X.calls[ii]? = some c:=by have:=congrArg (·[0]?) hd;simpa using this
  have hd':X.calls.drop (ii+1)=rest:=by have:=congrArg List.tail hd;simpa using this
  have ecs:X.csl=.slice (some ⟨X.rb,X.ro,none⟩) X.calls.length X.cap:=by unfold Fix.csl;exact congrArg (λp=>Value.slice p X.calls.length X.cap) (ok.pc h0)
  obtain ⟨p0,p1,p2,p3⟩:=hp.call ii c hc;obtain ⟨y0,y1,c1,c2,c3,c4⟩:=hp.cells hlt;cases sk with
  |true =>have hab:X.Pr X.ab:=.inr (.inr (.inl rfl));rw[ecs,ok.asl h0];refine carry_skip (S:=S) (K:=K) (v:=v) X.F X.rb X.ro X.ab X.calls.length X.cap X.cap2 ii c.po c.ca c.cb c.cc y0 y1 u cs hlt ok.n p0 p1 p2 p3 c1 c2 c3 c4 (hfar X.ab hab) hvw hn hm (λv1 w1 u1 hvw1 hn1 he1 hab1=>?_);have hp1:PM X (ans.set ii (4,0)) v1:=hp.set hlt 4 0 hab1 (λb hb hne=>(he1.keeps (hp.lt ok hb) (hfar b hb) hne).1) (ok.ne h0);have:=ih (ii+1) hd' (by omega) true (ans.set ii (4,0)) E S K v1 w1 t u1 hvw1 hn1 he1.mem ht htb hgc hK hp1 hfar hl (λg' w' E' M' hg=>hstop g' w' E' M' (hg.join (he1.wider (λb _ e=>.inl e)) rfl (λb e=>.inl e)));rw[ecs,ok.asl h0] at this;exact this
  |false =>
   rw[flow_cons X.i mc c rest ii ans (nv S) K] at hl hstop;have hn1:(S.n+1)*40<=140737488355328:=by refine Qk (Nat.mul_le_mul_right 40 ?_) hl;exact (on_sta (i:=X.i) (m:=mc) rest ii ans K (noted (nv S) undef X.i 9 (-1) ii 0) (mc.set (nv S).stk (mc.start X.i c))).n
   rw[ecs,<-htb];refine carry_step (S:=S) (K:=K) (v:=v) (i:=X.i) (t:=t) X.asl X.fid P.fn (mc.bn X.caps) (mc.fr X.caps) (by rw[hfid];exact P.hf) P.hname P.code P.hcode X.rb X.ro X.calls.length X.cap ii c.po c.ca c.cb c.cc u cs hlt p0 p1 p2 p3 hvw hn hm ht hn1 (λv1 w1 tv hvw1 hn1 he1 hbx1=>?_);have st1:∀ b,X.Pr b->v1.heap[b]? = v.heap[b]?∧¬ Own (noted S tv X.i 9 (-1) ii 0) K b:=λb hb=>(Evo.toP (Pr:=λ_=>False) he1).keeps (hp.lt ok hb) (hfar b hb) (λh=>h);have hp1:PM X ans v1:=hp.stay (λb hb=>(st1 b hb).1);have hans:=answers_of (cs:=cs) (ans:=ans) (N:=v.heap.size) (V:=.agg #[I c.po,I c.ca,I c.cb,I c.cc]) (u:=u) ok hlt;rw[ecs] at hans;rw[htb];have hat:At X z cont Ch (noted S tv X.i 9 (-1) ii 0) K v1 w1 t:=⟨hvw1,hn1,he1.mem,ht,htb,hgc,hK,hz,hcont,hp1.pk,λb hb=>(st1 b (.inr (.inr (.inr hb)))).2⟩
   have:=P.start X ok hmine hfid c (List.mem_of_getElem? hc) cs (base 94) (cAct X.tb (.slice (some ⟨X.rb,X.ro,none⟩) X.calls.length X.cap) X.F X.asl X.rb X.ro X.calls.length ii v.heap.size (.agg #[I c.po,I c.ca,I c.cb,I c.cc]) u) ops347 5 [6,7] _ [.code R89,.inBlock 1,.code R10,.inLoop L34,.inBlock 0] dst5
    (λx Mo=>Hm (phOf rest ii ans x) (λb=>Mo b≠none) (mindO X v1 Mo)) z cont Ch Stop (noted S tv X.i 9 (-1) ii 0) K v1 w1 t hat
    (λx Mo g hg hs=>home_of (P:=P) ok hHm hd' hlt hce (by rw[dst5'];exact hans) hp1 (λ_ h=>absurd rfl h) x Mo g hg hs)
    (ob_of ok (ih (ii+1) hd' (by omega)) (by rw[dst5'];exact hans) (E:=E) (λ_ h=>absurd rfl h) hp1 (λb hb=>(st1 b hb).2) (λ_ h=>absurd rfl h) hK (t:=t) ht htb hgc rfl hK.2 hl (λg' w' E' M' hg=>hstop g' w' E' M' (Gives.join (Evo.toP he1) rfl (λb h=>.inl h) (by rw[on_K] at hg;exact hg))))
   subst hfid;exact this
variable {mc:Mc}{fid:FuncId}
theorem home_all (P:Pkg mc fid) {X:Fix mc}(ok:X.Ok) (hmine:P.Mine X) (hfid:X.fid=fid):∀ (n:Nat) (l:Ph) (E:Nat->Prop) (M:Nat->Option Obj) (g:Goroutine),HomeBack P X l E M g->Home X n l E M g:=by
 intro n;induction n with
 |zero=>intros;trivial
 |succ n ih =>
  intro l E M g hb z Ch Stop cont y w v S K t hvw hn hm ht htb hgc hfit hK hz hcont hM hfar hl hstop;have main:∀ (rest:List Cl) (ii:Nat) (ans:List (Int×Int)) (cs:List Frame) (cu:Value->Goroutine) (Mo:Nat->Option Obj),Mid X rest ii ans E M cs cu Mo ->
   PM X ans v∧(∀ b,X.Pr b->¬ Own S K b)∧Has Mo v∧(∀ b,Mo b≠none->¬ Own S K b)∧(∀ b,Mo b≠none->¬ X.Pr b)∧At X z cont Ch S K v w t:=λrest ii ans cs cu Mo hmid=>by
   have hp:PM X ans v:=hmid.sees.pm v hM;have hf:∀ b,X.Pr b->¬ Own S K b:=λb hb=>hfar b (hmid.sees.pr b hb);have hMo:Has Mo v:=λb o hb=>hM b o (hmid.m b o hb);refine ⟨hp,hf,hMo,λb hb=>?_,λb hb=>hmid.sees.apart b (by rw[hmid.e];exact hb),⟨hvw,hn,hm,ht,htb,hgc,hK,hz,hcont,hp.pk,λb hb=>hf b (.inr (.inr (.inr hb)))⟩⟩;obtain ⟨o,ho⟩:=Option.ne_none_iff_exists'.1 hb;exact hfar b (by rw[hmid.m b o ho];simp)
  have eth:thrI (nv S) X.i=t:=thrI_of ht
  match l,hb,hfit,hl,hstop with
  |.turn op j q rest ii ans,hb,hfit,hl,hstop =>
   obtain ⟨cs,cu,Mo,hmid,hsit⟩:=hb;obtain ⟨hp,hf,hMo,hMf,hMp,hat⟩:=main rest ii ans cs cu Mo hmid;rw[resume_turn,eth] at hl hstop;have hl1:(S.n+1+(mc.nts q (cellAt K j).2).length)*40<=140737488355328:=by refine Qk (Nat.mul_le_mul_right 40 ?_) hl;refine Qk ?_ (on_sta (i:=X.i) (m:=mc) rest ii ans _ _ _).n;rw[notes_n];unfold didS;split<;>exact Qi _
   refine P.turn X ok hmine hfid op j q Mo cu g hsit _ z cont Ch Stop y S K v w t hat (λx Mo' g hg hs=>home_of (P:=P) ok ih hmid.drop hmid.lt hmid.ends hmid.answers hp hMp x Mo' g hg hs) hfit.1 hfit.2 hl1 hMo hMf hMp ?_;exact ob_of ok (flow_goes P ok hmine hfid (Home X n) ih hmid.ends hz hcont rest (ii+1) hmid.drop hmid.lt) hmid.answers (E:=E) (λb hb=>by rw[hmid.e];exact hb) hp hf hMp hK (t:=t) (by rw[(Ay _ _).1];unfold didS;split<;>exact ht) htb hgc (by rw[(Ay _ _).2.1];unfold didS;split<;>rfl) (hK.2.set _ _ _) hl hstop
  |.wait j q rest ii ans,hb,hfit,hl,hstop =>
   obtain ⟨cs,cu,Mo,hmid,hsit⟩:=hb;obtain ⟨hp,hf,hMo,hMf,hMp,hat⟩:=main rest ii ans cs cu Mo hmid;rw[resume_wait] at hl hstop;have hl1:S.stk=false->(S.n+1)*40<=140737488355328:=λhs=>by refine Qk (Nat.mul_le_mul_right 40 ?_) hl;rw[if_neg (show ¬ (nv S).stk=true from by show ¬ S.stk=true;rw[hs];simp)];exact (on_sta (i:=X.i) (m:=mc) rest ii ans K (noted (nv S) undef X.i 6 j 0 0) (mc.woke q)).n
   refine P.wake X ok hmine hfid j q Mo cu g hsit _ z cont Ch Stop y S K v w t hat (λx Mo' g hg hs=>home_of (P:=P) ok ih hmid.drop hmid.lt hmid.ends hmid.answers hp hMp x Mo' g hg hs) hl1 hMo hMf hMp (λhs=>?_) (λhs=>?_)
   .rw[if_pos (show (nv S).stk=true from hs)] at hl hstop
    exact ob_of ok (flow_goes P ok hmine hfid (Home X n) ih hmid.ends hz hcont rest (ii+1) hmid.drop hmid.lt) hmid.answers (E:=E) (λb hb=>by rw[hmid.e];exact hb) hp hf hMp hK (x:=mc.stuck q) (t:=t) ht htb hgc rfl hK.2 hl hstop
   .rw[if_neg (show ¬ (nv S).stk=true from by show ¬ S.stk=true;rw[hs];simp)] at hl hstop
    exact ob_of ok (flow_goes P ok hmine hfid (Home X n) ih hmid.ends hz hcont rest (ii+1) hmid.drop hmid.lt) hmid.answers (E:=E) (λb hb=>by rw[hmid.e];exact hb) hp hf hMp hK (t:=t) ht htb hgc rfl hK.2 hl hstop
  |.done _,hb,_,_,_=>exact hb.elim
theorem ends_of {X:Fix mc}(ok:X.Ok) {F33:Value}{bd:Frame}{ad:Act}{od:Array Oper}{qd:Nat}{rd:List Nat}{oe:Oper}{kd:List Item}(hoe:od[qd]? = some oe)
 (hf:∀ (z:Nat->Option Nat) (Ch:Nat->Prop) (Stop:Goroutine->World->Prop) (w:World),GoesI Tryd.prog (X.h==0) (DT (ScZ z) Ch) Stop (G ((baseD 124).at ((lifeAct X.tb X.bb F33).put (ops492.getD 2 default).dst (.tuple #[])) [.inRegion ops492 []]) [botP Tryd.prog]) w ->
   GoesI Tryd.prog (X.h==0) (DT (ScZ z) Ch) Stop (G (bd.at (ad.put oe.dst (.tuple #[])) (.inRegion od rd :: kd)) [lifeFr X.tb X.bb F33,botP Tryd.prog]) w):
 CarryEnds X [bd.at ad (.inRegion od (qd :: rd) :: kd),lifeFr X.tb X.bb F33,botP Tryd.prog]:=by
 intro z Ch Stop cont w v S K t sk u hvw hn hm ht htb hbox hbo hstop;refine carry_end X.csl X.F X.asl X.calls.length sk u _ hoe (hf z Ch Stop w ?_);rw[<-htb];exact life_tail X.bb F33 ok.h hvw hn hm ht (by rw[htb];exact hbox) hbo hstop
theorem birth_goes {P:Pkg mc fid}{X:Fix mc}(ok:X.Ok) (hmine:P.Mine X) (hfid:X.fid=fid) (n:Nat) (hz:z X.tb=some 2) (hcont:cont ⟨X.tb,2,none⟩=.chan (some X.gc)) {S:TS}{K:List (Nat×Int)}{v w:World}{t:Thr}{ans:List (Int×Int)}(p1 p2 p3 p4 rr m cap' ix:Nat) (hix:ix<m)
 (hvw:Rel z v w) (hn:NoRow Ch v) (hm:Mem z S K v) (ht:S.thr[X.i]? = some t) (htb:t.tb=X.tb) (hgc:t.gc=X.gc) (hK:Kb X K) (hbb:X.bb=v.heap.size)
 (h1:v.cell? ⟨p1,0,none⟩=some X.csl) (h2:v.cell? ⟨p2,0,none⟩=some X.F) (h3:v.cell? ⟨p3,0,none⟩=some (.slice (some ⟨rr,0,none⟩) m cap')) (h4:v.cell? ⟨p4,0,none⟩=some (I ix)) (h5:v.cell? ⟨rr,ix,none⟩=some X.asl)
 (hp:∀ v1,Grows v v1->v1.cell? ⟨X.bb,0,none⟩=some (Pt X.tb 0)->PM X ans v1) (hfar:∀ b,X.Pr b->¬ Own S K b)
 (hl:(flow X.i mc X.calls 0 false ans (nv S)).1.n*40<=140737488355328)
 (hstop:∀ g' w' E' M',Gives X (Home X n) z cont Ch S K v (λ_=>False) (flow X.i mc X.calls 0 false ans (nv S)).1 K (flow X.i mc X.calls 0 false ans (nv S)).2 E' M' g' w'->Stop g' w') (code:Code) (hc:Tryd.f124.body=some code):
 GoesI Tryd.prog (X.h==0) (DT (ScZ z) Ch) Stop (G ((baseD 124).at { tmps:=#[Pt X.tb 0,.func (.func 93) #[] #[Pt p1 0,Pt p2 0,Pt p3 0,Pt p4 0]]++Array.replicate 6 undef,defers:=[] } [.code code]) [botP Tryd.prog]) w:=by
 refine run_goes X.tb 93 Tryd.f93 #[Pt p1 0,Pt p2 0,Pt p3 0,Pt p4 0] Tryd.func93 (by kernel_rfl) _ rfl hvw hn (λv1 w1 hvw1 hn1 hg1 hbx hs1=>?_) code hc;have hbox:v1.cell? ⟨X.bb,0,none⟩=some (Pt X.tb 0):=by rw[hbb];simp[World.cell?,hbx]
 refine body33_goes (tb:=X.tb) X.csl X.F X.asl rr m cap' ix hix (hg1.cell h1) (hg1.cell h2) (hg1.cell h3) (hg1.cell h4) (hg1.cell h5) [botP Tryd.prog] dst492 hvw1 hn1 (λw2 bd ad od qd rd oe kd hvw2 hoe hfact code hcode=>?_) _ rfl;rw[<-hbb] at hfact;have hce:=ends_of ok hoe hfact;refine carry_in X.F X.asl X.pc X.calls.length X.cap _ (λu=>?_) code hcode;have:=flow_goes P ok hmine hfid (Home X n) (home_all P ok hmine hfid n) hce hz hcont X.calls 0 (by simp) (Nat.zero_le _) false ans (λ_=>False) S K v1 w2 t u hvw2 hn1 (hm.grows hg1).mem ht htb hgc hK (hp v1 hg1 hbox) hfar hl (λg' w' E' M' hg=>hstop g' w' E' M' (hg.join (Evo.toP (hm.grows hg1)) rfl (λb h=>.inl h)));rw[hbb] at this;exact this
end Go.Proofs.YtfjjoohflcchnaaDoor.Gen
namespace Go.Proofs.YtfjjoohflcchnaaDoor.Gen
open Go Go.Lift Go.Conc Go.RowKit
open Go.ConcN (upd upd_same upd_ne)
variable {cs:List Frame} {bb cap n:Nat} {S:TS} {K:List (Nat×Int)} {w:World}
variable {mc:Mc}{fid:FuncId}{P:Pkg mc fid}
theorem born49 (main:Bool) (tb:Nat) (F:Value) (w:World):stepG Tryd.prog main (born Tryd.prog (d49 tb F)) w =
 .go (G ((baseD 124).at { tmps:=#[Pt tb 0,F]++Array.replicate 6 undef,defers:=[] } [.code (Tryd.f124.body.getD .skip)]) [botP Tryd.prog]) w #[]:=by
 simp[born,d49,stepG,unwind,callDeferred,invoke,callFunc,Tryd.func124,Tryd.f124,seen,GStep.after,G,Frame.enter,Frame.at,baseD,botP]
structure Scr (mc:Mc) where
 calls:List Cl
 ans:List (Int×Int)
 X:Nat->Nat->Nat->Nat->Fix mc
 p1:Nat
 p2:Nat
 p3:Nat
 p4:Nat
 rr:Nat
 m:Nat
 cp:Nat
 ix:Nat
 csl:Value
 asl:Value
 caps:Array Value
abbrev Scr.F (s:Scr mc):Value:=.func (.func 93) #[] #[Pt s.p1 0,Pt s.p2 0,Pt s.p3 0,Pt s.p4 0]
structure Script (P:Pkg mc fid) (Mm:Nat->Option Obj) (Fut:Nat->Prop) (k bb:Nat) (kb:List Nat) (s:Scr mc):Prop where
 ix:s.ix<s.m
 mem:∀ v,Has Mm v->v.cell? ⟨bb,k,none⟩=some s.F∧v.cell? ⟨s.p1,0,none⟩=some s.csl∧v.cell? ⟨s.p2,0,none⟩=some (.func (.func fid) (mc.bn s.caps) (mc.fr s.caps))∧v.cell? ⟨s.p3,0,none⟩=some (.slice (some ⟨s.rr,0,none⟩) s.m s.cp)∧v.cell? ⟨s.p4,0,none⟩=some (I s.ix)∧v.cell? ⟨s.rr,s.ix,none⟩=some s.asl
 fix:∀ h tb gc b0,0<h->(∀ b,Mm b≠none->b≠b0)->(s.X h tb gc b0).Ok∧(s.X h tb gc b0).h=h∧(s.X h tb gc b0).i=k∧(s.X h tb gc b0).tb=tb∧(s.X h tb gc b0).gc=gc∧(s.X h tb gc b0).bb=b0∧(s.X h tb gc b0).kb=kb∧(s.X h tb gc b0).calls=s.calls∧(s.X h tb gc b0).csl=s.csl∧(s.X h tb gc b0).asl=s.asl∧((s.X h tb gc b0).caps=s.caps∧(s.X h tb gc b0).fid=fid∧P.Mine (s.X h tb gc b0)) ∧
  (∀ v,Has Mm v->v.cell? ⟨b0,0,none⟩=some (Pt tb 0)->PM (s.X h tb gc b0) s.ans v)∧(∀ b,(s.X h tb gc b0).Pr b->b=b0∨Mm b≠none)∧(∀ b,(s.X h tb gc b0).Pr b->Fut b->b=(s.X h tb gc b0).ab)∧((s.X h tb gc b0).ab=b0∨Fut (s.X h tb gc b0).ab)
def contAdd (cont:Addr->Value) (tb gc:Nat) (a:Addr):Value:=if a.block=tb then .chan (some gc) else cont a
section
variable {k N:Nat}{X:Nat->Fix mc}{l:Nat->Ph}{E:Nat->Nat->Prop}{M:Nat->Nat->Option Obj}{Mm:Keep}{z:Nat->Option Nat}{cont:Addr->Value}{Ch:Nat->Prop}{S:TS}{K:List (Nat×Int)}{v:World}{B:Nat}{Mb:Nat->Prop}{Inb:Nat->Option Seat}{h:Nat}{T:Trace}{gs:Array Goroutine}{w:World}{q:Nat->Nat}
theorem rel_hire (hvw:Rel z v w) {w2:World}{w1:World}(hr1:Rel z { v with heap:=v.heap.push (.chan 0 #[] false 0 0 false) } w1) (hh:w2.heap=w1.heap.push (.cells (trow S.wb S.thr.length v.heap.size 0 0 0 0) 107)) (ho:w2.os=w1.os) (hu:w2.output=w1.output):Rel (zAdd z (v.heap.size+1)) (hireV S v) w2:=by
 have hs1:w1.heap.size=v.heap.size+1:=by rw[hr1.size];simp
 refine ⟨λr=>?_,λr n c e f hz hr=>?_,λr n hz=>?_,ho.trans hr1.os,hu.trans hr1.output⟩
 .by_cases e:r=v.heap.size+1
  .subst e
   rw[hireV_row,hh,<-hs1,Qo];unfold zAdd;rw[hs1,if_pos rfl];rfl
  .unfold zAdd
   rw[if_neg e];by_cases hlt:r<v.heap.size+1
   .have e1:w2.heap[r]? = w1.heap[r]?:=by rw[hh,Qg,if_neg (by omega)]
    have e2:(hireV S v).heap[r]? = (v.heap.push (.chan 0 #[] false 0 0 false))[r]?:=by show ((v.heap.push _).push _)[r]? = _;rw[Qg,if_neg (by simp;omega)]
    rw[e1,e2];exact hr1.heap r
   .have h1:w2.heap[r]? = none:=by rw[hh];simp;omega
    have h2:(hireV S v).heap[r]? = none:=by have:=hireV_size S v;simp;omega
    rw[h1,h2];rfl
 .unfold zAdd at hz
  split at hz
  .rename_i e
   cases hz;subst e;rw[hireV_row] at hr;cases hr;rfl
  .have hlt:=hvw.low r n hz
   rw[hireV_old S v hlt] at hr;exact hvw.kept r n c e f hz hr
 .rw[hireV_size]
  unfold zAdd at hz;split at hz;omega;have:=hvw.low r n hz;omega
theorem hire_one (P:Pkg mc fid) {u:Nat->Value}(H:Holds k N X l E M Mm z cont Ch S K v B Mb Inb 0 T gs w q) (hg:gs[0]? = some (G (hFr S.wb (.slice (some ⟨bb,0,none⟩) n cap) n k u) cs)) (hkn:k<n) (hn8:n<=8) (sl:Option (Nat×Nat))
 {Fut:Nat->Prop} (hfm:∀ b,Fut b->Mm.M b≠none) (hfut:∀ i,i<k->∀ b,Fut b->M i b=none) {s:Scr mc} (sc:Script P Mm.M Fut k bb (K.map (·.1)) s) (hkk:KOk mc K)
 (hl:∀ tv tb gc,(flow k mc s.calls 0 false s.ans (nv (hiredS S tv tb gc))).1.n*40<=140737488355328):
 ∃ (N':Nat) (gs':Array Goroutine) (w':World) (sl':Option (Nat×Nat)) (T':Trace) (q':Nat->Nat) (B':Nat) (Mb':Nat->Prop) (Inb':Nat->Option Seat) (z':Nat->Option Nat) (cont':Addr->Value) (Ch':Nat->Prop) (S':TS) (v':World) (E':Nat->Nat->Prop) (M':Nat->Nat->Option Obj) (u':Nat->Value) (tv:Value) (tb gc:Nat) (Y:Fix mc),
   runNT Tryd.prog N' (crowd gs w sl) T=(.next (crowd gs' w' sl'),T')∧gs'.size=gs.size+1∧gs'[0]? = some (G (hFr S'.wb (.slice (some ⟨bb,0,none⟩) n cap) n (k+1) u') cs)∧nv S'=(flow k mc s.calls 0 false s.ans (nv (hiredS S tv tb gc))).1 ∧
   (∃ b0,Y=s.X gs.size tb gc b0∧∀ b,Mm.M b≠none->b≠b0)∧Holds (k+1) N (upd X k Y) (upd l k (flow k mc s.calls 0 false s.ans (nv (hiredS S tv tb gc))).2) E' M' { Mm with M:=λb=>if b=Y.ab then none else Mm.M b } z' cont' Ch' S' K v' B' Mb' Inb' 0 T' gs' w' q' ∧
   ∀ i,i<k+1->∀ b,Fut b->b≠Y.ab->M' i b=none:=by
 have cr:=H.crew;have st:=H.seats;have hm:=H.mem;have hvs:w.heap.size=v.heap.size:=H.rel.size;have hztb:z (v.heap.size+1)=none:=by
  cases hzz:z (v.heap.size+1) with
  |none=>rfl
  |some n=>have:=H.rel.low _ _ hzz;omega
 have hch0:=seat_ch cr st;have h0lt:0<gs.size:=(Qb hg).1;have hG1:GoesI Tryd.prog ((0:Nat)==0) (DT (ScZ z) Ch) (λg w'=>(∃ u',g=G (bFr1 S.wb (.slice (some ⟨bb,0,none⟩) n cap) s.F n k bb v.heap.size u') cs)∧Rel z { v with heap:=v.heap.push (.chan 0 #[] false 0 0 false) } w') (G (hFr S.wb (.slice (some ⟨bb,0,none⟩) n cap) n k u) cs) w :=
  hire_a s.F bb n cap k u cs hkn (sc.mem v cr.mine.1).1 H.rel cr.noRow (λv' w' u' hr hn he=>GoesI.stop λd=>⟨⟨u',rfl⟩,by subst he;exact hr.re rfl rfl rfl rfl rfl rfl⟩)
 obtain ⟨N1,gs1,a1,w1,sl1,T1,q1,B1,r1,z1,h1,⟨⟨u1,rfl⟩,hr1⟩,⟨hB1,hB1b,hB1c⟩,C1⟩:=hold_goes (λw d h=>kc_at w d h) (dh_of_dt hch0) hG1 gs sl T q B hg H.ring;have hw1s:w1.heap.size=v.heap.size+1:=by rw[hr1.size];simp
 have hG2:GoesI Tryd.prog ((0:Nat)==0) (λw w' es=>es=#[]∧w'.heap=w.heap.push (.cells (trow S.wb k v.heap.size 0 0 0 0) 107)) (λg w'=>g=G (bFr2 S.wb (.slice (some ⟨bb,0,none⟩) n cap) s.F n k bb v.heap.size (v.heap.size+1) u1) cs∧w'.heap=w1.heap.push (.cells (trow S.wb k v.heap.size 0 0 0 0) 107)∧w'.os=w1.os∧w'.output=w1.output) (G (bFr1 S.wb (.slice (some ⟨bb,0,none⟩) n cap) s.F n k bb v.heap.size u1) cs) w1 :=
  .step rfl (λd=>G (bFr2 S.wb (.slice (some ⟨bb,0,none⟩) n cap) s.F n k bb v.heap.size (w1.at d).heap.size u1) cs) (λd=>(w1.at d).alloc (.cells (trow S.wb k v.heap.size 0 0 0 0) 107)) (λ_=>#[]) (λd=>hire_box _ _ _ _ _ _ _ _ _ _) (λd=>⟨rfl,rfl⟩) (λd=>GoesI.stop λd'=>⟨by rw[show (w1.at d).heap.size=v.heap.size+1 from hw1s],rfl,rfl,rfl⟩)
 obtain ⟨N2,gs2,a2,w2,sl2,T2,q2,r2,z2,h2,⟨rfl,hw2,hw2o,hw2u⟩,C2⟩:=hold_mute (λw d h=>kc_at w d h) (λw w' es hD hK hc B=>by
  obtain ⟨rfl,hh⟩:=hD;refine ⟨λhK a ha=>?_,λi s c e hs=>?_,λe he=>by simp at he⟩
  .have:=hK a ha
   have hlt:=World.block_lt_of_cell? _ _ this;rw[World.cell?_of_block (w:=w) (w':=w') (by rw[hh,Array.getElem?_push_lt hlt,<-Qm])];exact this
  .obtain ⟨o,ho⟩:=hc i s c e hs
   have hlt:=(Qb ho).1;rw[hh,Array.getElem?_push_lt hlt,<-Qm]) hG2 gs1 sl1 T1 q1 B1 h1 C1
 have hk:S.thr.length=k:=H.len;have hs2:w2.heap.size=v.heap.size+2:=by rw[hw2];simp;omega
 have hB1':B1<=v.heap.size+1:=by have:=H.b;omega
 have hzne:∀ b m,z b=some m->b≠v.heap.size+1:=λb m hb e=>by rw[e,hztb] at hb;cases hb
 have hup:∀ a,ScZ z a->ScZ (zAdd z (v.heap.size+1)) a:=λa ha=>⟨ha.1,by unfold zAdd;rw[if_neg (hzne _ _ ha.2)];exact ha.2⟩
 have C3:Ring Tryd.prog (KC (ScZ (zAdd z (v.heap.size+1))) (contAdd cont (v.heap.size+1) v.heap.size)) (StillC (ScZ (zAdd z (v.heap.size+1)))) (v.heap.size+2) Mb Inb 0 T2 gs2 w2 q2:=by
  refine Ring.grow C2 (λx hx=>?_) (by omega) (λw hK a ha=>?_) (λa ha=>?_) (λi a hta hst hns=>?_)
  .obtain ⟨a,e,ha⟩:=hx
   exact ⟨a,e,hup a ha⟩
  .have:=hK a (hup a ha)
   unfold contAdd at this;rw[if_neg (hzne _ _ ha.2)] at this;exact this
  .by_cases e:a.block=v.heap.size+1
   .have hoff:a.off=2:=by have:=ha.2;unfold zAdd at this;rw[if_pos e] at this;exact (Qd this).symm
    obtain ⟨b,o,sp⟩:=a;have hsp:sp=none:=ha.1;simp only at e hoff;subst e hoff hsp;unfold contAdd;rw[if_pos rfl];have:w2.heap[v.heap.size+1]? = some (.cells (trow S.wb k v.heap.size 0 0 0 0) 107):=by rw[hw2,<-hw1s];exact Qo
    simp[World.cell?,this]
   .have hz':ScZ z a:=⟨ha.1,by
     have:=ha.2;unfold zAdd at this;rw[if_neg e] at this;exact this⟩
    unfold contAdd;rw[if_neg e];exact C2.keep a hz'
  .exfalso
   obtain ⟨op,hop,hopa⟩:=touch_of hta;have hlow:=touch_low hopa (C2.past.seen op (mem_of_getElem? hop));obtain ⟨x,hx,hxs⟩:=hst;rw[hx] at hlow;have hlow':x.block<B1:=hlow;refine hns ⟨x,hx,hxs.1,?_⟩;have:=hxs.2;unfold zAdd at this;rw[if_neg (by omega)] at this;exact this
 have hr2:Rel (zAdd z (v.heap.size+1)) (hireV S v) w2:=rel_hire H.rel hr1 (by rw[hk];exact hw2) hw2o hw2u;have hChlt:∀ c,Ch c->c<v.heap.size:=λc hc=>by obtain ⟨cp,m,hh⟩:=cr.opn c hc;exact (Qb hh).1
 have hn2:NoRow (λc=>Ch c∨c=v.heap.size) (hireV S v):=λc hc=>by
  rcases hc with hc|rfl
  .obtain ⟨o,h1,h2⟩:=cr.noRow c hc
   exact ⟨o,by rw[hireV_old S v (hChlt c hc)];exact h1,h2⟩
  exact ⟨_,hireV_chan S v,λ_ _ _ h=>by cases h⟩
 have hwbl:S.wb<v.heap.size:=hm.rep.lt (k:=0) rfl;have hths:∀ b,S.ths.ownBlock=some b->b<v.heap.size:=λb hb=>hm.rep.lt (k:=2) hb;have hG4:GoesI Tryd.prog ((0:Nat)==0) (DT (ScZ (zAdd z (v.heap.size+1))) (λc=>Ch c∨c=v.heap.size)) (Lift.AtHire Tryd.prog (KC (ScZ (zAdd z (v.heap.size+1))) (contAdd cont (v.heap.size+1) v.heap.size)) (StillC (ScZ (zAdd z (v.heap.size+1)))) 0 (some (Seat.one S.bk (.agg #[]) false (HBack S.wb (.slice (some ⟨bb,0,none⟩) n cap) n (k+1) cs))) (λchild w'=>child=born Tryd.prog (d49 (v.heap.size+1) s.F)∧∃ v',Rel (zAdd z (v.heap.size+1)) v' w'∧NoRow (λc=>Ch c∨c=v.heap.size) v'∧Threaded S.wb S.ths S.thr.length S.base (S.thr.map λt=>Pt t.tb 0) (Pt (v.heap.size+1) 0) (hireV S v) v')) (G (bFr2 S.wb (.slice (some ⟨bb,0,none⟩) n cap) s.F n k bb v.heap.size (v.heap.size+1) u1) cs) w2:=by
  refine hire_b S.wb n k bb v.heap.size (v.heap.size+1) S.bk _ s.F S.ths S.thr.length S.base (S.thr.map λt=>Pt t.tb 0) u1 cs _ (λg h=>h) (by omega) hkn hr2 hn2 ?_ ?_ ?_ ?_ (by omega) ?_ ?_ ?_ (λg w' hg=>hg)
  .rw[World.cell?_of_block (w:=v) (hireV_old S v hwbl)]
   exact hm.rep.wcell.2.2.2.2.1
  .have:=fz_off hm.rep 4 (by omega)
   unfold World.frozen? at this ⊢;rw[hireV_old S v hwbl];exact this
  exact own_stay (λb hb=>hireV_old S v (hths b hb)) hm.rep.ths
  .intro e
   have:=hm.rep.apart 2 0 S.wb e rfl;omega
  .have:=hm.rep.bs
   rw[hireV_size];omega
  exact (hup ⟨S.wb,8,none⟩ ⟨rfl,cr.z0.1⟩).2
  .unfold contAdd
   rw[if_neg (by show S.wb≠_;omega)];exact cr.z0.2.1
 have hbkO:∀ v',Threaded S.wb S.ths S.thr.length S.base (S.thr.map λt=>Pt t.tb 0) (Pt (v.heap.size+1) 0) (hireV S v) v'->Open v' S.bk:=λv' hT=>by
  obtain ⟨cp,m,hh⟩:=cr.opn S.bk cr.z0.2.2;have hlt:=hChlt _ cr.z0.2.2;obtain ⟨_,_,_,_,_,q5⟩:=hT;refine ⟨cp,m,?_⟩;rw[q5.block S.bk (by rw[hireV_size];omega) (λh=>?_),hireV_old S v hlt,hh];rcases h with h|h;rw[h,hm.rep.wor] at hh;cases hh
  .obtain ⟨x,e,f,h1⟩:=hm.row (b:=S.bk) (.inl ⟨2,h.symm⟩)
   rw[h1] at hh;cases hh
 have hup0:∀ g s' c,upd Inb 0 (some (Seat.one S.bk (.agg #[]) false (HBack S.wb (.slice (some ⟨bb,0,none⟩) n cap) n (k+1) cs))) g=some s'->s'.has c->Ch c∨c=v.heap.size:=λg s' c hg hc=>by
  by_cases e:g=0
  .subst e;rw[upd_same] at hg;cases hg
   rw[Seat.one_has.1 hc];exact .inl cr.z0.2.2
  rw[upd_ne _ _ e] at hg;exact .inl (hch0 g s' c hg hc)
 obtain ⟨N3,gs3,w3,child,d3,sl3,T3,q3,B3,r3,⟨rfl,v3,hr3,hn3,hT3⟩,z3,h3,⟨hB3,hB3b,hB3c⟩,C4⟩:=hire_on (Inb:=Inb) (Mem:=Mb) (h:=0) (λw d h=>kc_at w d h)
  (fun s' hs=>by
    cases hs;refine ⟨Seat.one_wf _ _ _ _,λg s'' c hg hs' hc hc'=>?_,λg w' hF c hc=>?_⟩
    .rw[Seat.one_has.1 hc'] at hc
     rcases st.who hs' hc with ⟨e,_⟩|⟨j,hj,_,e⟩
     exact hg e;exact cr.gbk j hj e.symm
    .obtain ⟨_,v',k1,k2,k3⟩:=hF
     rw[Seat.one_has.1 hc];exact open_rel (Ch:=λc=>Ch c∨c=v.heap.size) k1 k2 (.inl cr.z0.2.2) (hbkO v' k3))
  (dh_of_dt (λg s' c hg hc=>.inl (hch0 g s' c hg hc))) H.mb hG4 gs2 sl2 T2 q2 (v.heap.size+2) (st.none gs2.size (by omega) (λi hi e=>by have:=cr.hlt i hi;omega)) h2 C3
 have hgsz:gs2.size=gs.size:=z2.trans z1;obtain ⟨tv,hm3,hkeep,hown3,hch3,hs3⟩:=thr_add hm hztb hT3;have cr3:Crew k X l E M Mm (zAdd z (v.heap.size+1)) (contAdd cont (v.heap.size+1) v.heap.size) (λc=>Ch c∨c=v.heap.size) (hiredS S tv (v.heap.size+1) v.heap.size) K v3 (gs.size+1):=by
  refine cr.move hkeep hown3 (λi hi=>Qn (by omega)) (by show k<=(S.thr++[_]).length;simp;omega) rfl rfl (Nat.le_succ _) (λb m hb=>⟨?_,?_⟩) (λc hc=>.inl hc) (λc hc=>?_) (λc hc=>?_) (λc hc=>hc.imp id (λe=>by omega)) (by obtain ⟨_,_,_,_,_,q5⟩:=hT3;exact ⟨q5.os,q5.output⟩);unfold zAdd;rw[if_neg (hzne b m hb)];exact hb;unfold contAdd;rw[if_neg (hzne b m hb)]
  .unfold zAdd
   rcases hc with hc|rfl;rw[if_neg (by have:=hChlt c hc;omega)];exact cr.zc c hc
   .rw[if_neg (by omega)]
    cases hzz:z v.heap.size with
    |none=>rfl
    |some m=>have:=H.rel.low _ _ hzz;omega
  .rcases hc with hc|rfl
   .obtain ⟨cp,m,hh⟩:=cr.opn c hc
    refine ⟨cp,m,?_⟩;rw[hkeep c (hChlt c hc) (λho=>?_),hh];obtain ⟨x,e,f,h1⟩:=hm.row ho;rw[h1] at hh;cases hh
   exact ⟨0,0,hch3⟩
 have hb0:∀ b,Mm.M b≠none->b≠v3.heap.size:=λb hb e=>by have:=cr3.mine.1.lt hb;omega
 obtain ⟨f1,f2,f3,f4,f5,f6,f7,f8,f9,f10,f11,f12,f13,f14,f15⟩:=sc.fix gs.size (v.heap.size+1) v.heap.size v3.heap.size h0lt hb0;generalize hY:s.X gs.size (v.heap.size+1) v.heap.size v3.heap.size=Y at f1 f2 f3 f4 f5 f6 f7 f8 f9 f10 f11 f12 f13 f14 f15;have htk:(hiredS S tv (v.heap.size+1) v.heap.size).thr[k]? = some ⟨v.heap.size+1,v.heap.size,0,0,0,0⟩:=by show (S.thr++[_])[k]? = _;rw[<-hk];simp
 have hmm:=sc.mem v3 cr3.mine.1;have hYown:∀ b,Y.Pr b->¬ Own (hiredS S tv (v.heap.size+1) v.heap.size) K b:=λb hb=>by
  rcases f13 b hb with rfl|h1
  .intro ho
   have:=hm3.lt ho;omega
  exact cr3.mine.2.1 b h1
 have eR:flow Y.i mc Y.calls 0 false s.ans (nv (hiredS S tv (v.heap.size+1) v.heap.size))=flow k mc s.calls 0 false s.ans (nv (hiredS S tv (v.heap.size+1) v.heap.size)):=by rw[f3,f8]
 have hzY:zAdd z (v.heap.size+1) Y.tb=some 2:=by unfold zAdd;rw[f4,if_pos rfl]
 have hcY:contAdd cont (v.heap.size+1) v.heap.size ⟨Y.tb,2,none⟩=.chan (some Y.gc):=by unfold contAdd;rw[if_pos f4,f5]
 have hG5:GoesI Tryd.prog (gs2.size==0) (DT (ScZ (zAdd z (v.heap.size+1))) (λc=>Ch c∨c=v.heap.size)) (λg' w'=>∃ E' M',Gives Y (Home Y N) (zAdd z (v.heap.size+1)) (contAdd cont (v.heap.size+1) v.heap.size) (λc=>Ch c∨c=v.heap.size) (hiredS S tv (v.heap.size+1) v.heap.size) K v3 (λ_=>False) (flow k mc s.calls 0 false s.ans (nv (hiredS S tv (v.heap.size+1) v.heap.size))).1 K (flow k mc s.calls 0 false s.ans (nv (hiredS S tv (v.heap.size+1) v.heap.size))).2 E' M' g' w') (born Tryd.prog (d49 (v.heap.size+1) s.F)) (w3.at d3):=by
  refine GoesI.ctl rfl (λw=>born49 _ _ _ w) (dt_idle _ _) ?_;rw[hgsz,<-f2];have:=birth_goes (X:=Y) (z:=zAdd z (v.heap.size+1)) (Ch:=λc=>Ch c∨c=v.heap.size) (S:=hiredS S tv (v.heap.size+1) v.heap.size) (K:=K) (v:=v3) (w:=w3.at d3) (ans:=s.ans) (Stop:=λg' w'=>∃ E' M',Gives Y (Home Y N) (zAdd z (v.heap.size+1)) (contAdd cont (v.heap.size+1) v.heap.size) (λc=>Ch c∨c=v.heap.size) (hiredS S tv (v.heap.size+1) v.heap.size) K v3 (λ_=>False) (flow k mc s.calls 0 false s.ans (nv (hiredS S tv (v.heap.size+1) v.heap.size))).1 K (flow k mc s.calls 0 false s.ans (nv (hiredS S tv (v.heap.size+1) v.heap.size))).2 E' M' g' w') (P:=P) f1 f11.2.2 f11.2.1 N hzY hcY s.p1 s.p2 s.p3 s.p4 s.rr s.m s.cp s.ix sc.ix (hr3.re rfl rfl rfl rfl rfl rfl) hn3 hm3 (by rw[f3];exact htk) f4.symm f5.symm ⟨f7.symm,hkk⟩ f6 (by rw[f9];exact hmm.2.1) (by show _=some (Value.func (.func Y.fid) (mc.bn Y.caps) (mc.fr Y.caps));rw[f11.1,f11.2.1];exact hmm.2.2.1) hmm.2.2.2.1 hmm.2.2.2.2.1 (by rw[f10];exact hmm.2.2.2.2.2)
   (λv1 hg1 hbx=>f12 v1 (λb o hb=>by rw[hg1.old b (cr3.mine.1.lt (by rw[hb];simp))];exact cr3.mine.1 b o hb) (by rw[<-f6,<-f4];exact hbx)) hYown (by rw[eR];exact hl _ _ _) (λg' w' E' M' hgv=>⟨E',M',by rw[eR] at hgv;exact hgv⟩) _ rfl
  rw[f4] at this;exact this
 have sR:=flow_sta k mc s.calls 0 false s.ans (nv (hiredS S tv (v.heap.size+1) v.heap.size));have fR:∃ t',(flow k mc s.calls 0 false s.ans (nv (hiredS S tv (v.heap.size+1) v.heap.size))).1.thr[k]? = some t'∧FitsN (flow k mc s.calls 0 false s.ans (nv (hiredS S tv (v.heap.size+1) v.heap.size))).2 t':=by obtain ⟨t',h1,h2,_⟩:=flow_fs k mc s.calls 0 false s.ans (nv (hiredS S tv (v.heap.size+1) v.heap.size)) _ htk;exact ⟨t',h1,h2⟩
 have gR:∃ t',(flow k mc s.calls 0 false s.ans (nv (hiredS S tv (v.heap.size+1) v.heap.size))).1.thr[k]? = some t'∧StN (flow k mc s.calls 0 false s.ans (nv (hiredS S tv (v.heap.size+1) v.heap.size))).2 t':=by obtain ⟨t',h1,_,h2⟩:=flow_fs k mc s.calls 0 false s.ans (nv (hiredS S tv (v.heap.size+1) v.heap.size)) _ htk;exact ⟨t',h1,h2⟩
 generalize hR:flow k mc s.calls 0 false s.ans (nv (hiredS S tv (v.heap.size+1) v.heap.size))=R at hG5 sR fR gR;obtain ⟨N4,gs4,a4,w4,sl4,T4,q4,B4,r4,z4,h4,⟨E',M',hs',hnew',hat⟩,⟨hB4,hB4b,hB4c⟩,C5⟩:=hold_goes (λw d h=>kc_at w d h) (dh_of_dt hup0) hG5 gs3 sl3 T3 q3 B3 h3 C4;have hYh:Y.h=gs2.size:=by rw[f2,hgsz]
 rw[hYh] at hat
 have hbkl:=hChlt _ cr.z0.2.2;have habne:∀ c,(Ch c∨c=v.heap.size)->c≠Y.ab:=λc hc e=>by obtain ⟨cp,m,hh⟩:=cr3.opn c hc;have hlt:=(Qb hh).1;rcases f13 Y.ab (.inr (.inr (.inl rfl))) with h1|h1;omega;exact cr3.mine.2.2.1 _ h1 (e▸hc)
 have hopS:∀ {S':TS} {v':World},EvoP (λb=>b=Y.ab∨False) (zAdd z (v.heap.size+1)) (hiredS S tv (v.heap.size+1) v.heap.size) K v3 S' K v'->∀ c,(Ch c∨c=v.heap.size)->Open v' c:=λhe c hc=>by have hne:=habne c hc;obtain ⟨cp,m,hh⟩:=cr3.opn c hc;refine ⟨cp,m,?_⟩;rw[(he.keeps (Qb hh).1 (λh=>?_) (λh=>h.elim hne id)).1,hh];obtain ⟨x,e,f,h1⟩:=hm3.row h;rw[h1] at hh;cases hh
 have hupd2:∀ g s' c,upd (upd Inb 0 (some (Seat.one S.bk (.agg #[]) false (HBack S.wb (.slice (some ⟨bb,0,none⟩) n cap) n (k+1) cs)))) gs2.size (seatOf Y (Home Y N) R.2 E' M') g=some s'->s'.has c->Ch c∨c=v.heap.size:=λg s' c hg hc=>by
  by_cases e:g=gs2.size
  .subst e;rw[upd_same] at hg
   obtain ⟨rfl,_⟩:=seatOf_has hg;rw[Seat.one_has.1 hc];exact .inr f5
  rw[upd_ne _ _ e] at hg;exact hup0 g s' c hg hc
 have h0ne:(0:Nat)≠gs2.size:=by omega
 obtain ⟨N5,gs5,w5,g₃,d5,kk5,cap5,sl5,T5,q5,B5,r5,hF5,z5,h5,hh5,hch5,⟨hB5,hB5b,hB5c⟩,C6⟩:=pass_on (Inb:=upd Inb 0 (some (Seat.one S.bk (.agg #[]) false (HBack S.wb (.slice (some ⟨bb,0,none⟩) n cap) n (k+1) cs)))) (h:=gs2.size) (j:=0) (c:=S.bk) (kk:=0) (z:=.agg #[]) (s:=Seat.one S.bk (.agg #[]) false (HBack S.wb (.slice (some ⟨bb,0,none⟩) n cap) n (k+1) cs)) (λw d h=>kc_at w d h)
  (fun s' hs=>by
    obtain ⟨rfl,_⟩:=seatOf_has hs;refine ⟨Seat.one_wf _ _ _ _,λg s'' c hg hs'' hc hc'=>?_,λw' hF c hc=>?_⟩
    .have ec:c=Y.gc:=Seat.one_has.1 hc'
     rw[ec,f5] at hc;by_cases e:g=0
     .subst e;rw[upd_same] at hs'';cases hs''
      have:=Seat.one_has.1 hc;omega
     .rw[upd_ne _ _ e] at hs''
      have:=hChlt _ (hch0 g s'' _ hs'' hc);omega
    .obtain ⟨v4,S',k1,k2,k3,k4,k5⟩:=hF
     rw[show c=Y.gc from Seat.one_has.1 hc,f5];exact open_rel (Ch:=λc=>Ch c∨c=v.heap.size) k1 k2 (.inr rfl) (hopS k4 _ (.inr rfl)))
  (λw g s' c cap buf cl a b tm hg hc hK=>kc_chan (cr3.zc c (hupd2 g s' c hg hc)) hK cap buf cl a b tm)
  (λw g s' c cap buf cl a b tm hg hc hK=>kc_chan (cr3.zc c (hup0 g s' c hg hc)) hK cap buf cl a b tm)
  (D:=DT (ScZ (zAdd z (v.heap.size+1))) (λc=>Ch c∨c=v.heap.size)) (dh_of_dt hup0) h0ne (upd_same _ _ _) rfl (.inr rfl)
  (GoesI.stop (λd=>atGive_at (λd hF=>by obtain ⟨v4,S',k1,k2⟩:=hF;exact ⟨v4,S',k1.re rfl rfl rfl rfl rfl rfl,k2⟩) hat d)) gs4 sl4 T4 q4 B4 (by omega) h4 C5
 obtain ⟨v4,S',hr4,hn4,hS',he4,hM4,hfar4⟩:=hF5;rw[<-hS'] at sR fR gR;have sR':Sta k (hiredS S tv (v.heap.size+1) v.heap.size) S':=⟨sR.wb,sR.bk,sR.base,sR.us,sR.la,sR.sc,sR.cv,sR.ths,sR.sched,sR.stk,sR.ran,sR.n,sR.chg,sR.len,sR.oth,sR.own⟩
 have hrd:∀ b,Fut b->b<v3.heap.size:=λb hb=>cr3.mine.1.lt (hfm b hb);have cr4:Crew (k+1) (upd X k Y) (upd l k R.2) (upd E k E') (upd M k M') { Mm with M:=λb=>if b=Y.ab then none else Mm.M b } (zAdd z (v.heap.size+1)) (contAdd cont (v.heap.size+1) v.heap.size) (λc=>Ch c∨c=v.heap.size) S' K v4 (gs.size+1):=by
  refine cr3.add he4 sR' fR hs' hM4 hfar4 hnew' ⟨f1,f3,f7.symm,hkk⟩ hkk ⟨_,htk,f4.symm,f5.symm⟩ hm3 (λj hj e=>?_) (λj hj e=>?_) ?_ (by rw[f2];omega) ⟨hzY,hcY,.inr f5⟩ (λj hj b hb e=>?_) (λb hb e=>?_) (λb o hb=>?_) (λb hb=>?_) ⟨rfl,rfl⟩
  .have:=cr.hlt j hj
   rw[e,f2] at this;omega
  .have:=hChlt _ (cr.zs j hj).2.2
   rw[e,f5] at this;omega
  .rw[f5]
   show v.heap.size≠S.bk;omega
  .rcases f15 with h1|h1
   .have:=(cr3.sees j hj).2.1.lt hb
    omega
   exact hb (hfut j hj b (by rw[e];exact h1))
  .simp only at hb
   rw[if_pos e] at hb;exact hb rfl
  .simp only at hb
   split at hb;cases hb;exact hb
  .rcases f13 b hb with rfl|h1
   exact .inl (Qi _);exact .inr h1
 have hwb':S'.wb=S.wb:=sR'.wb;have hbk':S'.bk=S.bk:=sR'.bk;have hv4c:v4.heap[S.bk]? = some (.chan cap5 #[] false kk5 kk5 false):=by rw[<-noRow_rel (Ch:=λc=>Ch c∨c=v.heap.size) hr4 hn4 (.inl cr.z0.2.2)];exact hch5
 have cr5:=cr4.chan (.inl cr.z0.2.2) cap5 (kk5+1);have hm5:Mem (zAdd z (v.heap.size+1)) S' K (v4.setChan S.bk cap5 #[] false (kk5+1) (kk5+1) false):=he4.mem.chan hv4c (λ_ _ _ h=>by cases h) cap5 #[] false (kk5+1) (kk5+1) false;have hr5:=rel_chan hr4 (cr3.zc _ (.inl cr.z0.2.2)) cap5 #[] false (kk5+1) (kk5+1) false d5;generalize hv5:v4.setChan S.bk cap5 #[] false (kk5+1) (kk5+1) false=v5 at cr5 hm5 hr5;generalize hw6:(w5.at d5).setChan S.bk cap5 #[] false (kk5+1) (kk5+1) false=w6 at hr5 C6 r5;have hw6s:w6.heap.size=w5.heap.size:=by rw[<-hw6];simp[World.setChan,World.at]
 have hG6:GoesI Tryd.prog ((0:Nat)==0) (DT (ScZ (zAdd z (v.heap.size+1))) (λc=>Ch c∨c=v.heap.size)) (λg w'=>(∃ u,g=G (hFr S.wb (.slice (some ⟨bb,0,none⟩) n cap) n (k+1) u) cs)∧Rel (zAdd z (v.heap.size+1)) v5 w') (Go.Conc.served g₃ (commResult (Seat.one S.bk (.agg #[]) false (HBack S.wb (.slice (some ⟨bb,0,none⟩) n cap) n (k+1) cs)).cases (Seat.one S.bk (.agg #[]) false (HBack S.wb (.slice (some ⟨bb,0,none⟩) n cap) n (k+1) cs)).shape ((0:Nat):Int) (.agg #[]) true)) w6:=by have hhome:HBack S.wb (.slice (some ⟨bb,0,none⟩) n cap) n (k+1) cs g₃:=hh5;exact hhome _ _ _ w6 (dt_idle _ _) (λu=>GoesI.stop λd=>⟨⟨u,rfl⟩,hr5.re rfl rfl rfl rfl rfl rfl⟩)
 obtain ⟨N6,gs6,a6,w7,sl6,T6,q6,B6,r6,z6,h6,⟨⟨u6,rfl⟩,hr7⟩,⟨hB6,hB6b,hB6c⟩,C7⟩:=hold_goes (λw d h=>kc_at w d h) (dh_of_dt hupd2) hG6 gs5 sl5 T5 q5 B5 h5 C6;have hsz:gs6.size=gs.size+1:=by omega
 refine ⟨N1+N2+N3+N4+N5+N6,gs6,w7,sl6,T6,q6,B6,_,_,_,_,_,S',v5,upd E k E',upd M k M',u6,tv,v.heap.size+1,v.heap.size,Y,runNT_then (runNT_then (runNT_then (runNT_then (runNT_then r1 r2) r3) r4) r5) r6,hsz,by rw[hwb'];exact h6,by rw[hR];exact hS',⟨v3.heap.size,hY.symm,hb0⟩,⟨C7,⟨.inl ⟨H.mb,by rw[upd_same];simp⟩,.inr rfl⟩,?_,hr7,hm5,by rw[hsz,hR];exact cr5,?_,?_,λj hj t0 hj0=>?_⟩,λj hj b hb hne=>?_⟩
 .have h9:(w3.at d3).heap.size=w3.heap.size:=rfl
  omega
 .rw[hbk',hR]
  refine ⟨λj hj=>?_,λg hg0 hgn=>?_,λs' c hs hc=>?_⟩
  .by_cases e:j=k
   .subst e
    exact ⟨N,Qi _,by rw[upd_same,upd_same,upd_same,upd_same,hYh,upd_same]⟩
   .have hjk:j<k:=by omega
    have hlt:=cr.hlt j hjk;obtain ⟨m,hm',hsm⟩:=st.seat j hjk;have hj0:=(cr.ok j hjk).1.h;exact ⟨m,hm',by rw[upd_ne _ _ e,upd_ne _ _ e,upd_ne _ _ e,upd_ne _ _ e,upd_ne _ _ (by omega),upd_ne _ _ (by omega)];exact hsm⟩
  .have hk':=hgn k (by omega)
   rw[upd_same,hYh] at hk';rw[upd_ne _ _ (Ne.symm hk'),upd_ne _ _ hg0];refine st.none g hg0 (λi hi=>?_);have:=hgn i (by omega);rw[upd_ne _ _ (by omega)] at this;exact this
  .rw[upd_ne _ _ h0ne,upd_same] at hs
   cases hs;exact Seat.one_has.1 hc
 .rw[sR'.len]
  show (S.thr++[_]).length=k+1;simp;omega
 .rw[hR]
  by_cases e:j=k
  .subst e
   rw[upd_same];obtain ⟨t',k1,k2⟩:=gR;have e2:some t0=some t':=hj0.symm.trans k1;cases e2;exact k2
  .have hjk:j<k:=by omega
   rw[upd_ne _ _ e];rw[sR'.oth j e] at hj0;have hj1:(S.thr++[_])[j]? = some t0:=hj0;rw[Qn (by omega)] at hj1;exact H.stt j hjk t0 hj1
 .by_cases e:j=k
  .subst e
   rw[upd_same];cases hMb:M' b with
   |none=>rfl
   |some o =>
    exfalso;have hne':M' b≠none:=by rw[hMb];simp
    rcases hs'.dom b hne' with h1|h1;exact hne (f14 b h1 hb)
    .rcases hnew' b h1 with h2|h2
     exact h2;have:=hrd b hb;omega
  .rw[upd_ne _ _ e]
   exact hfut j (by omega) b hb
end
variable {mc:Mc}{fid:FuncId}{P:Pkg mc fid}
inductive Scripts (P:Pkg mc fid) (bb:Nat) (kb:List Nat):Nat->(Nat->Option Obj)->(Nat->Prop)->List (Scr mc)->Prop
 |nil {k:Nat} {Mm:Nat->Option Obj} {Fut:Nat->Prop}:Scripts P bb kb k Mm Fut []
 |cons {k:Nat} {Mm:Nat->Option Obj} {Fut:Nat->Prop} {s:Scr mc} {ss:List (Scr mc)}:Script P Mm Fut k bb kb s->(∀ h tb gc b0,(∀ b,Mm b≠none->b≠b0)->Scripts P bb kb (k+1) (λb=>if b=(s.X h tb gc b0).ab then none else Mm b) (λb=>Fut b∧b≠(s.X h tb gc b0).ab) ss)->Scripts P bb kb k Mm Fut (s :: ss)
inductive Hires (nk:Mc):Nat->List (Scr mc)->TS->(Nat->Ph)->TS->(Nat->Ph)->Prop
 |nil {k:Nat} {S:TS} {l:Nat->Ph}:Hires nk k [] S l S l
 |cons {k:Nat} {s:Scr mc} {ss:List (Scr mc)} {S S':TS} {l l':Nat->Ph} (tv:Value) (tb gc:Nat):Hires nk (k+1) ss (flow k nk s.calls 0 false s.ans (hiredS S tv tb gc)).1 (upd l k (flow k nk s.calls 0 false s.ans (hiredS S tv tb gc)).2) S' l'->Hires nk k (s :: ss) S l S' l'
def lens (ss:List (Scr mc)):Nat:=(ss.map λs=>s.calls.length).sum
theorem flow_le (i:Nat) (m:Mc):∀ (rest:List Cl) (ii:Nat) (sk:Bool) (ans:List (Int×Int)) (S:TS),(flow i m rest ii sk ans S).1.n<=S.n+2*rest.length
 | [],ii,sk,ans,S=>Qi _
 |c :: rest,ii,true,ans,S=>by have:=flow_le i m rest (ii+1) true (ans.set ii (4,0)) S;show (flow i m rest (ii+1) true (ans.set ii (4,0)) S).1.n<=_;simp only[List.length_cons];omega
 |c :: rest,ii,false,ans,S=>by
  have key:∀ (a:Int×Int),(flow i m rest (ii+1) (a.1==4) (ans.set ii a) (noted (noted S undef i 9 (-1) ii 0) undef i 10 (-1) ii a.1)).1.n<=S.n+2*(c :: rest).length:=λa=>by have:=flow_le i m rest (ii+1) (a.1==4) (ans.set ii a) (noted (noted S undef i 9 (-1) ii 0) undef i 10 (-1) ii a.1);have e:(noted (noted S undef i 9 (-1) ii 0) undef i 10 (-1) ii a.1).n=S.n+2:=rfl;simp only[List.length_cons];omega
  have seat:∀ (s o j:Int),(waiting (noted S undef i 9 (-1) ii 0) i (thrI S i) s o j).n<=S.n+2*(c :: rest).length:=λs o j=>by show S.n+1<=_;simp only[List.length_cons];omega
  unfold flow;split;exact key (_,_);exact seat _ _ _;exact seat _ _ _
def XsOf (k:Nat) (ss:List (Scr mc)) (X:Nat->Fix mc):Prop:=∀ j s,ss[j]? = some s->∃ h tb gc b0,X (k+j)=s.X h tb gc b0
theorem Holds.lower {k N N':Nat}{X:Nat->Fix mc}{l:Nat->Ph}{E:Nat->Nat->Prop}{M:Nat->Nat->Option Obj}{Mm:Keep}{z:Nat->Option Nat}{cont:Addr->Value}{Ch:Nat->Prop}{v:World}{B:Nat}{Mb:Nat->Prop}{Inb:Nat->Option Seat}{h:Nat}{T:Trace}{gs:Array Goroutine}{q:Nat->Nat}
 (H:Holds k N X l E M Mm z cont Ch S K v B Mb Inb h T gs w q) (hN:N'<=N):Holds k N' X l E M Mm z cont Ch S K v B Mb Inb h T gs w q :=
 ⟨H.ring,H.mb,H.b,H.rel,H.mem,H.crew,⟨λi hi=>by obtain ⟨n,h1,h2⟩:=H.seats.seat i hi;exact ⟨n,by omega,h2⟩,H.seats.none,H.seats.main⟩,H.len,H.stt⟩
theorem hires_run (P:Pkg mc fid) {N:Nat}(hkk:KOk mc K) (hn8:n<=8):∀ (ss:List (Scr mc)) (k:Nat) (X:Nat->Fix mc) (l:Nat->Ph) (E:Nat->Nat->Prop) (M:Nat->Nat->Option Obj) (Mm:Keep) (z:Nat->Option Nat) (cont:Addr->Value) (Ch:Nat->Prop) (S:TS) (v:World) (B:Nat) (Mb:Nat->Prop) (Inb:Nat->Option Seat) (T:Trace) (gs:Array Goroutine) (w:World) (q:Nat->Nat) (sl:Option (Nat×Nat)) (u:Nat->Value) (Fut:Nat->Prop),
 k+ss.length=n->Scripts P bb (K.map (·.1)) k Mm.M Fut ss->(∀ b,Fut b->Mm.M b≠none)->(∀ i,i<k->∀ b,Fut b->M i b=none)->S.n+2*lens ss<=1000000 ->
 Holds k N X l E M Mm z cont Ch S K v B Mb Inb 0 T gs w q->gs[0]? = some (G (hFr S.wb (.slice (some ⟨bb,0,none⟩) n cap) n k u) cs) ->
 ∃ (N':Nat) (gs':Array Goroutine) (w':World) (sl':Option (Nat×Nat)) (T':Trace) (q':Nat->Nat) (B':Nat) (Mb':Nat->Prop) (Inb':Nat->Option Seat) (z':Nat->Option Nat) (cont':Addr->Value) (Ch':Nat->Prop) (S':TS) (v':World) (X':Nat->Fix mc) (l':Nat->Ph) (E':Nat->Nat->Prop) (M':Nat->Nat->Option Obj) (Mm':Keep) (u':Nat->Value),
   runNT Tryd.prog N' (crowd gs w sl) T=(.next (crowd gs' w' sl'),T')∧gs'.size=gs.size+ss.length∧gs'[0]? = some (G (hFr S'.wb (.slice (some ⟨bb,0,none⟩) n cap) n n u') cs)∧Hires mc k ss (nv S) l (nv S') l' ∧
   Holds n N X' l' E' M' Mm' z' cont' Ch' S' K v' B' Mb' Inb' 0 T' gs' w' q'∧(∀ j,j<k->X' j=X j)∧XsOf k ss X'∧(Mm'.os=Mm.os∧Mm'.out=Mm.out)∧(∀ b o,Mm'.M b=some o->Mm.M b=some o)∧(∀ b o,Mm.M b=some o->Mm'.M b=some o∨∃ j,k<=j∧j<n∧b=(X' j).ab∧b≠(X' j).bb)∧S'.sched=S.sched:=by
 intro ss;induction ss with
 |nil =>
  intro k X l E M Mm z cont Ch S v B Mb Inb T gs w q sl u Fut hkn _ _ _ _ H hg;obtain rfl:k=n:=by simpa using hkn
  exact ⟨0,gs,w,sl,T,q,B,Mb,Inb,z,cont,Ch,S,v,X,l,E,M,Mm,u,rfl,rfl,hg,.nil,H,λ_ _=>rfl,(λj s h=>by simp at h),⟨rfl,rfl⟩,λ_ _ h=>h,λ_ _ h=>.inl h,rfl⟩
 |cons s ss ih =>
  intro k X l E M Mm z cont Ch S v B Mb Inb T gs w q sl u Fut hkn hsc hfm hfut hlen H hg;cases hsc with
  |cons sc hmore =>
   have hk:k<n:=by simp only[List.length_cons] at hkn;omega
   have hls:lens (s :: ss)=s.calls.length+lens ss:=by simp[lens]
   have hl:∀ tv tb gc,(flow k mc s.calls 0 false s.ans (nv (hiredS S tv tb gc))).1.n*40<=140737488355328:=λtv tb gc=>by have:=flow_le k mc s.calls 0 false s.ans (nv (hiredS S tv tb gc));have e:(nv (hiredS S tv tb gc)).n=S.n:=rfl;omega
   obtain ⟨N1,gs1,w1,sl1,T1,q1,B1,Mb1,Inb1,z1,cont1,Ch1,S1,v1,E1,M1,u1,tv,tb,gc,Y,r1,hz1,h1,hS1,⟨b0,hY,hb0⟩,H1,hf1⟩:=hire_one P H hg hk hn8 sl hfm hfut sc hkk hl;have hn1:S1.n+2*lens ss<=1000000:=by have e1:(nv S1).n=(flow k mc s.calls 0 false s.ans (nv (hiredS S tv tb gc))).1.n:=congrArg TS.n hS1;have e2:(nv S1).n=S1.n:=rfl;have:=flow_le k mc s.calls 0 false s.ans (nv (hiredS S tv tb gc));have e:(nv (hiredS S tv tb gc)).n=S.n:=rfl;omega
   have hsc1:S1.sched=S.sched:=(congrArg TS.sched hS1).trans (flow_sta k mc s.calls 0 false s.ans (nv (hiredS S tv tb gc))).sched;obtain ⟨N2,gs2,w2,sl2,T2,q2,B2,Mb2,Inb2,z2,cont2,Ch2,S2,v2,X2,l2,E2,M2,Mm2,u2,r2,hz2,h2,hH2,H2,hX2,hXs2,hio2,hMa2,hMb2,hsc2⟩:=ih (k+1) (upd X k Y) _ E1 M1 _ z1 cont1 Ch1 S1 v1 B1 Mb1 Inb1 T1 gs1 w1 q1 sl1 u1 (λb=>Fut b∧b≠Y.ab) (by simp only[List.length_cons] at hkn;omega) (by rw[hY];exact hmore _ tb gc b0 hb0) (λb hb=>by show (if b=Y.ab then none else Mm.M b)≠none;rw[if_neg hb.2];exact hfm b hb.1) (λi hi b hb=>hf1 i hi b hb.1 hb.2) hn1 H1 h1
   have hYk:X2 k=Y:=by rw[hX2 k (by omega),upd_same]
   refine ⟨N1+N2,gs2,w2,sl2,T2,q2,B2,Mb2,Inb2,z2,cont2,Ch2,S2,v2,X2,l2,E2,M2,Mm2,u2,runNT_then r1 r2,by simp only[List.length_cons];omega,h2,.cons tv tb gc (by rw[hS1] at hH2;exact hH2),H2,λj hj=>by rw[hX2 j (by omega),upd_ne _ _ (by omega)],λj s' hj=>?_,hio2,λb o hb=>?_,λb o hb=>?_,hsc2.trans hsc1⟩
   .match j,hj with
    |0,hj =>
     obtain rfl:s=s':=by simpa using hj
     exact ⟨gs.size,tb,gc,b0,by rw[Nat.add_zero,hYk,hY]⟩
    |j+1,hj =>obtain ⟨h,tb',gc',b',e⟩:=hXs2 j s' (by simpa using hj);exact ⟨h,tb',gc',b',by rw[show k+(j+1)=k+1+j by omega];exact e⟩
   .have:=hMa2 b o hb
    have h':(if b=Y.ab then none else Mm.M b)=some o:=this;split at h';cases h';exact h'
   .by_cases e:b=Y.ab
    .have hpos:0<gs.size:=(Qb hg).1
     exact .inr ⟨k,Qi _,hk,by rw[hYk];exact e,by rw[hYk,hY,(sc.fix gs.size tb gc b0 hpos hb0).2.2.2.2.2.1];exact hb0 b (by rw[hb];simp)⟩
    .rcases hMb2 b o (by show (if b=Y.ab then none else Mm.M b)=some o;rw[if_neg e];exact hb) with h|⟨j,h1,h2,h3⟩
     exact .inl h;exact .inr ⟨j,by omega,h2,h3⟩
theorem has_rel {z:Nat->Option Nat}{v:World}{m:Nat->Option Obj}(hm:Mem z S K v) (hr:Rel z v w) (h:Has m v) (hf:∀ b,m b≠none->¬ Own S K b):Has m w:=λb o hb=>by
 have hz:z b=none:=by
  cases hz:z b with
  |none=>rfl
  |some n =>
   exfalso;refine hf b (by rw[hb];simp) ?_;rcases hm.rep.kept b n hz with ⟨rfl,_⟩|⟨i,t,ht,rfl,_⟩
   exact .inl ⟨0,rfl⟩;exact .inl ⟨i+5,by simp[blk,ht]⟩
 rw[hr.heap,hz,h b o hb];simp[zap_none]
theorem run35_all (P:Pkg mc fid) (hkk:KOk mc K) {bc:Frame}{ac:Act}{ops:Array Oper}{q0:Nat}{rest:List Nat}{oc:Oper}{k0:List Item}(hoc:ops[q0]? = some oc) {B:Nat}{T:Trace}{gs:Array Goroutine}{q:Nat->Nat}(sl:Option (Nat×Nat)) {Mm:Keep}{Fut:Nat->Prop}{ss:List (Scr mc)}(NT:Nat)
 (hL:Leavers Tryd.prog T gs q) (hP:Past (λ_=>False) B T) (hB:B<=w.heap.size)
 (hg:gs[0]? = some (G ((base 95).at { tmps:=#[Pt S.wb 0,.slice (some ⟨bb,0,none⟩) n cap]++Array.replicate 60 undef,defers:=[] } [.code B35]) (bc.at ac (.inRegion ops (q0 :: rest) :: k0) :: cs)))
 (hm:Mem zn S K w) (hthr:S.thr=[]) (hran:S.ran=false) (hbk:Open w S.bk) (hM:Has Mm.M w) (hMo:∀ b,Mm.M b≠none->¬ Own S K b) (hMb:Mm.M S.bk=none) (hio:w.os=Mm.os∧w.output=Mm.out)
 (hfm:∀ b,Fut b->Mm.M b≠none) (sc:Scripts P bb (K.map (·.1)) 0 Mm.M Fut ss) (hn:ss.length=n) (hn8:n<=8) (hlen:S.n+2*lens ss<=1000000) (hsl:S.sched.length<=4611686018427387904) (hsc:∀ x∈S.sched,-9223372036854775808<=x∧x<9223372036854775808) (l0:Nat->Ph)
 (hturn:∀ S1 l1,Hires mc 0 ss (nv { S with ran:=true }) l0 S1 l1->∃ m p',m<=NT∧Turns mc m ⟨S1,K,l1⟩ p'∧p'.S.n*40<=140737488355328):
 ∃ (N':Nat) (gs':Array Goroutine) (w':World) (sl':Option (Nat×Nat)) (T':Trace) (q':Nat->Nat) (B':Nat) (S':TS) (X:Nat->Fix mc) (Mm':Keep) (S1:TS) (l1:Nat->Ph) (m:Nat) (p':PSt),
   runNT Tryd.prog N' (crowd gs w sl) T=(.next (crowd gs' w' sl'),T')∧gs'.size=gs.size+n∧gs'[0]? = some (G (bc.at (ac.put oc.dst (.tuple #[])) (.inRegion ops rest :: k0)) cs) ∧
   Leavers Tryd.prog T' gs' q'∧Past (λ_=>False) B' T'∧B'<=w'.heap.size∧Mem zn S' p'.K w'∧nv S'=p'.S∧Hires mc 0 ss (nv { S with ran:=true }) l0 S1 l1∧Turns mc m ⟨S1,K,l1⟩ p' ∧
   Has Mm'.M w'∧(∀ b,Mm'.M b≠none->¬ Own S' p'.K b)∧(w'.os=Mm.os∧w'.output=Mm.out)∧XsOf 0 ss X∧(∀ i,i<n->PM (X i) (p'.l i).ans w'∧∃ a,p'.l i=.done a)∧(∀ b o,Mm'.M b=some o->Mm.M b=some o)∧(∀ b o,Mm.M b=some o->Mm'.M b=some o∨∃ j,j<n∧b=(X j).ab∧b≠(X j).bb):=by
 have hbkw:S.bk≠S.wb:=λe=>by obtain ⟨cp,m,hh⟩:=hbk;rw[e,hm.rep.wor] at hh;cases hh
 have hbkO:¬ Own S K S.bk:=λho=>by obtain ⟨cp,m,hh⟩:=hbk;obtain ⟨x,e,f,h1⟩:=hm.row ho;rw[h1] at hh;cases hh
 obtain ⟨z,hz⟩:∃ z:Nat->Option Nat,z=λb=>if b=S.wb then some 8 else none:=⟨_,rfl⟩
 have hzwb:z S.wb=some 8:=by rw[hz];simp
 have hzno:∀ b,b≠S.wb->z b=none:=λb hb=>by rw[hz];simp[hb]
 obtain ⟨v,hvw,hmv,hvo,hvu⟩:=hm.freeze (z:=z) (λb n hb=>by by_cases e:b=S.wb;rw[e,hzwb] at hb;cases hb;exact .inl ⟨e,rfl⟩;rw[hzno b e] at hb;cases hb)
 have hsame:∀ b,b≠S.wb->v.heap[b]? = w.heap[b]?:=λb hb=>by have:=hvw.heap b;rw[hzno b hb] at this;rw[this];cases v.heap[b]?<;>simp[zap_none]
 have hMw:∀ b,Mm.M b≠none->b≠S.wb:=λb hb e=>hMo b hb (.inl ⟨0,by rw[e];rfl⟩);have hMv:Has Mm.M v:=λb o hb=>by rw[hsame b (hMw b (by rw[hb];simp))];exact hM b o hb
 have hOv:Open v S.bk:=by obtain ⟨cp,m,hh⟩:=hbk;exact ⟨cp,m,by rw[hsame _ hbkw];exact hh⟩
 have hK:KC (ScZ z) (λ_=>.chan (some S.bk)) w:=λa ha=>by
  obtain ⟨b,o,sp⟩:=a;have h1:sp=none:=ha.1;have h2:z b=some o:=ha.2;by_cases e:b=S.wb
  .rw[e,hzwb] at h2
   cases h2;rw[e,h1];exact hm.rep.wcell.2.2.2.2.2.2.2.2
  rw[hzno b e] at h2;cases h2
 have C0:Ring Tryd.prog (KC (ScZ z) (λ_=>.chan (some S.bk))) (StillC (ScZ z)) B (λg=>g=0) (λ_=>none) 0 T gs w q:=ring_begin (λx hx=>by obtain ⟨a,rfl,_⟩:=hx;rfl) hL hP hK;have hn0:NoRow (λc=>c=S.bk) v:=λc hc=>by subst hc;obtain ⟨cp,m,hh⟩:=hOv;exact ⟨_,hh,λ_ _ _ e=>by cases e⟩
 have hG:GoesI Tryd.prog ((0:Nat)==0) (DT (ScZ z) (λc=>c=S.bk)) (λg w'=>(∃ u,g=G (hFr S.wb (.slice (some ⟨bb,0,none⟩) n cap) n 0 u) (bc.at ac (.inRegion ops (q0 :: rest) :: k0) :: cs))∧∃ v',Rel z v' w'∧Evo z S K v { S with ran:=true } K v') (G ((base 95).at { tmps:=#[Pt S.wb 0,.slice (some ⟨bb,0,none⟩) n cap]++Array.replicate 60 undef,defers:=[] } [.code B35]) (bc.at ac (.inRegion ops (q0 :: rest) :: k0) :: cs)) w :=
  run35_in (some ⟨bb,0,none⟩) n cap _ hvw hn0 hmv hran (λv' w' u hr hn he=>GoesI.stop λd=>⟨⟨u,rfl⟩,v',hr.re rfl rfl rfl rfl rfl rfl,he⟩) B35 rfl
 obtain ⟨N1,gs1,a1,w1,sl1,T1,q1,B1,r1,z1,h1,⟨⟨u1,rfl⟩,v1,hr1,he1⟩,⟨hB1,hB1b,hB1c⟩,C1⟩:=hold_goes (Inb:=λ_=>none) (Mem:=λg=>g=0) (λw d h=>kc_at w d h) (dh_of_dt (λi s c e=>by cases e)) hG gs sl T q B hg C0;have hp1:EvoP (λ_=>False) z S K v { S with ran:=true } K v1:=he1.toP;have hO1:Open v1 S.bk:=open_stay hmv hp1 hOv (λ_ h=>h.elim);have hM1:=keepM hp1 hMv hMo (λ_ _ h=>h);have H0:Holds 0 NT (λ_=>⟨0,0,0,0,0,[],none,0,0,undef,0,0,0,0,#[],λ_=>none,[]⟩:Nat->Fix mc) l0 (λ_ _=>False) (λ_ _=>none) Mm z (λ_=>.chan (some S.bk)) (λc=>c=S.bk) { S with ran:=true } K v1 B1 (λg=>g=0) (λ_=>none) 0 T1 gs1 w1 q1:=by refine ⟨C1,rfl,by omega,hr1,he1.mem,⟨Nat.zero_le _,λi hi=>by omega,λi hi=>by omega,λi j hi=>by omega,λi j hi=>by omega,λi hi=>by omega,λi hi=>by omega,λi hi=>by omega,⟨hzwb,rfl,rfl⟩,λc hc=>?_,λc hc=>?_,λi hi=>by omega,λi j hi=>by omega,⟨hM1.1,hM1.2,λb hb hc=>?_,λi hi=>by omega,?_,?_⟩⟩,⟨λi hi=>by omega,λ_ _ _=>rfl,λs c h=>by cases h⟩,by show S.thr.length=0;rw[hthr];rfl,λi hi=>by omega⟩;rw[hc];exact hzno _ hbkw;rw[hc];exact hO1;rw[hc] at hb;exact hb hMb;rw[he1.fr.os,hvo];exact hio.1;rw[he1.fr.output,hvu];exact hio.2
 obtain ⟨N2,gs2,w2,sl2,T2,q2,B2,Mb2,Inb2,z2,cont2,Ch2,S2,v2,X2,l2,E2,M2,Mm2,u2,r2,hz2,h2,hH2,H2,_,hXs,hio2,hMa,hMb',hsc2⟩:=hires_run P hkk hn8 ss 0 _ l0 _ _ Mm z _ _ { S with ran:=true } v1 B1 _ _ T1 gs1 w1 q1 sl1 u1 Fut (by omega) sc hfm (λi hi=>by omega) hlen H0 h1;obtain ⟨m,p',hmNT,hT,hpn⟩:=hturn (nv S2) l2 hH2;have hG3:GoesI Tryd.prog ((0:Nat)==0) (DT (ScZ z2) Ch2) (λg w'=>(∃ u,g=G (tFr S2.wb u) (bc.at ac (.inRegion ops (q0 :: rest) :: k0) :: cs))∧Rel z2 v2 w') (G (hFr S2.wb (.slice (some ⟨bb,0,none⟩) n cap) n n u2) (bc.at ac (.inRegion ops (q0 :: rest) :: k0) :: cs)) w2 :=
  hire_done _ n u2 _ (λu=>GoesI.stop λd=>⟨⟨u,rfl⟩,H2.rel.re rfl rfl rfl rfl rfl rfl⟩)
 obtain ⟨N3,gs3,a3,w3,sl3,T3,q3,B3,r3,z3,h3,⟨⟨u3,rfl⟩,hr3⟩,⟨hB3,hB3b,hB3c⟩,C3⟩:=hold_goes (λw d h=>kc_at w d h) (dh_of_dt (seat_ch H2.crew H2.seats)) hG3 gs2 sl2 T2 q2 B2 h2 H2.ring;have H3:Holds n NT X2 l2 E2 M2 Mm2 z2 cont2 Ch2 S2 K v2 B3 Mb2 Inb2 0 T3 gs3 w3 q3:=⟨C3,H2.mb,by have:=H2.b;omega,hr3,H2.mem,by rw[z3];exact H2.crew,H2.seats,H2.len,H2.stt⟩
 have es:S2.sched=S.sched:=hsc2;obtain ⟨N4,gs4,w4,sl4,T4,q4,B4,Mb4,Inb4,S4,v4,E4,M4,r4,z4,h4,hS4,H4,hd⟩:=turns_run hoc hn8 m ⟨nv S2,K,l2⟩ p' hT l2 E2 M2 S2 K v2 B3 Mb2 Inb2 T3 gs3 w3 q3 sl3 u3 rfl rfl rfl (by rw[es];exact hsl) (by rw[es];exact hsc) hpn (H3.lower hmNT) h3;obtain ⟨hL4,hP4⟩:=ring_end H4.ring H4.mb (λi hi=>by
  by_cases hx:∃ j,j<n∧(X2 j).h=i
  .obtain ⟨j,hj,rfl⟩:=hx
   obtain ⟨_,_,hs⟩:=H4.seats.seat j hj;obtain ⟨a,ha⟩:=hd j hj;rw[hs,ha];rfl
  exact H4.seats.none i hi (λj hj e=>hx ⟨j,hj,e⟩))
 have cr4:=H4.crew;refine ⟨N1+N2+N3+N4,gs4,w4,sl4,T4,q4,B4,S4,X2,Mm2,nv S2,l2,m,p',runNT_then (runNT_then (runNT_then r1 r2) r3) r4,by omega,h4,hL4,hP4,H4.b,H4.mem.thaw H4.rel,hS4,hH2,hT,has_rel H4.mem H4.rel cr4.mine.1 cr4.mine.2.1,cr4.mine.2.1,?_,hXs,λi hi=>⟨(cr4.sees i hi).1.pm w4 (has_rel H4.mem H4.rel (cr4.sees i hi).2.1 (cr4.sees i hi).2.2),hd i hi⟩,hMa,λb o hb=>?_⟩
 .rw[H4.rel.os,H4.rel.output,cr4.mine.2.2.2.2.1,cr4.mine.2.2.2.2.2]
  exact hio2
 .rcases hMb' b o hb with h|⟨j,_,h1,h2⟩
  exact .inl h;exact .inr ⟨j,h1,h2⟩
end Go.Proofs.YtfjjoohflcchnaaDoor.Gen
