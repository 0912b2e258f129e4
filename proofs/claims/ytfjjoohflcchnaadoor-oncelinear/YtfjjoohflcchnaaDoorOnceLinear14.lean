/- OnceLinear, part 14 of 26: GNow, Cas, KpB, OnG, Lift31, OnD. -/
import Derived.Test.YtfjjoohflcchnaaDoorOnceLinear01
import Derived.Test.YtfjjoohflcchnaaDoorOnceLinear04
import Derived.Test.YtfjjoohflcchnaaDoorOnceLinear05
import Derived.Test.YtfjjoohflcchnaaDoorOnceLinear08
import Derived.Test.YtfjjoohflcchnaaDoorOnceLinear10
import Derived.Test.YtfjjoohflcchnaaDoorOnceLinear11
import Derived.Test.YtfjjoohflcchnaaDoorOnceLinear13
import Derived.BigQuiet
set_option linter.unusedSimpArgs false
set_option linter.unusedVariables false
set_option maxHeartbeats 4000000
set_option maxRecDepth 100000
noncomputable section
namespace Go.Proofs.YtfjjoohflcchnaaDoor.Gen
open Go Go.Lift Go.Conc Go.RowKit
variable {j:Nat}
variable {mc:Mc}
structure Now (X:Fix mc) (z:Nat->Option Nat) (cont:Addr->Value) (Ch:Nat->Prop) (S0:TS) (K0:List (Nat×Int)) (v0:World) (Mo0 Mo:Nat->Option Obj) (σ:TS) (κ:List (Nat×Int)) (S:TS) (v w:World) (t:Thr):Prop where
 at_:At X z cont Ch S κ v w t
 evo:EvoP (λb=>Mo0 b≠none) z S0 K0 v0 S κ v
 nv:nv S=σ
 bk:S.bk=S0.bk
 mo:Has Mo v
 far:∀ b,Mo b≠none->¬ Own S κ b
 new:∀ b,Mo b≠none->Mo0 b≠none∨v0.heap.size<=b
 row:∀ b o,Mo b=some o->∃ c e f,o=.cells c e f
section
variable {X:Fix mc}{z:Nat->Option Nat}{cont:Addr->Value}{Ch:Nat->Prop}{Stop:Goroutine->World->Prop}{cu:Value->Goroutine}{S0:TS}{K0:List (Nat×Int)}{v0:World}{Mo0 Mo:Nat->Option Obj}{σ:TS}{κ:List (Nat×Int)}{S:TS}{v w:World}{t:Thr}{H:Nx->(Nat->Option Obj)->Goroutine->Prop}
theorem Now.good (N:Now X z cont Ch S0 K0 v0 Mo0 Mo σ κ S v w t) {x:Nx}(hx:∀ e y,x≠.ans e y):Good v0 Mo0 x Mo:=⟨hx,N.new,N.row⟩
theorem Now.on (N:Now X z cont Ch S0 K0 v0 Mo0 Mo σ κ S v w t) {S' σ':TS}{κ':List (Nat×Int)}{v' w':World}{t':Thr}(e:Evo z S κ v S' κ' v') (r:Rel z v' w') (n:NoRow Ch v') (hS:Gen.nv S'=σ') (ht:S'.thr[X.i]? = some t') (htb:t'.tb=X.tb) (hgc:t'.gc=X.gc) (hbk:S'.bk=S.bk) (hok:KOk mc κ'):Now X z cont Ch S0 K0 v0 Mo0 Mo σ' κ' S' v' w' t':=by
 have kp:∀ b,b<v.heap.size->¬ Own S κ b->v'.heap[b]? = v.heap[b]?∧¬ Own S' κ' b:=λb hb ho=>(Evo.toP (Pr:=λ_=>False) e).keeps hb ho (λh=>h);have km:∀ (M:Nat->Option Obj),Has M v->(∀ b,M b≠none->¬ Own S κ b)->Has M v'∧∀ b,M b≠none->¬ Own S' κ' b:=λM hM hf=>by have h1:∀ b o,M b=some o->v'.heap[b]? = v.heap[b]?∧¬ Own S' κ' b:=λb o hb=>kp b (Qb (hM b o hb)).1 (hf b (by rw[hb];simp));refine ⟨λb o hb=>by rw[(h1 b o hb).1];exact hM b o hb,λb hb=>?_⟩;obtain ⟨o,ho⟩:=Option.ne_none_iff_exists'.1 hb;exact (h1 b o ho).2
 have k1:=km X.pk N.at_.pk N.at_.far;have k2:=km Mo N.mo N.far;exact ⟨⟨r,n,e.mem,ht,htb,hgc,⟨e.blks.trans N.at_.kb.1,hok⟩,N.at_.z,N.at_.cont,k1.1,k1.2⟩,N.evo.trans (Evo.toP e),hS,hbk.trans N.bk,k2.1,k2.2,N.new,N.row⟩
theorem Now.same (N:Now X z cont Ch S0 K0 v0 Mo0 Mo σ κ S v w t) {v' w':World}(r:Rel z v' w') (n:NoRow Ch v') (e1:v'.heap=v.heap) (e2:v'.os=v.os) (e3:v'.output=v.output):Now X z cont Ch S0 K0 v0 Mo0 Mo σ κ S v' w' t :=
 N.on (N.at_.mem.grows ⟨by rw[e1];exact Qi _,λb _=>by rw[e1],e2,e3⟩) r n N.nv N.at_.thr N.at_.tb N.at_.gc rfl N.at_.kb.2
theorem Now.here (A:At X z cont Ch S κ v w t) (hm:Has Mo v) (hf:∀ b,Mo b≠none->¬ Own S κ b) (hr:∀ b o,Mo b=some o->∃ c e f,o=.cells c e f):Now X z cont Ch S κ v Mo Mo (Gen.nv S) κ S v w t :=
 ⟨A,Evo.toP (A.mem.grows ⟨Qi _,λ_ _=>rfl,rfl,rfl⟩),rfl,rfl,hm,hf,λb hb=>.inl hb,hr⟩
theorem Now.cell (N:Now X z cont Ch S0 K0 v0 Mo0 Mo σ κ S v w t) {cb:Nat}(h:X.kb[j]? = some cb):κ[j]? = some (cb,(cellAt κ j).2)∧cellAt κ j=(cb,(cellAt κ j).2):=by
 rw[<-N.at_.kb.1,List.getElem?_map,Option.map_eq_some_iff] at h;obtain ⟨p,h1,rfl⟩:=h;have:cellAt κ j=p:=by unfold cellAt;rw[h1];rfl
 rw[this];exact ⟨h1,rfl⟩
theorem ob_turn {op:Int}{q:Q}(hob:Ob X H z cont Ch Stop cu S0 K0 v0 Mo0 σ κ (.turn op j q)) (N:Now X z cont Ch S0 K0 v0 Mo0 Mo σ κ S v w t) (g:Goroutine) (w':World) (hg:GiveT z cont X.h S.bk t.gc (H (.turn op j q) Mo) (Then z Ch S κ v (waiting S X.i t 1 op j) κ) g w'):Stop g w':=by refine hob.seat 1 op j (.inl ⟨⟨q,rfl⟩,rfl⟩) g w' Mo (N.good (λ_ _ h=>by cases h)) ?_;rw[N.at_.gc,N.bk] at hg;refine atGive_mono (λhF=>?_) hg;obtain ⟨v',r,n,e⟩:=hF;have N':=N.on e r n rfl (t':={ t with st:=1,op:=op,ce:=j,se:=_ }) (List.getElem?_set_self (Qc N.at_.thr).1) N.at_.tb N.at_.gc rfl N.at_.kb.2;refine ⟨v',_,r,n,?_,N'.evo,N'.mo,N'.far⟩;rw[<-N.nv,show thrI (Gen.nv S) X.i=t from thrI_of N.at_.thr];rfl
theorem ob_wait {q:Q}(hob:Ob X H z cont Ch Stop cu S0 K0 v0 Mo0 σ κ (.wait j q)) (N:Now X z cont Ch S0 K0 v0 Mo0 Mo σ κ S v w t) (g:Goroutine) (w':World) (hg:GiveT z cont X.h S.bk t.gc (H (.wait j q) Mo) (Then z Ch S κ v (waiting S X.i t 2 6 j) κ) g w'):Stop g w':=by refine hob.seat 2 6 j (.inr ⟨⟨q,rfl⟩,rfl,rfl⟩) g w' Mo (N.good (λ_ _ h=>by cases h)) ?_;rw[N.at_.gc,N.bk] at hg;refine atGive_mono (λhF=>?_) hg;obtain ⟨v',r,n,e⟩:=hF;have N':=N.on e r n rfl (t':={ t with st:=2,op:=6,ce:=j,se:=_ }) (List.getElem?_set_self (Qc N.at_.thr).1) N.at_.tb N.at_.gc rfl N.at_.kb.2;refine ⟨v',_,r,n,?_,N'.evo,N'.mo,N'.far⟩;rw[<-N.nv,show thrI (Gen.nv S) X.i=t from thrI_of N.at_.thr];rfl
end
end Go.Proofs.YtfjjoohflcchnaaDoor.Gen
namespace Go.Proofs.YtfjjoohflcchnaaDoor
open Go Go.Lift Go.Conc Go.RowKit
def effCas (a y x:Int):(Int×Int)×Int×Value:=if x=a then ((a,y),y,.bool true) else ((x,x),x,.bool false)
def rest14:Code:=seq2 (seq2 (Tryd.f77.body.getD .skip))
theorem fine14:fineCode Tryd.prog true LT rest14:=fineCode_ask callT extT (by kernel_rfl)
theorem tail14 {z:Nat->Option Nat}{S:TS}{K:List (Nat×Int)}{v:World}{i j cb:Nat}{t:Thr}{x:Int}{a y:Int}(hm:Mem z S K v) (ht:S.thr[i]? = some t) (hK:K[j]? = some (cb,x)) (hn:(S.n+1)*40<=140737488355328) (a10 a11 a12 a13 a14 a15:Value):
 rest14.wp Tryd.prog (bodyPost Tryd.prog Tryd.f77 (λe w'=>∃ r,e=.returned r∧(r=(effCas a y x).2.2∧∃ tv,Evo z S K v (didS S tv i t (effCas a y x).1.1 (effCas a y x).1.2) (K.set j (cb,(effCas a y x).2.1)) w')))
  { tmps:=#[Pt cb 0,Pt t.tb 0,I a,I y,undef,undef,undef,undef,.bool false,undef,a10,a11,a12,a13,a14,a15,undef,undef,undef,undef,undef,undef,undef,undef,undef,undef,undef,undef,undef,undef,undef,undef,undef,undef],defers:=[] } v:=by
 obtain ⟨_,c1,f1⟩:=hm.cells hK;have HM:Hid (Mem z S K v):=⟨hm⟩
 by_cases hx:x=a
 .subst hx
  have HW:Hid (Evo z S K v S (K.set j (cb,y)) (v.setCell ⟨cb,1,none⟩ (I y))):=⟨Evo.write hm hK _⟩
  have HQ:Hid (effCas x y x=((x,y),y,.bool true)):=⟨by simp[effCas]⟩
  rw[HQ.out];clear hm hK;simp only at c1 f1;show Code.wp Tryd.prog (seq2 (seq2 (Tryd.f77.body.getD .skip))) _ _ _;unfold Tryd.f77 seq2;simp only[Qa]
  go_wp2_with (first
   |(go_at_call 111;refine ((body28 cb x y _ c1 f1).calls Tryd.func111 rfl).mono ?_;rintro e w1 ⟨_,rfl,rfl,rfl⟩)
   |(go_at_call 108;refine ((body27 HW.out.mem.rep ht x y hn).calls Tryd.func108 rfl).mono ?_;rintro e w2 ⟨_,rfl,rfl,tv,hev⟩))
  go_ret;exact ⟨_,rfl,rfl,tv,HW.out.did hev⟩
 have HW:Hid (Evo z S K v S (K.set j (cb,x)) v):=⟨by rw[set_same hK];exact Evo.refl hm⟩
 have HQ:Hid (effCas a y x=((x,x),x,.bool false)):=⟨by simp[effCas,hx]⟩
 rw[HQ.out];clear hm hK;simp only at c1 f1;show Code.wp Tryd.prog (seq2 (seq2 (Tryd.f77.body.getD .skip))) _ _ _;unfold Tryd.f77 seq2;simp only[Qa]
 go_wp2_with (first
  |(go_at_call 111;refine ((body28n cb x a y _ c1 f1 hx).calls Tryd.func111 rfl).mono ?_;rintro e w1 ⟨_,rfl,rfl,rfl⟩)
  |(go_at_call 107;refine ((body29 cb x _ c1).calls Tryd.func107 rfl).mono ?_;rintro e w1 ⟨_,rfl,rfl,rfl⟩)
  |(go_at_call 108;refine ((body27 HW.out.mem.rep ht x x hn).calls Tryd.func108 rfl).mono ?_;rintro e w2 ⟨_,rfl,rfl,tv,hev⟩))
 go_ret;exact ⟨_,rfl,rfl,tv,HW.out.did hev⟩
theorem res14 (tmps:Array Value):∃ v,(∀ w,(results Tryd.f77 tmps).run Tryd.prog w=.ok v w)∧∀ w,(results Tryd.f77 tmps).events Tryd.prog w #[]=#[] :=
 ⟨_,λ_=>results_tmp rfl _ _ _,λ_=>by simp[results,go_sem]⟩
theorem cas_goes {z:Nat->Option Nat}{Ch:Nat->Prop}{Stop:Goroutine->World->Prop}{h:Nat}{cont:Addr->Value}{S:TS}{K:List (Nat×Int)}{v w:World}{i j cb:Nat}{t:Thr}(a y:Int) (x:Int) (cs:List Frame) (Hm:Goroutine->Prop) {bc:Frame}{ac:Act}{ops:Array Oper}{q:Nat}{rest:List Nat}{oc:Oper}{k:List Item}(hoc:ops[q]? = some oc)
 (hH:∀ g,OpBack (h==0) i j cb t.tb 4 (effCas a y) (λr=>G (bc.at (ac.put oc.dst r) (.inRegion ops rest :: k)) cs) g->Hm g)
 (hvw:Rel z v w) (hn:NoRow Ch v) (hm:Mem z S K v) (ht:S.thr[i]? = some t) (hK:K[j]? = some (cb,x)) (hz:z t.tb=some 2) (hcont:cont ⟨t.tb,2,none⟩=.chan (some t.gc))
 (hstop:∀ g w',GiveT z cont h S.bk t.gc Hm (Then z Ch S K v (waiting S i t 1 4 j) K) g w'->Stop g w') (code:Code) (hc:Tryd.f77.body=some code):
 GoesI Tryd.prog (h==0) (DT (ScZ z) Ch) Stop (G ((base 77).at { tmps:=#[Pt cb 0,Pt t.tb 0,I a,I y]++Array.replicate 30 undef,defers:=[] } [.code code]) (bc.at ac (.inRegion ops (q :: rest) :: k) :: cs)) w:=by
 obtain rfl:=Qd hc;clear hc;have e0:w.cell? ⟨cb,0,none⟩=some (I j):=by rw[hvw.cell?];exact (hm.cells hK).1
 simp only[Sy];have HM:Hid (Mem z S K v):=⟨hm⟩
 clear hm;refine goesI_seq (dt_idle _ _) ?_;refine goesI_region (dt_idle _ _) ?_;simp only[Sz,Sr,Nat.reduceAdd]
 (refine goesI_oper rfl rfl (by decide) (λd K hK=>?_)
  go_simp;refine hK _ _ ⟨dt_reads (λe he=>?_),GoesI.at ?_ d⟩
  .have hm:=mem_listed he
   simp[go_sem, *] at hm
  clear hK K)
 refine goesI_regionEnd (dt_idle _ _) ?_;refine goesI_seq (dt_idle _ _) ?_;refine goesI_region (dt_idle _ _) ?_;simp only[Sz,Sr,Nat.reduceAdd];iterate 5
  (refine goesI_oper rfl rfl (by decide) (λd K hK=>?_)
   go_simp;refine hK _ _ ⟨dt_reads (λe he=>?_),GoesI.at ?_ d⟩
   .have hm:=mem_listed he
    simp[go_sem, *] at hm
    try exact ⟨_,_,hm⟩
   clear hK K)
 refine goesI_into (f:=106) (fn:=Tryd.f106) (args:=#[Pt t.tb 0,I j,I 4]) (dt_idle _ _) rfl rfl (by decide) rfl (by simp[Act.eval]) Tryd.func106 (by decide) rfl ?_;refine turn_mem 4 j _ Hm rfl (λg hg=>hH g ?_) hvw hn HM.out ht hz hcont hstop _ rfl;intro z1 Ch1 St yy w1 v1 S1 K1 t1 x1 r1 n1 m1 h1 htb hop hce hK1 hn1 hk;refine hg _ St yy w1 (dt_idle _ _) ?_;refine goesI_regionEnd (dt_idle _ _) ?_;rw[<-htb];refine goesI_rest (f:=77) (fn:=Tryd.f77) (c:=rest14) hE fineT r1 n1 Tryd.func77 fine14 rfl hoc res14 (λτ=>?_) (λr v' w' hR hr' hn'=>?_) (R:=λr w'=>r=(effCas a y x1).2.2∧∃ tv,Evo z1 S1 K1 v1 (didS S1 tv i t1 (effCas a y x1).1.1 (effCas a y x1).1.2) (K1.set j (cb,(effCas a y x1).2.1)) w');refine wp_mono (tail14 (m1.same (v':=onTape v1 τ 0) rfl) h1 hK1 hn1 _ _ _ _ _ _) (bp_mono λr u hq=>⟨hq.1,hq.2.choose,hq.2.choose_spec.base rfl rfl rfl⟩)
 .obtain ⟨rfl,tv,he⟩:=hR
  exact hk v' w' tv hr' hn' he
end Go.Proofs.YtfjjoohflcchnaaDoor
namespace Go.Proofs.YtfjjoohflcchnaaDoor.Gen
open Go Go.Lift Go.Conc Go.RowKit
variable {v w:World} {b b0 cb h i j rb tb:Nat} {a:Act} {z:Nat->Option Nat} {S:TS} {K:List (Nat×Int)} {x:Int} {M1 M2:Nat->Option Obj} {o:Obj} {Stop:Goroutine->World->Prop} {Ch:Nat->Prop} {F:Value} {cont:Addr->Value} {t:Thr}
def condB:Code->Code
 |.cond _ _ b=>b
 |c=>c
def ansW (v:World) (rb:Nat) (e x:Int):World:=(v.setCell ⟨rb,0,none⟩ (I e)).setCell ⟨rb,1,none⟩ (I x)
theorem Aq {a b:Value}(h:v.heap[rb]? = some (.cells #[a,b] 38 (0,0))) (e x:Int):(ansW v rb e x).heap[rb]? = some (.cells #[I e,I x] 38 (0,0)):=by have:=heap_setCell_same (o:=1) (heap_setCell_same (o:=0) h (I e)) (I x);unfold ansW;simpa using this
theorem ans_far (v:World) (rb:Nat) (e x:Int) (b:Nat) (hb:b≠rb):(ansW v rb e x).heap[b]? = v.heap[b]?:=by unfold ansW;rw[Below.heap_setCell _ _ _ _ hb,Below.heap_setCell _ _ _ _ hb]
theorem ans_size (v:World) (rb:Nat) (e x:Int):(ansW v rb e x).heap.size=v.heap.size:=by simp[ansW,World.setCell]
theorem ans_evo (h:Mem z S K v) (hB:¬ Own S K rb) (e x:Int):EvoP (· = rb) z S K v S K (ansW v rb e x) :=
 h.other hB (λb hb=>ans_far v rb e x b hb) (ans_size v rb e x) rfl rfl
theorem fl_put {n:Nat}{l:List (Nat×Value)}{d:Nat}{x:Value}(h:Fl n l a) (hd:d<n) (hl:(l.all λp=>p.1 != d)=true):Fl n (l++[(d,x)]) (a.put (some d) x):=by
 refine ⟨by show (a.tmps.setIfInBounds d x).size=n;rw[Array.size_setIfInBounds];exact h.1,h.2.1,λp hp=>?_⟩;show (a.tmps.setIfInBounds d x).getD p.1 undef=p.2;rw[Qe,Array.getElem?_setIfInBounds];rcases List.mem_append.1 hp with hp|hp
 .have:=(List.all_eq_true.1 hl) p hp
  have hne:¬ d=p.1:=by intro e;rw[e] at this;simp at this
  rw[if_neg hne,<-Qe];exact h.2.2 p hp
 .simp only[Sm,or_false] at hp
  subst hp;rw[if_pos rfl,if_pos (by rw[h.1];exact hd)];rfl
def uni (M1 M2:Nat->Option Obj) (b:Nat):Option Obj:=(M1 b).orElse λ_=>M2 b
theorem Ak :uni M1 M2 b≠none↔M1 b≠none∨M2 b≠none:=by unfold uni;cases M1 b<;>simp
theorem Ai (h:M1 b=some o):uni M1 M2 b=some o:=by unfold uni;rw[h];rfl
theorem Al (h0:M1 b=none) (h:M2 b=some o):uni M1 M2 b=some o:=by unfold uni;rw[h0];exact h
def apartM (M1 M2:Nat->Option Obj):Prop:=∀ b,M1 b≠none->M2 b=none
theorem has_uni (h:Has (uni M1 M2) v) (ha:apartM M1 M2):Has M1 v∧Has M2 v:=by
 refine ⟨λb o hb=>h b o (Ai hb),λb o hb=>h b o ?_⟩;cases h1:M1 b with
 |none=>exact Al h1 hb
 |some o'=>rw[ha b (by rw[h1];simp)] at hb;cases hb
theorem uni_has (h1:Has M1 v) (h2:Has M2 v):Has (uni M1 M2) v:=λb o hb=>by
 unfold uni at hb;cases h:M1 b with
 |some o'=>rw[h] at hb;cases hb;exact h1 b _ h
 |none=>rw[h] at hb;exact h2 b o hb
theorem uni_rows (h1:∀ b o,M1 b=some o->∃ c e f,o=.cells c e f) (h2:∀ b o,M2 b=some o->∃ c e f,o=.cells c e f):∀ b o,uni M1 M2 b=some o->∃ c e f,o=.cells c e f:=λb o hb=>by
 unfold uni at hb;cases h:M1 b with
 |some o'=>rw[h] at hb;cases hb;exact h1 b _ h
 |none=>rw[h] at hb;exact h2 b o hb
def oneM (b0:Nat) (o:Obj) (b:Nat):Option Obj:=if b=b0 then some o else none
theorem Ah (b0:Nat) (o:Obj):oneM b0 o b0=some o:=if_pos rfl
theorem Ap (h:oneM b0 o b≠none):b=b0:=by unfold oneM at h;split at h;assumption;exact absurd rfl h
theorem Ag (h:b≠b0):oneM b0 o b=none:=if_neg h
theorem oneM_eq {o':Obj}(h:oneM b0 o b=some o'):b=b0∧o'=o:=by have e:=Ap (b0:=b0) (o:=o) (b:=b) (by rw[h];simp);subst e;rw[Ah] at h;exact ⟨rfl,(Qd h).symm⟩
theorem has_one :Has (oneM b0 o) v↔v.heap[b0]? = some o:=by refine ⟨λh=>h b0 o (Ah b0 o),λh b o' hb=>?_⟩;obtain ⟨rfl,rfl⟩:=oneM_eq hb;exact h
theorem goesI_clo {main:Bool}{k:List Item}{cs:List Frame}{ops:Array Oper}{rest:List Nat}{o:Oper}{D:World->World->Array Event->Prop}(hD:∀ w,D w w #[]) {f:FuncId}{fn:Func}{c:Code}{p:Operand}{cap:Array Value}{b:Frame}
 (ho:ops[i]? = some o) (hw:Region.wanted o (yielded ops a.tmps)=true) (hk:b.kind≠.early) (hop:o.op=.call { callee:=.value p,args:=#[],argTypes:=#[] }) (hp:a.eval p=.func (.func f) #[] cap)
 (hf : Tryd.prog.funcs[f]? = some fn) (hname : (fn.name == "runtime.NumGoroutine") = false) (hb : fn.body = some c)
 (h:GoesI Tryd.prog main D Stop (G ((base f).at { tmps:=cap++Array.replicate (fn.ntmps - cap.size) undef,defers:=[] } [.code c]) (b.at a (.inRegion ops (i :: rest):: k):: cs)) w):
 GoesI Tryd.prog main D Stop (G (b.at a (.inRegion ops (i :: rest) :: k)) cs) w:=by
 have e:execOp a.eval o=callFunc f cap:=by unfold execOp;simp[hop,resolve,Deferred.ofValue,invoke,hp]
 refine goesI_enter (f:=f) (args:=cap) (fn:=fn) (c:=c) ho hw hk (λw=>?_) (λw=>?_) hD hf hb h
 .rw[e]
  have h1 : fn.name ≠ "runtime.NumGoroutine" := by simpa using hname
  simp[callFunc,run_program,hf,h1,hb]
 .unfold listed
  rw[e,events_callFunc_body hf hname hb];simp[seen_def]
structure Frs where
 bd:Frame
 ad:Act
 od:Array Oper
 qd:Nat
 rd:List Nat
 oe:Oper
 kd:List Item
 fs:List Frame
def Frs.stack (f:Frs):List Frame:=f.bd.at f.ad (.inRegion f.od (f.qd :: f.rd) :: f.kd) :: f.fs
def Frs.ret (f:Frs) (r:Value):Goroutine:=G (f.bd.at (f.ad.put f.oe.dst r) (.inRegion f.od f.rd :: f.kd)) f.fs
def Frs.Ok (f:Frs):Prop:=f.od[f.qd]? = some f.oe
def KBack (main:Bool) (Mo:Nat->Option Obj) (f:Int×Int->Int×Int) (c cu:Value->Goroutine):Prop :=
 ∀ (z:Nat->Option Nat) (Ch:Nat->Prop) (Stop:Goroutine->World->Prop) (w v:World) (S:TS) (K:List (Nat×Int)) (a:Int×Int),Rel z v w->NoRow Ch v->Mem z S K v->Has Mo v->(∀ b,Mo b≠none->¬ Own S K b) ->
   (∀ v' w',Rel z v' w'->NoRow Ch v'->EvoP (λb=>Mo b≠none) z S K v S K v'->GoesI Tryd.prog main (DT (ScZ z) Ch) Stop (cu (.agg #[I (f a).1,I (f a).2])) w') ->
   GoesI Tryd.prog main (DT (ScZ z) Ch) Stop (c (.agg #[I a.1,I a.2])) w
theorem KBack.trans {main:Bool}{f1 f2:Int×Int->Int×Int}{c1 c2 cu:Value->Goroutine}(h1:KBack main M1 f1 c1 c2) (h2:KBack main M2 f2 c2 cu) (ha:apartM M1 M2):KBack main (uni M1 M2) (λa=>f2 (f1 a)) c1 cu:=by
 intro z Ch Stop w v S K a hvw hn hm hM hf hk;obtain ⟨k1,k2⟩:=has_uni hM ha;refine h1 z Ch Stop w v S K a hvw hn hm k1 (λb hb=>hf b (Ak.2 (.inl hb))) (λv' w' r' n' e'=>?_);have kp:∀ b o,M2 b=some o->v'.heap[b]? = some o∧¬ Own S K b:=λb o hb=>by
  have hv:=k2 b o hb;have:=e'.keeps (Qb hv).1 (hf b (Ak.2 (.inr (by rw[hb];simp)))) (λhp=>by have hp:M1 b≠none:=hp;rw[ha b hp] at hb;cases hb)
  exact ⟨by rw[this.1];exact hv,this.2⟩
 refine h2 z Ch Stop w' v' S K (f1 a) r' n' e'.mem (λb o hb=>(kp b o hb).1) (λb hb=>?_) (λv2 w2 r2 n2 e2=>hk v2 w2 r2 n2 ?_)
 .obtain ⟨o,ho⟩:=Option.ne_none_iff_exists'.1 hb
  exact (kp b o ho).2
 exact (e'.wider (Pr':=λb=>uni M1 M2 b≠none) (λb _ hb=>Ak.2 (.inl hb))).trans (e2.wider (Pr':=λb=>uni M1 M2 b≠none) (λb _ hb=>Ak.2 (.inr hb)))
theorem KBack.more {main:Bool}{f:Int×Int->Int×Int}{c cu:Value->Goroutine}(h:KBack main M1 f c cu) (hs:∀ b o,M1 b=some o->M2 b=some o):KBack main M2 f c cu:=by
 intro z Ch Stop w v S K a hvw hn hm hM hf hk;refine h z Ch Stop w v S K a hvw hn hm (λb o hb=>hM b o (hs b o hb)) (λb hb=>?_) (λv' w' r' n' e'=>hk v' w' r' n' (e'.wider (λb _ hb=>?_)))
 .obtain ⟨o,ho⟩:=Option.ne_none_iff_exists'.1 hb
  exact hf b (by rw[hs b o ho];simp)
 .obtain ⟨o,ho⟩:=Option.ne_none_iff_exists'.1 hb
  rw[hs b o ho];simp
theorem Ba {v':World}(h:Below v.heap.size v v'):Grows v v':=⟨h.size,λb hb=>h.block b hb,h.os,h.output⟩
theorem gtape {u:World}{τ:Tape}(h:Grows (onTape v τ 0) u):Grows v u:=⟨h.size,h.old,h.os,h.output⟩
theorem Ax {v':World}(h:R1.Flds v) (g:Grows v v'):R1.Flds v':=h.of λa x ha=>g.cell ha
theorem id_body (tb i:Nat) (w:World) (h:w.cell? ⟨tb,1,none⟩=some (I i)):Body Tryd.f68 #[Pt tb 0] w (λr w'=>r=I i∧w'=w):=by
 intro code hb;obtain rfl:=Qd hb;clear hb;simp only[Tryd.ntmps68,Sz,Nat.reduceAdd,Nat.reduceSub,Sy]
 go_wp2
 go_ret;exact ⟨_,rfl,rfl,rfl⟩
theorem cid_body (cb j:Nat) (w:World) (h:w.cell? ⟨cb,0,none⟩=some (I j)):Body Tryd.f99 #[Pt cb 0] w (λr w'=>r=I j∧w'=w):=by
 intro code hb;obtain rfl:=Qd hb;clear hb;simp only[Tryd.ntmps99,Sz,Nat.reduceAdd,Nat.reduceSub,Sy]
 go_wp2
 go_ret;exact ⟨_,rfl,rfl,rfl⟩
def gB:Code:=Tryd.f64.body.getD .skip
def gL:Code:=loopC (blockC (seq2 gB))
def gI:Code:=blockC gL
def gS:Code:=blockC (seq2 (seq2 gI))
def gE:Code:=condB (seq2 gS)
def gN:Code:=condA (seq2 gE)
def gW:Code:=condB (seq2 gE)
def gO1:Array Oper:=opsOf (seq1 gI)
def gO8:Array Oper:=opsOf (seq1 (condA (seq2 gS)))
def gO10:Array Oper:=opsOf (seq1 gN)
def gO11:Array Oper:=opsOf (seq1 (condA (seq2 gN)))
def gO5:Array Oper:=opsOf (seq1 (seq2 gW))
def gFr (a:Act):Frame:=(base 64).at a [.code gL,.inLoop gL,.inBlock 0]
def gSeen (a:Act) (r:Value):Frame:=(base 64).at (a.put (some 13) r) [.inRegion gO1 [6],.code (seq2 gI),.inBlock 1,.inLoop gL,.inBlock 0]
def gSw (a:Act):Frame:=(base 64).at a [.code gS,.inBlock 2,.inBlock 1,.inLoop gL,.inBlock 0]
def gVal (a:Act) (r:Value):Frame:=(base 64).at (a.put (some 43) r) [.inRegion gO8 [9,10],.code .ret,.inBlock 2,.inBlock 1,.inLoop gL,.inBlock 0]
def gTry (a:Act) (r:Value):Frame:=(base 64).at (a.put (some 56) r) [.inRegion gO10 [],.code (seq2 gN),.inBlock 2,.inBlock 1,.inLoop gL,.inBlock 0]
def gWoke (a:Act) (r:Value):Frame:=(base 64).at (a.put (some 30) r) [.inRegion gO5 [7],.code (seq2 (seq2 gW)),.inBlock 2,.inBlock 1,.inLoop gL,.inBlock 0]
def gDone (a:Act) (r:Value):Frame:=(base 64).at (a.put (some 60) r) [.inRegion gO11 [4,5],.code .ret,.inBlock 2,.inBlock 1,.inLoop gL,.inBlock 0]
def gKept (a:Act) (r:Value):Frame:=(base 64).at (a.put (some 61) r) [.inRegion gO11 [5],.code .ret,.inBlock 2,.inBlock 1,.inLoop gL,.inBlock 0]
theorem eGB:gB=.seq (seq1 gB) (.block 0 (.loop gL)):=by kernel_rfl
theorem eGS:gS=.seq (seq1 gS) (.cond (.tmp 33) (.seq (.region 8 gO8 true) .ret) (.seq (seq1 gE) (.cond (.tmp 45) (.seq (.region 10 gO10 true) (seq2 gN)) gW))):=by kernel_rfl
theorem eGW:gW=.seq (.seq (seq1 (seq1 gW)) (seq2 (seq1 gW))) (.seq (.region 5 gO5 false) (seq2 (seq2 gW))):=by kernel_rfl
theorem fine_g0:fineCode Tryd.prog true LT (seq1 gB):=fineCode_ask callT extT (by kernel_rfl)
theorem fine_g2:fineCode Tryd.prog true LT (seq1 (seq2 gI)):=fineCode_ask callT extT (by kernel_rfl)
theorem fine_g7:fineCode Tryd.prog true LT (seq1 gS):=fineCode_ask callT extT (by kernel_rfl)
theorem fine_g9:fineCode Tryd.prog true LT (seq1 gE):=fineCode_ask callT extT (by kernel_rfl)
theorem fine_g3:fineCode Tryd.prog true LT (seq1 (seq1 gW)):=fineCode_ask callT extT (by kernel_rfl)
theorem get_in {main:Bool}{kp:Nat}(cs:List Frame) (hvw:Rel z v w) (hn:NoRow Ch v)
 (hk:∀ a v' w',Fl 62 [(0,Pt kp 0),(1,Pt tb 0),(2,F),(6,Pt v.heap.size 0)] a->Rel z v' w'->NoRow Ch v'->Grows v v'->v'.heap[v.heap.size]? = some (.cells #[I 0,I 0] 38 (0,0))->GoesI Tryd.prog main (DT (ScZ z) Ch) Stop (G (gFr a) cs) w') (code:Code) (hc:Tryd.f64.body=some code):
 GoesI Tryd.prog main (DT (ScZ z) Ch) Stop (G ((base 64).at { tmps:=#[Pt kp 0,Pt tb 0,F]++Array.replicate 59 undef,defers:=[] } [.code code]) cs) w:=by
 have hw0:code=.seq (seq1 gB) (.block 0 (.loop gL)):=by rw[show code=gB by unfold gB;rw[hc];rfl];exact eGB
 subst hw0;clear hc;refine goesI_seq (dt_idle _ _) ?_;refine goesI_plain (z:=z) (wr:=true) (L:=LT) (I:=NoRow Ch) hE fineT noRow_keeps (λv v' w w' es hi hr ho he=>dt_of_z v v' w w' es hi hr ho he) hvw fine_g0 rfl (by simp[base]) hn
  (Q:=λa w'=>Fl 62 [(0,Pt kp 0),(1,Pt tb 0),(2,F),(6,Pt v.heap.size 0)] a∧w'.heap=v.heap.push (.cells #[I 0,I 0] 38)∧w'.os=v.os∧w'.output=v.output) (λτ=>?_) ?_
 .unfold gB Tryd.f64 seq1
  simp only[Qa,Sy];go_wp2_with fail;exact ⟨⟨rfl,rfl,by
   intro p hp;simp only[Sm,or_false] at hp;rcases hp with rfl|rfl|rfl|rfl<;>rfl⟩,rfl,rfl,rfl⟩
 rintro a' v' w' ⟨hA,hv1,hv2,hv3⟩ hr' hn' -;refine goesI_block (dt_idle _ _) ?_;refine goesI_loop (dt_idle _ _) ?_;refine hk a' v' w' hA hr' hn' ⟨by rw[hv1];simp,λb hb=>by rw[hv1,Qg,if_neg (by omega)],hv2,hv3⟩ ?_;rw[hv1];exact Qo
theorem get_look {kp:Nat}(y:Int) (h0:v.cell? ⟨kp,0,none⟩=some (Pt cb 0)) (hA:Fl 62 [(0,Pt kp 0),(1,Pt t.tb 0),(2,F),(6,Pt rb 0)] a) (cs:List Frame) (Hm:Goroutine->Prop)
 (hH:∀ g,(∃ a,Fl 62 [(0,Pt kp 0),(1,Pt t.tb 0),(2,F),(6,Pt rb 0)] a∧OpBack (h==0) i j cb t.tb 1 effLoad (λr=>G (gSeen a r) cs) g)->Hm g)
 (hvw:Rel z v w) (hn:NoRow Ch v) (hm:Mem z S K v) (ht:S.thr[i]? = some t) (hK:K[j]? = some (cb,y)) (hz:z t.tb=some 2) (hcont:cont ⟨t.tb,2,none⟩=.chan (some t.gc))
 (hstop:∀ g w',GiveT z cont h S.bk t.gc Hm (Then z Ch S K v (waiting S i t 1 1 j) K) g w'->Stop g w'):
 GoesI Tryd.prog (h==0) (DT (ScZ z) Ch) Stop (G (gFr a) cs) w:=by
 have e0:w.cell? ⟨kp,0,none⟩=some (Pt cb 0):=by rw[hvw.cell?];exact h0
 have HM:Hid (Mem z S K v):=⟨hm⟩
 clear hm;unfold gSeen gO1 gI gL gB Tryd.f64 seq1 seq2 blockC loopC opsOf at hH;simp only[Qa] at hH;obtain ⟨hsz,hd,hpp⟩:=hA;obtain ⟨u,rfl,hg⟩:=litN hsz hd;have u0:=(hg 0).symm.trans (hpp (0,Pt kp 0) (by simp));have u1:=(hg 1).symm.trans (hpp (1,Pt t.tb 0) (by simp));have u2:=(hg 2).symm.trans (hpp (2,F) (by simp));have u6:=(hg 6).symm.trans (hpp (6,Pt rb 0) (by simp));clear hg hpp hsz hd;unfold gFr gL gB Tryd.f64 seq2 blockC loopC;simp only[Qa,lits,Nat.reduceAdd,u0,u1,u2,u6];clear u0 u1 u2 u6;refine goesI_block (dt_idle _ _) ?_;refine goesI_seq (dt_idle _ _) ?_;refine goesI_region (dt_idle _ _) ?_;simp only[Sz,Sr,Nat.reduceAdd];iterate 5
  (refine goesI_oper rfl rfl (by decide) (λd K hK=>?_)
   go_simp;refine hK _ _ ⟨dt_reads (λe he=>?_),GoesI.at ?_ d⟩
   .have hm:=mem_listed he
    simp[go_sem, *] at hm
    try exact ⟨_,_,hm⟩
    try (rcases hm with rfl|rfl<;>exact ⟨_,_,rfl⟩)
   clear hK K)
 refine goesI_into (f:=73) (fn:=Tryd.f73) (args:=#[Pt cb 0,Pt t.tb 0]) (dt_idle _ _) rfl rfl (by decide) rfl (by simp[Act.eval]) Tryd.func73 (by decide) rfl ?_;exact load_goes y _ Hm rfl (λg hg=>hH g ⟨_,⟨rfl,rfl,by
  intro p hp;simp only[Sm,or_false] at hp;rcases hp with rfl|rfl|rfl|rfl<;>rfl⟩,hg⟩) hvw hn HM.out ht hK hz hcont hstop _ rfl
theorem gst_wp {kp:Nat}(hA:Fl 62 [(0,Pt kp 0),(1,Pt tb 0),(2,F),(6,Pt rb 0),(7,I x)] a) (hF:R1.Flds v):(seq1 (seq2 gI)).wp Tryd.prog (λe a' w'=>e=.normal∧Fl 62 [(0,Pt kp 0),(1,Pt tb 0),(2,F),(6,Pt rb 0),(7,I x),(16,I (R1.stI x))] a'∧Grows v w') a v:=by
 have s0:=hF.s0;have s1:=hF.s1;clear hF;obtain ⟨hsz,hd,hpp⟩:=hA;obtain ⟨u,rfl,hg⟩:=litN hsz hd;have u0:=(hg 0).symm.trans (hpp (0,Pt kp 0) (by simp));have u1:=(hg 1).symm.trans (hpp (1,Pt tb 0) (by simp));have u2:=(hg 2).symm.trans (hpp (2,F) (by simp));have u6:=(hg 6).symm.trans (hpp (6,Pt rb 0) (by simp));have u7:=(hg 7).symm.trans (hpp (7,I x) (by simp));clear hg hpp hsz hd;unfold gI gL gB Tryd.f64 seq1 seq2 blockC loopC;simp only[Qa,lits,Nat.reduceAdd,u0,u1,u2,u6,u7];clear u0 u1 u2 u6 u7
 go_wp2_with (go_at_call 74;refine (R1.get_yes x 0 2 _ (by decide) (by decide) (by decide)).mono ?_;rintro e w1 ⟨rfl,hb1⟩)
 exact ⟨⟨rfl,rfl,by
  intro p hp;simp only[Sm,or_false] at hp;rcases hp with rfl|rfl|rfl|rfl|rfl|rfl<;>rfl⟩,Ba hb1⟩
theorem get_st {main:Bool}{kp:Nat}(hF:R1.Flds v) (hA:Fl 62 [(0,Pt kp 0),(1,Pt tb 0),(2,F),(6,Pt rb 0)] a) (cs:List Frame) (hvw:Rel z v w) (hn:NoRow Ch v)
 (hk:∀ a v' w',Fl 62 [(0,Pt kp 0),(1,Pt tb 0),(2,F),(6,Pt rb 0),(7,I x),(16,I (R1.stI x))] a->Rel z v' w'->NoRow Ch v'->Grows v v'->GoesI Tryd.prog main (DT (ScZ z) Ch) Stop (G (gSw a) cs) w'):
 GoesI Tryd.prog main (DT (ScZ z) Ch) Stop (G (gSeen a (I x)) cs) w:=by
 have e2:seq2 gI=.seq (seq1 (seq2 gI)) (.block 2 gS):=by kernel_rfl
 have hop:gO1[6]? = some (gO1.getD 6 default):=by kernel_rfl
 unfold gSeen;have hA1:Fl 62 [(0,Pt kp 0),(1,Pt tb 0),(2,F),(6,Pt rb 0),(13,I x)] (a.put (some 13) (I x)):=fl_put hA (by decide) (by simp);generalize a.put (some 13) (I x)=a1 at hA1;refine goesI_opZ (L:=LT) (x:=I x) hop rfl (by simp[base]) (fineOp_ask callT extT (by kernel_rfl)) hvw hn (v':=v) ?_ rfl (λw1 r1 n1=>?_)
 .have e:(gO1.getD 6 default).op=.assign (.tmp 13):=by kernel_rfl
  unfold execOp;rw[e];simp only[hA1.at 13 (I x) (by simp)];simp[go_sem]
 have hd:(gO1.getD 6 default).dst=some 7:=by kernel_rfl
 rw[hd];have hA2:Fl 62 [(0,Pt kp 0),(1,Pt tb 0),(2,F),(6,Pt rb 0),(7,I x)] (a1.put (some 7) (I x)):=(fl_put (hA1.sub (l':=[(0,Pt kp 0),(1,Pt tb 0),(2,F),(6,Pt rb 0)]) (by simp)) (by decide) (by simp)).sub (by simp);generalize a1.put (some 7) (I x)=a2 at hA2;refine goesI_regionEnd (dt_idle _ _) ?_;rw[e2];refine goesI_seq (dt_idle _ _) ?_;refine goesI_plain (z:=z) (wr:=true) (L:=LT) (I:=NoRow Ch) hE fineT noRow_keeps (λv v' w w' es hi hr ho he=>dt_of_z v v' w w' es hi hr ho he) r1 fine_g2 hA2.2.1 (by simp[base]) n1
  (Q:=λa w'=>Fl 62 [(0,Pt kp 0),(1,Pt tb 0),(2,F),(6,Pt rb 0),(7,I x),(16,I (R1.stI x))] a∧Grows v w') (λτ=>?_) ?_
 exact wp_mono (gst_wp (v:=onTape v τ 0) hA2 (hF.of (λa x h=>h))) (λe a w h=>⟨h.1,h.2.1,gtape h.2.2⟩);rintro a' v' w' ⟨hA',g'⟩ hr' hn' -;refine goesI_block (dt_idle _ _) ?_;exact hk a' v' w' hA' hr' hn' g'
def val_g8 (kp tb cv:Nat) (x:Int):Nat->Value
 |0=>I x
 |1=>.agg #[I 10,I 20]
 |2=>I (R1.codI x)
 |3=>Pt kp 0
 |4=>Pt kp 0
 |5=>Pt kp 1
 |6=>Pt cv 0
 |7=>Pt tb 0
 |_=>undef
theorem reg_g8:regOk gO8 8 35=true:=by kernel_rfl
theorem fin_g8:((gO8.extract 0 8).all λo=>plainOp Tryd.prog true o.op||askCall plainFs plainXs o.op)=true:=by kernel_rfl
theorem g8_pre {main:Bool}(kp tb cv:Nat) (x:Int) (hA:Fl 62 [(0,Pt kp 0),(1,Pt tb 0),(2,F),(6,Pt rb 0),(7,I x)] a) (k:List Item) (cs:List Frame) (hF:R1.Flds v) (h1:v.cell? ⟨kp,1,none⟩=some (Pt cv 0)) (hvw:Rel z v w) (hn:NoRow Ch v)
 (hN:∀ v1 w1 a' o,gO8[8]? = some o->(∀ y,Region.wanted o y=true)->Fl 62 [(0,Pt kp 0),(1,Pt tb 0),(2,F),(6,Pt rb 0),(7,I x),(37,I (R1.codI x)),(41,Pt cv 0),(42,Pt tb 0)] a'->Rel z v1 w1->NoRow Ch v1->Grows v v1->GoesI Tryd.prog main (DT (ScZ z) Ch) Stop (G ((base 64).at a' (.inRegion gO8 [8,9,10] :: k)) cs) w1):
 GoesI Tryd.prog main (DT (ScZ z) Ch) Stop (G ((base 64).at a (.code (.region 8 gO8 true) :: k)) cs) w:=by
 refine A7 (val:=val_g8 kp tb cv x) reg_g8 (by rw[hA.1];decide) hvw hn ?_ ?_
 .intro i0 o rest a' v1 w1 hi ho hw ev ev0 r1 n1 g1 hk
  match i0,hi,ho,ev,hk with
  |0,_,ho,ev,hk=>have l0:a'.eval (.tmp 7)=I x:=(ev0 7 (by decide)).trans (hA.at 7 _ (by simp));exact Ab ho hw (by simp[base]) (p:=Op.move (Operand.tmp 7)) (by kernel_rfl) (Ad fin_g8 (by decide) ho) r1 n1 (x:=I x) rfl (λo' h'=>by unfold execOp;rw[h'];simp only[l0];simp[go_sem]) hk
  |1,_,ho,ev,hk=>have c0:=g1.cell hF.c0;have c1:=g1.cell hF.c1;exact Ab ho hw (by simp[base]) (p:=Op.load 124 (Operand.global 2)) (by kernel_rfl) (Ad fin_g8 (by decide) ho) r1 n1 (x:=.agg #[I 10,I 20]) rfl (λo' h'=>by unfold execOp;rw[h'];simp only[Act.eval];simp[go_sem,c0,c1]) hk
  |2,_,ho,ev,hk =>have l0:a'.eval (.tmp 35)=I x:=ev 0 (by decide) (by kernel_rfl);have l1:a'.eval (.tmp 36)=.agg #[I 10,I 20]:=ev 1 (by decide) (by kernel_rfl);exact op_calls (f:=74) (fn:=Tryd.f74) (xs:=#[.tmp 35,.tmp 36]) (ats:=#[3,124]) (args:=#[I x,.agg #[I 10,I 20]]) ho hw (by simp[base]) (by kernel_rfl) (by simp only[List.map_toArray,List.map_cons,List.map_nil,l0,l1]) Tryd.func74 (by kernel_rfl) rfl (fineFn_body fineT (by simp[LT,plainFs]) Tryd.func74 rfl) (λtmps=>⟨_,λw=>results_tmp rfl _ _ _,λw=>by simp[results,go_sem]⟩) r1 n1 (x:=I (R1.codI x)) rfl (λτ=>wp_mono (R1.wget_body x 10 20 (onTape v1 τ 0) (by decide) (by decide) (by decide) _ rfl) (bp_mono λr u hq=>⟨hq.1,gtape (Ba hq.2)⟩)) hk
  |3,_,ho,ev,hk=>have l0:a'.eval (.tmp 0)=Pt kp 0:=(ev0 0 (by decide)).trans (hA.at 0 _ (by simp));exact Ab ho hw (by simp[base]) (p:=Op.move (Operand.tmp 0)) (by kernel_rfl) (Ad fin_g8 (by decide) ho) r1 n1 (x:=Pt kp 0) rfl (λo' h'=>by unfold execOp;rw[h'];simp only[l0];simp[go_sem]) hk
  |4,_,ho,ev,hk=>have l0:a'.eval (.tmp 38)=Pt kp 0:=ev 3 (by decide) (by kernel_rfl);exact Ab ho hw (by simp[base]) (p:=Op.nilCheck (Operand.tmp 38)) (by kernel_rfl) (Ad fin_g8 (by decide) ho) r1 n1 (x:=Pt kp 0) rfl (λo' h'=>by unfold execOp;rw[h'];simp only[l0];simp[go_sem]) hk
  |5,_,ho,ev,hk=>have l0:a'.eval (.tmp 39)=Pt kp 0:=ev 4 (by decide) (by kernel_rfl);exact Ab ho hw (by simp[base]) (p:=Op.fieldAddr 146 (Operand.tmp 39) 1) (by kernel_rfl) (Ad fin_g8 (by decide) ho) r1 n1 (x:=Pt kp 1) rfl (λo' h'=>by unfold execOp;rw[h'];simp only[l0];simp[go_sem]) hk
  |6,_,ho,ev,hk=>have l0:a'.eval (.tmp 40)=Pt kp 1:=ev 5 (by decide) (by kernel_rfl);have c0:=g1.cell h1;exact Ab ho hw (by simp[base]) (p:=Op.load 116 (Operand.tmp 40)) (by kernel_rfl) (Ad fin_g8 (by decide) ho) r1 n1 (x:=Pt cv 0) rfl (λo' h'=>by unfold execOp;rw[h'];simp only[l0];simp[go_sem,c0]) hk
  |7,_,ho,ev,hk=>have l0:a'.eval (.tmp 1)=Pt tb 0:=(ev0 1 (by decide)).trans (hA.at 1 _ (by simp));exact Ab ho hw (by simp[base]) (p:=Op.move (Operand.tmp 1)) (by kernel_rfl) (Ad fin_g8 (by decide) ho) r1 n1 (x:=Pt tb 0) rfl (λo' h'=>by unfold execOp;rw[h'];simp only[l0];simp[go_sem]) hk
 .intro v1 w1 o ho hw r1 n1 g1
  refine hN v1 w1 _ o ho hw ⟨(Ao _ _ _ _).trans hA.1,(Am _ _ _ _).trans hA.2.1,?_⟩ r1 n1 g1;have hsz:35+8<=a.tmps.size:=by rw[hA.1];decide
  intro p hp;simp only[Sm,or_false] at hp;rcases hp with rfl|rfl|rfl|rfl|rfl|rfl|rfl|rfl;rw[Qe,Aa _ _ _ _ _ hsz,if_neg (by simp),<-Qe];exact hA.2.2 (0,Pt kp 0) (by simp);rw[Qe,Aa _ _ _ _ _ hsz,if_neg (by simp),<-Qe];exact hA.2.2 (1,Pt tb 0) (by simp);rw[Qe,Aa _ _ _ _ _ hsz,if_neg (by simp),<-Qe];exact hA.2.2 (2,F) (by simp);rw[Qe,Aa _ _ _ _ _ hsz,if_neg (by simp),<-Qe];exact hA.2.2 (6,Pt rb 0) (by simp);rw[Qe,Aa _ _ _ _ _ hsz,if_neg (by simp),<-Qe];exact hA.2.2 (7,I x) (by simp);rw[Qe,Aa _ _ _ _ _ hsz,if_pos (by simp)];rfl;rw[Qe,Aa _ _ _ _ _ hsz,if_pos (by simp)];rfl;rw[Qe,Aa _ _ _ _ _ hsz,if_pos (by simp)];rfl
def val_g10 (kp tb cb i:Nat) (x:Int):Nat->Value
 |0=>Pt kp 0
 |1=>Pt kp 0
 |2=>Pt kp 0
 |3=>Pt cb 0
 |4=>Pt tb 0
 |5=>I x
 |6=>Pt tb 0
 |7=>I i
 |8=>I (R1.Ae 1 i 0)
 |_=>undef
theorem reg_g10:regOk gO10 9 47=true:=by kernel_rfl
theorem fin_g10:((gO10.extract 0 9).all λo=>plainOp Tryd.prog true o.op||askCall plainFs plainXs o.op)=true:=by kernel_rfl
theorem g10_pre {main:Bool}(kp tb cb i:Nat) (x:Int) (hA:Fl 62 [(0,Pt kp 0),(1,Pt tb 0),(2,F),(6,Pt rb 0),(7,I x)] a) (k:List Item) (cs:List Frame) (hF:R1.Flds v) (h0:v.cell? ⟨kp,0,none⟩=some (Pt cb 0)) (h1:v.cell? ⟨tb,1,none⟩=some (I i)) (hvw:Rel z v w) (hn:NoRow Ch v)
 (hN:∀ v1 w1 a' o,gO10[9]? = some o->(∀ y,Region.wanted o y=true)->Fl 62 [(0,Pt kp 0),(1,Pt tb 0),(2,F),(6,Pt rb 0),(7,I x),(50,Pt cb 0),(51,Pt tb 0),(52,I x),(55,I (R1.Ae 1 i 0))] a'->Rel z v1 w1->NoRow Ch v1->Grows v v1->GoesI Tryd.prog main (DT (ScZ z) Ch) Stop (G ((base 64).at a' (.inRegion gO10 [9] :: k)) cs) w1):
 GoesI Tryd.prog main (DT (ScZ z) Ch) Stop (G ((base 64).at a (.code (.region 10 gO10 true) :: k)) cs) w:=by
 refine A7 (val:=val_g10 kp tb cb i x) reg_g10 (by rw[hA.1];decide) hvw hn ?_ ?_
 .intro i0 o rest a' v1 w1 hi ho hw ev ev0 r1 n1 g1 hk
  match i0,hi,ho,ev,hk with
  |0,_,ho,ev,hk=>have l0:a'.eval (.tmp 0)=Pt kp 0:=(ev0 0 (by decide)).trans (hA.at 0 _ (by simp));exact Ab ho hw (by simp[base]) (p:=Op.move (Operand.tmp 0)) (by kernel_rfl) (Ad fin_g10 (by decide) ho) r1 n1 (x:=Pt kp 0) rfl (λo' h'=>by unfold execOp;rw[h'];simp only[l0];simp[go_sem]) hk
  |1,_,ho,ev,hk=>have l0:a'.eval (.tmp 47)=Pt kp 0:=ev 0 (by decide) (by kernel_rfl);exact Ab ho hw (by simp[base]) (p:=Op.nilCheck (Operand.tmp 47)) (by kernel_rfl) (Ad fin_g10 (by decide) ho) r1 n1 (x:=Pt kp 0) rfl (λo' h'=>by unfold execOp;rw[h'];simp only[l0];simp[go_sem]) hk
  |2,_,ho,ev,hk=>have l0:a'.eval (.tmp 48)=Pt kp 0:=ev 1 (by decide) (by kernel_rfl);exact Ab ho hw (by simp[base]) (p:=Op.fieldAddr 146 (Operand.tmp 48) 0) (by kernel_rfl) (Ad fin_g10 (by decide) ho) r1 n1 (x:=Pt kp 0) rfl (λo' h'=>by unfold execOp;rw[h'];simp only[l0];simp[go_sem]) hk
  |3,_,ho,ev,hk=>have l0:a'.eval (.tmp 49)=Pt kp 0:=ev 2 (by decide) (by kernel_rfl);have c0:=g1.cell h0;exact Ab ho hw (by simp[base]) (p:=Op.load 116 (Operand.tmp 49)) (by kernel_rfl) (Ad fin_g10 (by decide) ho) r1 n1 (x:=Pt cb 0) rfl (λo' h'=>by unfold execOp;rw[h'];simp only[l0];simp[go_sem,c0]) hk
  |4,_,ho,ev,hk=>have l0:a'.eval (.tmp 1)=Pt tb 0:=(ev0 1 (by decide)).trans (hA.at 1 _ (by simp));exact Ab ho hw (by simp[base]) (p:=Op.move (Operand.tmp 1)) (by kernel_rfl) (Ad fin_g10 (by decide) ho) r1 n1 (x:=Pt tb 0) rfl (λo' h'=>by unfold execOp;rw[h'];simp only[l0];simp[go_sem]) hk
  |5,_,ho,ev,hk=>have l0:a'.eval (.tmp 7)=I x:=(ev0 7 (by decide)).trans (hA.at 7 _ (by simp));exact Ab ho hw (by simp[base]) (p:=Op.move (Operand.tmp 7)) (by kernel_rfl) (Ad fin_g10 (by decide) ho) r1 n1 (x:=I x) rfl (λo' h'=>by unfold execOp;rw[h'];simp only[l0];simp[go_sem]) hk
  |6,_,ho,ev,hk=>have l0:a'.eval (.tmp 1)=Pt tb 0:=(ev0 1 (by decide)).trans (hA.at 1 _ (by simp));exact Ab ho hw (by simp[base]) (p:=Op.move (Operand.tmp 1)) (by kernel_rfl) (Ad fin_g10 (by decide) ho) r1 n1 (x:=Pt tb 0) rfl (λo' h'=>by unfold execOp;rw[h'];simp only[l0];simp[go_sem]) hk
  |7,_,ho,ev,hk =>have l0:a'.eval (.tmp 53)=Pt tb 0:=ev 6 (by decide) (by kernel_rfl);exact op_calls (f:=68) (fn:=Tryd.f68) (xs:=#[.tmp 53]) (ats:=#[48]) (args:=#[Pt tb 0]) ho hw (by simp[base]) (by kernel_rfl) (by simp only[List.map_toArray,List.map_cons,List.map_nil,l0]) Tryd.func68 (by kernel_rfl) rfl (fineFn_body fineT (by simp[LT,plainFs]) Tryd.func68 rfl) (λtmps=>⟨_,λw=>results_tmp rfl _ _ _,λw=>by simp[results,go_sem]⟩) r1 n1 (x:=I i) rfl (λτ=>wp_mono (id_body tb i (onTape v1 τ 0) (g1.cell h1) _ rfl) (bp_mono λr u hq=>⟨hq.1,by rw[hq.2];exact gtape (grefl _)⟩)) hk
  |8,_,ho,ev,hk =>have l0:a'.eval (.tmp 54)=I i:=ev 7 (by decide) (by kernel_rfl);exact op_calls (f:=96) (fn:=Tryd.f96) (xs:=#[.const (.int .i64 1),.tmp 54,.const (.int .i64 0)]) (ats:=#[3,3,28]) (args:=#[I 1,I i,I 0]) ho hw (by simp[base]) (by kernel_rfl) (by simp only[List.map_toArray,List.map_cons,List.map_nil,l0];rfl) Tryd.func96 (by kernel_rfl) rfl (fineFn_body fineT (by simp[LT,plainFs]) Tryd.func96 rfl) (λtmps=>⟨_,λw=>results_tmp rfl _ _ _,λw=>by simp[results,go_sem]⟩) r1 n1 (x:=I (R1.Ae 1 i 0)) rfl (λτ=>wp_mono (R1.wordOf_any 1 i 0 (onTape v1 τ 0) ((Ax hF g1).of (λa x h=>h)) _ rfl) (bp_mono λr u hq=>⟨hq.1,gtape (Ba hq.2)⟩)) hk
 .intro v1 w1 o ho hw r1 n1 g1
  refine hN v1 w1 _ o ho hw ⟨(Ao _ _ _ _).trans hA.1,(Am _ _ _ _).trans hA.2.1,?_⟩ r1 n1 g1;have hsz:47+9<=a.tmps.size:=by rw[hA.1];decide
  intro p hp;simp only[Sm,or_false] at hp;rcases hp with rfl|rfl|rfl|rfl|rfl|rfl|rfl|rfl|rfl;rw[Qe,Aa _ _ _ _ _ hsz,if_neg (by simp),<-Qe];exact hA.2.2 (0,Pt kp 0) (by simp);rw[Qe,Aa _ _ _ _ _ hsz,if_neg (by simp),<-Qe];exact hA.2.2 (1,Pt tb 0) (by simp);rw[Qe,Aa _ _ _ _ _ hsz,if_neg (by simp),<-Qe];exact hA.2.2 (2,F) (by simp);rw[Qe,Aa _ _ _ _ _ hsz,if_neg (by simp),<-Qe];exact hA.2.2 (6,Pt rb 0) (by simp);rw[Qe,Aa _ _ _ _ _ hsz,if_neg (by simp),<-Qe];exact hA.2.2 (7,I x) (by simp);rw[Qe,Aa _ _ _ _ _ hsz,if_pos (by simp)];rfl;rw[Qe,Aa _ _ _ _ _ hsz,if_pos (by simp)];rfl;rw[Qe,Aa _ _ _ _ _ hsz,if_pos (by simp)];rfl;rw[Qe,Aa _ _ _ _ _ hsz,if_pos (by simp)];rfl
theorem g7_wp {kp:Nat}{b:Bool}(hA:Fl 62 [(0,Pt kp 0),(1,Pt tb 0),(2,F),(6,Pt rb 0),(7,I x),(16,I (R1.stI x))] a) (hb:(R1.stI x==2)=b):(seq1 gS).wp Tryd.prog (λe a' w'=>e=.normal∧Fl 62 [(33,.bool b),(0,Pt kp 0),(1,Pt tb 0),(2,F),(6,Pt rb 0),(7,I x),(16,I (R1.stI x))] a'∧w'.heap=v.heap∧w'.os=v.os∧w'.output=v.output) a v:=by
 obtain ⟨hsz,hd,hpp⟩:=hA;obtain ⟨u,rfl,hg⟩:=litN hsz hd;have u0:=(hg 0).symm.trans (hpp (0,Pt kp 0) (by simp));have u1:=(hg 1).symm.trans (hpp (1,Pt tb 0) (by simp));have u2:=(hg 2).symm.trans (hpp (2,F) (by simp));have u6:=(hg 6).symm.trans (hpp (6,Pt rb 0) (by simp));have u7:=(hg 7).symm.trans (hpp (7,I x) (by simp));have u16:=(hg 16).symm.trans (hpp (16,I (R1.stI x)) (by simp));clear hg hpp hsz hd;unfold gS gI gL gB Tryd.f64 seq1 seq2 blockC loopC;simp only[Qa,lits,Nat.reduceAdd,u0,u1,u2,u6,u7,u16];clear u0 u1 u2 u6 u7 u16;go_wp2_with fail;exact ⟨rfl,rfl,by
  intro p hp;simp only[Sm,or_false] at hp;rcases hp with rfl|rfl|rfl|rfl|rfl|rfl|rfl<;>rfl⟩
theorem g9_wp {kp:Nat}{b:Bool}(hA:Fl 62 [(0,Pt kp 0),(1,Pt tb 0),(2,F),(6,Pt rb 0),(7,I x),(16,I (R1.stI x))] a) (hb:(R1.stI x==0)=b):(seq1 gE).wp Tryd.prog (λe a' w'=>e=.normal∧Fl 62 [(45,.bool b),(0,Pt kp 0),(1,Pt tb 0),(2,F),(6,Pt rb 0),(7,I x),(16,I (R1.stI x))] a'∧w'.heap=v.heap∧w'.os=v.os∧w'.output=v.output) a v:=by
 obtain ⟨hsz,hd,hpp⟩:=hA;obtain ⟨u,rfl,hg⟩:=litN hsz hd;have u0:=(hg 0).symm.trans (hpp (0,Pt kp 0) (by simp));have u1:=(hg 1).symm.trans (hpp (1,Pt tb 0) (by simp));have u2:=(hg 2).symm.trans (hpp (2,F) (by simp));have u6:=(hg 6).symm.trans (hpp (6,Pt rb 0) (by simp));have u7:=(hg 7).symm.trans (hpp (7,I x) (by simp));have u16:=(hg 16).symm.trans (hpp (16,I (R1.stI x)) (by simp));clear hg hpp hsz hd;unfold gE gS gI gL gB Tryd.f64 seq1 seq2 blockC loopC condB;simp only[Qa,lits,Nat.reduceAdd,u0,u1,u2,u6,u7,u16];clear u0 u1 u2 u6 u7 u16;go_wp2_with fail;exact ⟨rfl,rfl,by
  intro p hp;simp only[Sm,or_false] at hp;rcases hp with rfl|rfl|rfl|rfl|rfl|rfl|rfl<;>rfl⟩
theorem get_done {kp:Nat}(y:Int) (hx:R1.stI x=2) (hF:R1.Flds v) (h1:v.cell? ⟨kp,1,none⟩=some (Pt cb 0)) (hA:Fl 62 [(0,Pt kp 0),(1,Pt t.tb 0),(2,F),(6,Pt rb 0),(7,I x),(16,I (R1.stI x))] a) (cs:List Frame) (Hm:Goroutine->Prop)
 (hH:∀ g,(∃ a,Fl 62 [(37,I (R1.codI x)),(0,Pt kp 0),(1,Pt t.tb 0),(2,F),(6,Pt rb 0)] a∧OpBack (h==0) i j cb t.tb 1 effLoad (λr=>G (gVal a r) cs) g)->Hm g)
 (hvw:Rel z v w) (hn:NoRow Ch v) (hm:Mem z S K v) (ht:S.thr[i]? = some t) (hK:K[j]? = some (cb,y)) (hz:z t.tb=some 2) (hcont:cont ⟨t.tb,2,none⟩=.chan (some t.gc))
 (hstop:∀ g w',GiveT z cont h S.bk t.gc Hm (Then z Ch S K v (waiting S i t 1 1 j) K) g w'->Stop g w'):
 GoesI Tryd.prog (h==0) (DT (ScZ z) Ch) Stop (G (gSw a) cs) w:=by
 rw[show gSw a=(base 64).at a [.code (.seq (seq1 gS) (.cond (.tmp 33) (.seq (.region 8 gO8 true) .ret) (.seq (seq1 gE) (.cond (.tmp 45) (.seq (.region 10 gO10 true) (seq2 gN)) gW)))),.inBlock 2,.inBlock 1,.inLoop gL,.inBlock 0] by unfold gSw;rw[<-eGS]];refine goesI_seq (dt_idle _ _) ?_;refine goesI_plain (z:=z) (wr:=true) (L:=LT) (I:=NoRow Ch) hE fineT noRow_keeps (λv v' w w' es hi hr ho he=>dt_of_z v v' w w' es hi hr ho he) hvw fine_g7 hA.2.1 (by simp[base]) hn (Q:=λa w'=>Fl 62 [(33,.bool true),(0,Pt kp 0),(1,Pt t.tb 0),(2,F),(6,Pt rb 0),(7,I x),(16,I (R1.stI x))] a∧w'.heap=v.heap∧w'.os=v.os∧w'.output=v.output) (λτ=>g7_wp (v:=onTape v τ 0) hA (by rw[hx];rfl)) ?_;rintro a v1 w1 ⟨hA,q1,q2,q3⟩ r1 n1 -;have g1:Grows v v1:=⟨by rw[q1];exact Qi _,λb _=>by rw[q1],q2,q3⟩
 refine goesI_cond (dt_idle _ _) (t:=true) (hA.at 33 _ (by simp)) ?_;simp only[if_true,if_false,Qh];have hA:Fl 62 [(0,Pt kp 0),(1,Pt t.tb 0),(2,F),(6,Pt rb 0),(7,I x),(16,I (R1.stI x))] a:=hA.sub (by simp);refine goesI_seq (dt_idle _ _) ?_;refine g8_pre (main:=h==0) (F:=F) (rb:=rb) kp t.tb cb x (hA.sub (l':=[(0,Pt kp 0),(1,Pt t.tb 0),(2,F),(6,Pt rb 0),(7,I x)]) (by simp)) _ cs (Ax hF g1) (g1.cell h1) r1 n1 (λv2 w2 a2 o ho hw hA2 r2 n2 g2=>?_);have g3:=An g1 g2;have e2:=hm.grows g3;refine goesI_into (f:=73) (fn:=Tryd.f73) (args:=#[Pt cb 0,Pt t.tb 0]) (dt_idle _ _) ho (hw _) (by simp[base]) (op_at (p:=.call { callee:=.value (.func 73),args:=#[.tmp 41,.tmp 42],argTypes:=#[116,48] }) (by kernel_rfl) ho) (by simp only[List.map_toArray,List.map_cons,List.map_nil];rw[hA2.at 41 (Pt cb 0) (by simp),hA2.at 42 (Pt t.tb 0) (by simp)]) Tryd.func73 (by kernel_rfl) rfl ?_;refine load_goes y _ Hm ho (λg hg=>hH g ⟨a2,hA2.sub (by simp),?_⟩) r2 n2 e2.mem ht hK hz hcont (λg w' hg=>hstop g w' (give_mono (λhF=>?_) hg)) _ rfl
 .rw[dst_at (p:=some 43) (by kernel_rfl) ho] at hg
  exact hg
 .obtain ⟨v',k1,k2,k3⟩:=hF
  exact ⟨v',k1,k2,e2.trans k3⟩
theorem get_new {kp:Nat}(y:Int) (hx:R1.stI x=0) (hF:R1.Flds v) (h0:v.cell? ⟨kp,0,none⟩=some (Pt cb 0)) (hA:Fl 62 [(0,Pt kp 0),(1,Pt t.tb 0),(2,F),(6,Pt rb 0),(7,I x),(16,I (R1.stI x))] a) (cs:List Frame) (Hm:Goroutine->Prop)
 (hH:∀ g,(∃ a,Fl 62 [(0,Pt kp 0),(1,Pt t.tb 0),(2,F),(6,Pt rb 0)] a∧OpBack (h==0) i j cb t.tb 4 (effCas x (R1.Ae 1 i 0)) (λr=>G (gTry a r) cs) g)->Hm g)
 (hvw:Rel z v w) (hn:NoRow Ch v) (hm:Mem z S K v) (ht:S.thr[i]? = some t) (hK:K[j]? = some (cb,y)) (hz:z t.tb=some 2) (hcont:cont ⟨t.tb,2,none⟩=.chan (some t.gc))
 (hstop:∀ g w',GiveT z cont h S.bk t.gc Hm (Then z Ch S K v (waiting S i t 1 4 j) K) g w'->Stop g w'):
 GoesI Tryd.prog (h==0) (DT (ScZ z) Ch) Stop (G (gSw a) cs) w:=by
 rw[show gSw a=(base 64).at a [.code (.seq (seq1 gS) (.cond (.tmp 33) (.seq (.region 8 gO8 true) .ret) (.seq (seq1 gE) (.cond (.tmp 45) (.seq (.region 10 gO10 true) (seq2 gN)) gW)))),.inBlock 2,.inBlock 1,.inLoop gL,.inBlock 0] by unfold gSw;rw[<-eGS]];refine goesI_seq (dt_idle _ _) ?_;refine goesI_plain (z:=z) (wr:=true) (L:=LT) (I:=NoRow Ch) hE fineT noRow_keeps (λv v' w w' es hi hr ho he=>dt_of_z v v' w w' es hi hr ho he) hvw fine_g7 hA.2.1 (by simp[base]) hn (Q:=λa w'=>Fl 62 [(33,.bool false),(0,Pt kp 0),(1,Pt t.tb 0),(2,F),(6,Pt rb 0),(7,I x),(16,I (R1.stI x))] a∧w'.heap=v.heap∧w'.os=v.os∧w'.output=v.output) (λτ=>g7_wp (v:=onTape v τ 0) hA (by rw[hx];rfl)) ?_;rintro a v1 w1 ⟨hA,q1,q2,q3⟩ r1 n1 -;have g1:Grows v v1:=⟨by rw[q1];exact Qi _,λb _=>by rw[q1],q2,q3⟩
 refine goesI_cond (dt_idle _ _) (t:=false) (hA.at 33 _ (by simp)) ?_;simp only[if_true,if_false,Qh];have hA:Fl 62 [(0,Pt kp 0),(1,Pt t.tb 0),(2,F),(6,Pt rb 0),(7,I x),(16,I (R1.stI x))] a:=hA.sub (by simp);refine goesI_seq (dt_idle _ _) ?_;refine goesI_plain (z:=z) (wr:=true) (L:=LT) (I:=NoRow Ch) hE fineT noRow_keeps (λv v' w w' es hi hr ho he=>dt_of_z v v' w w' es hi hr ho he) r1 fine_g9 hA.2.1 (by simp[base]) n1 (Q:=λa w'=>Fl 62 [(45,.bool true),(0,Pt kp 0),(1,Pt t.tb 0),(2,F),(6,Pt rb 0),(7,I x),(16,I (R1.stI x))] a∧w'.heap=v1.heap∧w'.os=v1.os∧w'.output=v1.output) (λτ=>g9_wp (v:=onTape v1 τ 0) hA (by rw[hx];rfl)) ?_;rintro a v2 w2 ⟨hA,q4,q5,q6⟩ r2 n2 -;have g2:Grows v v2:=An g1 ⟨by rw[q4];exact Qi _,λb _=>by rw[q4],q5,q6⟩;refine goesI_cond (dt_idle _ _) (t:=true) (hA.at 45 _ (by simp)) ?_;simp only[if_true,if_false,Qh];have hA:Fl 62 [(0,Pt kp 0),(1,Pt t.tb 0),(2,F),(6,Pt rb 0),(7,I x),(16,I (R1.stI x))] a:=hA.sub (by simp);refine goesI_seq (dt_idle _ _) ?_;have c1:v2.cell? ⟨t.tb,1,none⟩=some (I i):=g2.cell (hm.rep.cell ht).2.1;refine g10_pre (main:=h==0) (F:=F) (rb:=rb) kp t.tb cb i x (hA.sub (l':=[(0,Pt kp 0),(1,Pt t.tb 0),(2,F),(6,Pt rb 0),(7,I x)]) (by simp)) _ cs (Ax hF g2) (g2.cell h0) c1 r2 n2 (λv3 w3 a2 o ho hw hA2 r3 n3 g3=>?_);have g4:=An g2 g3;have e2:=hm.grows g4
 refine goesI_into (f:=77) (fn:=Tryd.f77) (args:=#[Pt cb 0,Pt t.tb 0,I x,I (R1.Ae 1 i 0)]) (dt_idle _ _) ho (hw _) (by simp[base]) (op_at (p:=.call { callee:=.value (.func 77),args:=#[.tmp 50,.tmp 51,.tmp 52,.tmp 55],argTypes:=#[116,48,3,3] }) (by kernel_rfl) ho) (by simp only[List.map_toArray,List.map_cons,List.map_nil];rw[hA2.at 50 (Pt cb 0) (by simp),hA2.at 51 (Pt t.tb 0) (by simp),hA2.at 52 (I x) (by simp),hA2.at 55 (I (R1.Ae 1 i 0)) (by simp)]) Tryd.func77 (by kernel_rfl) rfl ?_;refine cas_goes x (R1.Ae 1 i 0) y _ Hm ho (λg hg=>hH g ⟨a2,hA2.sub (by simp),?_⟩) r3 n3 e2.mem ht hK hz hcont (λg w' hg=>hstop g w' (give_mono (λhF=>?_) hg)) _ rfl
 .rw[dst_at (p:=some 56) (by kernel_rfl) ho] at hg
  exact hg
 .obtain ⟨v',k1,k2,k3⟩:=hF
  exact ⟨v',k1,k2,e2.trans k3⟩
end Go.Proofs.YtfjjoohflcchnaaDoor.Gen
namespace Go.Lift
open Go.Conc
variable {v:Value} {c:Frame}
section
variable {P:Program}{main:Bool}{b:Frame}{a:Act}{k:List Item}{cs:List Frame}{w:World}{D:World->World->Array Event->Prop}{Stop:Goroutine->World->Prop}{ops:Array Oper}{i:Nat}{rest:List Nat}{o:Oper}{todo:List Item}{ds:List Deferred}{f:FuncId}{fn:Func}
theorem stepG_panic (ho:ops[i]? = some o) (hw:Region.wanted o (yielded ops a.tmps)=true) (hk:b.kind≠.early) (hr:(execOp a.eval o).run P w=.halt (.panic v) w) (he:(execOp a.eval o).events P w #[]=#[]):
 stepG P main (G (b.at a (.inRegion ops (i :: rest) :: k)) cs) w=.go (G { b.at a (.inRegion ops (i :: rest) :: k) with mode:=.panicking [{ v:=v,recovered:=false }] } cs) w #[]:=by
 have hk':(b.kind==CallKind.early)=false:=by simpa using hk
 rw[stepG_oper ho hw];simp[stepG.apply,hr,he,G,Frame.at,Frame.raise,hk',GStep.after,seen_none]
theorem stepG_unwind_cloP {c : Code} {cap : Array Value} {ch : List PanicEntry} (hd : a.defers = dclo f cap :: ds) (hf : P.funcs[f]? = some fn) (hname : (fn.name == "runtime.NumGoroutine") = false) (hb : fn.body = some c) :
 stepG P main (G { b.at a todo with mode:=.panicking ch } cs) w =
  .go (G ((baseD f).at { tmps:=cap++Array.replicate (fn.ntmps - cap.size) undef,defers:=[] } [.code c]) ({ b.at ⟨a.tmps,ds⟩ todo with mode:=.panicking ch } :: cs)) w #[]:=by
 have h1 : ¬ fn.name = "runtime.NumGoroutine" := by simpa using hname
 rw[<-enter_atD cap hf hb];simp[G,stepG,unwind,callDeferred,Frame.at,hd,dclo,invoke,callFunc,hf,h1,hb,GStep.after,seen_none]
theorem stepG_recover_some (ho:ops[i]? = some o) (hw:Region.wanted o (yielded ops a.tmps)=true) (hk:b.kind=.deferred) (hc:c.mode=.panicking [{ v:=v,recovered:=false }]) (hr:(execOp a.eval o).run P w=.ok .recover w) (he:(execOp a.eval o).events P w #[]=#[]):
 stepG P main (G (b.at a (.inRegion ops (i :: rest) :: k)) (c :: cs)) w=.go (G (b.at (a.put o.dst v) (.inRegion ops rest :: k)) ({ c with mode:=.panicking [{ v:=v,recovered:=true }] } :: cs)) w #[]:=by
 have hfin:(b.at a (.inRegion ops (i :: rest) :: k)).finish v=b.at (a.put o.dst v) (.inRegion ops rest :: k):=by rw[Frame.finish_at,ho];rfl
 rw[stepG_oper ho hw,<-hfin];simp[stepG.apply,hr,he,G,Frame.at,hk,hc,tryRecover,GStep.after,seen_none]
theorem stepG_backD {T:Array Value}{todo':List Item}(hf:P.funcs[f]? = some fn) (hr:fn.results=#[]) (hc:c.mode=.panicking [{ v:=v,recovered:=true }]):
 stepG P main (G { (baseD f).at ⟨T,[]⟩ todo' with mode:=.returning } (c :: cs)) w=.go (G { c with mode:=.returning } cs) w #[]:=by
 simp[G,stepG,unwind,doReturn,results,Frame.at,baseD,hf,hr,hc,seen,GStep.after]
theorem stepG_backR {T:Array Value}{todo':List Item}(hf:P.funcs[f]? = some fn) (hr:fn.results=#[]) (hc:c.mode=.returning):
 stepG P main (G { (baseD f).at ⟨T,[]⟩ todo' with mode:=.returning } (c :: cs)) w=.go (G c cs) w #[]:=by
 simp[G,stepG,unwind,doReturn,results,Frame.at,baseD,hf,hr,hc,seen,GStep.after]
end
end Go.Lift
namespace Go.Proofs.YtfjjoohflcchnaaDoor.Gen
open Go Go.Lift Go.Conc Go.RowKit
variable {z:Nat->Option Nat} {Ch:Nat->Prop} {Stop:Goroutine->World->Prop} {main:Bool} {v w:World} {rb:Nat} {a:Act}
def dB:Code:=Tryd.f28.body.getD .skip
def dO1:Array Oper:=opsOf (seq1 (seq2 dB))
def dFr (a:Act) (r:Value):Frame:=(base 28).at (a.put (some 13) r) [.inRegion dO1 [7],.code .ret]
theorem eDB:dB=.seq (seq1 dB) (.seq (.region 1 dO1 true) .ret):=by kernel_rfl
theorem fine_d0:fineCode Tryd.prog true LT (seq1 dB):=fineCode_ask callT extT (by kernel_rfl)
def val_d1 (ob tb kp b3 b4 b5:Nat):Nat->Value
 |0=>Pt ob 0
 |1=>Pt ob 0
 |2=>Pt ob 0
 |3=>Pt kp 0
 |4=>Pt tb 0
 |5=>.func (.func 65) #[] #[Pt b3 0,Pt b4 0,Pt b5 0]
 |_=>undef
theorem reg_d1:regOk dO1 6 7=true:=by kernel_rfl
theorem fin_d1:((dO1.extract 0 6).all λo=>plainOp Tryd.prog true o.op||askCall plainFs plainXs o.op)=true:=by kernel_rfl
theorem d1_pre (ob tb kp b3 b4 b5:Nat) (hA:Fl 14 [(3,Pt b3 0),(4,Pt b4 0),(5,Pt b5 0),(6,Pt rb 0)] a) (k:List Item) (cs:List Frame) (h3:v.cell? ⟨b3,0,none⟩=some (Pt ob 0)) (h4:v.cell? ⟨b4,0,none⟩=some (Pt tb 0)) (h1:v.cell? ⟨ob,0,none⟩=some (Pt kp 0)) (hvw:Rel z v w) (hn:NoRow Ch v)
 (hN:∀ v1 w1 a' o,dO1[6]? = some o->(∀ y,Region.wanted o y=true)->Fl 14 [(3,Pt b3 0),(4,Pt b4 0),(5,Pt b5 0),(6,Pt rb 0),(10,Pt kp 0),(11,Pt tb 0),(12,.func (.func 65) #[] #[Pt b3 0,Pt b4 0,Pt b5 0])] a'->Rel z v1 w1->NoRow Ch v1->Grows v v1->GoesI Tryd.prog main (DT (ScZ z) Ch) Stop (G ((base 28).at a' (.inRegion dO1 [6,7] :: k)) cs) w1):
 GoesI Tryd.prog main (DT (ScZ z) Ch) Stop (G ((base 28).at a (.code (.region 1 dO1 true) :: k)) cs) w:=by
 refine A7 (val:=val_d1 ob tb kp b3 b4 b5) reg_d1 (by rw[hA.1];decide) hvw hn ?_ ?_
 .intro i0 o rest a' v1 w1 hi ho hw ev ev0 r1 n1 g1 hk
  match i0,hi,ho,ev,hk with
  |0,_,ho,ev,hk=>have l0:a'.eval (.tmp 3)=Pt b3 0:=(ev0 3 (by decide)).trans (hA.at 3 _ (by simp));have c0:=g1.cell h3;exact Ab ho hw (by simp[base]) (p:=Op.load 46 (Operand.tmp 3)) (by kernel_rfl) (Ad fin_d1 (by decide) ho) r1 n1 (x:=Pt ob 0) rfl (λo' h'=>by unfold execOp;rw[h'];simp only[l0];simp[go_sem,c0]) hk
  |1,_,ho,ev,hk=>have l0:a'.eval (.tmp 7)=Pt ob 0:=ev 0 (by decide) (by kernel_rfl);exact Ab ho hw (by simp[base]) (p:=Op.nilCheck (Operand.tmp 7)) (by kernel_rfl) (Ad fin_d1 (by decide) ho) r1 n1 (x:=Pt ob 0) rfl (λo' h'=>by unfold execOp;rw[h'];simp only[l0];simp[go_sem]) hk
  |2,_,ho,ev,hk=>have l0:a'.eval (.tmp 8)=Pt ob 0:=ev 1 (by decide) (by kernel_rfl);exact Ab ho hw (by simp[base]) (p:=Op.fieldAddr 105 (Operand.tmp 8) 0) (by kernel_rfl) (Ad fin_d1 (by decide) ho) r1 n1 (x:=Pt ob 0) rfl (λo' h'=>by unfold execOp;rw[h'];simp only[l0];simp[go_sem]) hk
  |3,_,ho,ev,hk=>have l0:a'.eval (.tmp 9)=Pt ob 0:=ev 2 (by decide) (by kernel_rfl);have c0:=g1.cell h1;exact Ab ho hw (by simp[base]) (p:=Op.load 102 (Operand.tmp 9)) (by kernel_rfl) (Ad fin_d1 (by decide) ho) r1 n1 (x:=Pt kp 0) rfl (λo' h'=>by unfold execOp;rw[h'];simp only[l0];simp[go_sem,c0]) hk
  |4,_,ho,ev,hk=>have l0:a'.eval (.tmp 4)=Pt b4 0:=(ev0 4 (by decide)).trans (hA.at 4 _ (by simp));have c0:=g1.cell h4;exact Ab ho hw (by simp[base]) (p:=Op.load 48 (Operand.tmp 4)) (by kernel_rfl) (Ad fin_d1 (by decide) ho) r1 n1 (x:=Pt tb 0) rfl (λo' h'=>by unfold execOp;rw[h'];simp only[l0];simp[go_sem,c0]) hk
  |5,_,ho,ev,hk=>have l0:a'.eval (.tmp 3)=Pt b3 0:=(ev0 3 (by decide)).trans (hA.at 3 _ (by simp));have l1:a'.eval (.tmp 4)=Pt b4 0:=(ev0 4 (by decide)).trans (hA.at 4 _ (by simp));have l2:a'.eval (.tmp 5)=Pt b5 0:=(ev0 5 (by decide)).trans (hA.at 5 _ (by simp));exact Ab ho hw (by simp[base]) (p:=Op.makeFunc (Fn.func 65) #[] #[Operand.tmp 3,Operand.tmp 4,Operand.tmp 5]) (by kernel_rfl) (Ad fin_d1 (by decide) ho) r1 n1 (x:=.func (.func 65) #[] #[Pt b3 0,Pt b4 0,Pt b5 0]) rfl (λo' h'=>by unfold execOp;rw[h'];simp only[l0,l1,l2];simp[go_sem];exact ⟨by simpa [Act.eval] using l0,by simpa [Act.eval] using l1,by simpa [Act.eval] using l2⟩) hk
 .intro v1 w1 o ho hw r1 n1 g1
  refine hN v1 w1 _ o ho hw ⟨(Ao _ _ _ _).trans hA.1,(Am _ _ _ _).trans hA.2.1,?_⟩ r1 n1 g1;have hsz:7+6<=a.tmps.size:=by rw[hA.1];decide
  intro p hp;simp only[Sm,or_false] at hp;rcases hp with rfl|rfl|rfl|rfl|rfl|rfl|rfl;rw[Qe,Aa _ _ _ _ _ hsz,if_neg (by simp),<-Qe];exact hA.2.2 (3,Pt b3 0) (by simp);rw[Qe,Aa _ _ _ _ _ hsz,if_neg (by simp),<-Qe];exact hA.2.2 (4,Pt b4 0) (by simp);rw[Qe,Aa _ _ _ _ _ hsz,if_neg (by simp),<-Qe];exact hA.2.2 (5,Pt b5 0) (by simp);rw[Qe,Aa _ _ _ _ _ hsz,if_neg (by simp),<-Qe];exact hA.2.2 (6,Pt rb 0) (by simp);rw[Qe,Aa _ _ _ _ _ hsz,if_pos (by simp)];rfl;rw[Qe,Aa _ _ _ _ _ hsz,if_pos (by simp)];rfl;rw[Qe,Aa _ _ _ _ _ hsz,if_pos (by simp)];rfl
theorem do_in {ob tb kp:Nat}{kd b:Int}(h1:v.cell? ⟨ob,0,none⟩=some (Pt kp 0)) (cs:List Frame) (hvw:Rel z v w) (hn:NoRow Ch v)
 (hk:∀ a v' w' o,Fl 14 [(6,Pt (v.heap.size+3) 0)] a->Rel z v' w'->NoRow Ch v'->Grows v v'->v'.heap[v.heap.size]? = some (.cells #[Pt ob 0] 46 (0,0))->v'.heap[v.heap.size+1]? = some (.cells #[Pt tb 0] 48 (0,0))->v'.heap[v.heap.size+2]? = some (.cells #[I kd,I b] 52 (0,0))->v'.heap[v.heap.size+3]? = some (.cells #[I 0,I 0] 38 (0,0))->dO1[6]? = some o->o.dst=some 13->∀ code,Tryd.f64.body=some code ->
   GoesI Tryd.prog main (DT (ScZ z) Ch) Stop (G ((base 64).at { tmps:=#[Pt kp 0,Pt tb 0,.func (.func 65) #[] #[Pt v.heap.size 0,Pt (v.heap.size+1) 0,Pt (v.heap.size+2) 0]]++Array.replicate 59 undef,defers:=[] } [.code code]) ((base 28).at a (.inRegion dO1 [6,7] :: [.code .ret]):: cs)) w') (code:Code) (hc:Tryd.f28.body=some code):
 GoesI Tryd.prog main (DT (ScZ z) Ch) Stop (G ((base 28).at { tmps:=#[Pt ob 0,Pt tb 0,.agg #[I kd,I b]]++Array.replicate 11 undef,defers:=[] } [.code code]) cs) w:=by
 have hw0:code=.seq (seq1 dB) (.seq (.region 1 dO1 true) .ret):=by rw[show code=dB by unfold dB;rw[hc];rfl];exact eDB
 subst hw0;clear hc;refine goesI_seq (dt_idle _ _) ?_;refine goesI_plain (z:=z) (wr:=true) (L:=LT) (I:=NoRow Ch) hE fineT noRow_keeps (λv v' w w' es hi hr ho he=>dt_of_z v v' w w' es hi hr ho he) hvw fine_d0 rfl (by simp[base]) hn
  (Q:=λa w'=>Fl 14 [(3,Pt v.heap.size 0),(4,Pt (v.heap.size+1) 0),(5,Pt (v.heap.size+2) 0),(6,Pt (v.heap.size+3) 0)] a∧w'.heap=((((v.heap.push (.cells #[Pt ob 0] 46)).push (.cells #[Pt tb 0] 48)).push (.cells #[I kd,I b] 52)).push (.cells #[I 0,I 0] 38))∧w'.os=v.os∧w'.output=v.output) (λτ=>?_) ?_
 .unfold dB Tryd.f28 seq1
  simp only[Qa,Sy];go_wp2_with fail;exact ⟨⟨rfl,rfl,by
   intro p hp;simp only[Sm,or_false] at hp;rcases hp with rfl|rfl|rfl|rfl<;>rfl⟩,rfl,rfl,rfl⟩
 rintro a' v' w' ⟨hA,hv1,hv2,hv3⟩ hr' hn' -;have hsz:v'.heap.size=v.heap.size+4:=by rw[hv1];simp
 have hg:Grows v v':=⟨by omega,λb hb=>by rw[hv1,Qg,if_neg (by simp;omega),Qg,if_neg (by simp;omega),Qg,if_neg (by simp;omega),Qg,if_neg (by omega)],hv2,hv3⟩
 have hb0:v'.heap[v.heap.size]? = some (.cells #[Pt ob 0] 46 (0,0)):=by rw[hv1,Qg,if_neg (by simp<;>omega),Qg,if_neg (by simp<;>omega),Qg,if_neg (by simp<;>omega),Qg,if_pos (by simp)]
 have hb1:v'.heap[v.heap.size+1]? = some (.cells #[Pt tb 0] 48 (0,0)):=by rw[hv1,Qg,if_neg (by simp<;>omega),Qg,if_neg (by simp<;>omega),Qg,if_pos (by simp)]
 have hb2:v'.heap[v.heap.size+2]? = some (.cells #[I kd,I b] 52 (0,0)):=by rw[hv1,Qg,if_neg (by simp<;>omega),Qg,if_pos (by simp)]
 have hb3:v'.heap[v.heap.size+3]? = some (.cells #[I 0,I 0] 38 (0,0)):=by rw[hv1,Qg,if_pos (by simp)]
 refine goesI_seq (dt_idle _ _) ?_;refine d1_pre (main:=main) (rb:=v.heap.size+3) ob tb kp v.heap.size (v.heap.size+1) (v.heap.size+2) hA _ cs (by simp[World.cell?,hb0]) (by simp[World.cell?,hb1]) (hg.cell h1) hr' hn' (λv2 w2 a2 o ho hw hA2 r2 n2 g2=>?_);have st:∀ k,k<v'.heap.size->v2.heap[k]? = v'.heap[k]?:=λk hk=>g2.old k hk;refine goesI_into (f:=64) (fn:=Tryd.f64) (args:=#[Pt kp 0,Pt tb 0,.func (.func 65) #[] #[Pt v.heap.size 0,Pt (v.heap.size+1) 0,Pt (v.heap.size+2) 0]]) (dt_idle _ _) ho (hw _) (by simp[base]) (op_at (p:=.call { callee:=.value (.func 64),args:=#[.tmp 10,.tmp 11,.tmp 12],argTypes:=#[102,48,109] }) (by kernel_rfl) ho) (by simp only[List.map_toArray,List.map_cons,List.map_nil];rw[hA2.at 10 (Pt kp 0) (by simp),hA2.at 11 (Pt tb 0) (by simp),hA2.at 12 (.func (.func 65) #[] #[Pt v.heap.size 0,Pt (v.heap.size+1) 0,Pt (v.heap.size+2) 0]) (by simp)]) Tryd.func64 (by kernel_rfl) rfl ?_;exact hk a2 v2 w2 o (hA2.sub (by simp)) r2 n2 (An hg g2) (by rw[st _ (by omega)];exact hb0) (by rw[st _ (by omega)];exact hb1) (by rw[st _ (by omega)];exact hb2) (by rw[st _ (by omega)];exact hb3) ho (dst_at (by kernel_rfl) ho) _ rfl
theorem do_back {e x:Int}(hA:Fl 14 [(6,Pt rb 0)] a) (cs:List Frame) {bc:Frame}{ac:Act}{ops:Array Oper}{q:Nat}{rest:List Nat}{oc:Oper}{k0:List Item}(hoc:ops[q]? = some oc) (hpb:v.heap[rb]? = some (.cells #[I 0,I 0] 38 (0,0))) (hvw:Rel z v w) (hn:NoRow Ch v)
 (hk:∀ w',Rel z (ansW v rb e x) w'->NoRow Ch (ansW v rb e x)->GoesI Tryd.prog main (DT (ScZ z) Ch) Stop (G (bc.at (ac.put oc.dst (.agg #[I e,I x])) (.inRegion ops rest :: k0)) cs) w'):
 GoesI Tryd.prog main (DT (ScZ z) Ch) Stop (G (dFr a (.agg #[I e,I x])) (bc.at ac (.inRegion ops (q :: rest) :: k0) :: cs)) w:=by
 obtain ⟨hsz,hd,hpp⟩:=hA;obtain ⟨u,rfl,hg⟩:=litN hsz hd;have u6:=(hg 6).symm.trans (hpp (6,Pt rb 0) (by simp));clear hg hpp hsz hd;unfold dFr dO1 dB Tryd.f28 seq1 seq2 opsOf;simp only[Qa,lits,Nat.reduceAdd,u6];clear u6;walk_nrm
 have q0:v.cell? ⟨rb,0,none⟩=some (I 0):=by simp[World.cell?,hpb]
 have q1:v.cell? ⟨rb,1,none⟩=some (I 0):=by simp[World.cell?,hpb]
 have p0:v.frozen? ⟨rb,0,none⟩=false:=by simp[World.frozen?,hpb]
 have p1:v.frozen? ⟨rb,1,none⟩=false:=by simp[World.frozen?,hpb]
 have hrow:=Aq hpb (e) (x);refine goesI_doZ (L:=LT) rfl rfl (by decide) (fineOp_ask callT extT (by kernel_rfl)) hvw hn (v':=ansW v rb (e) (x)) (by unfold ansW;go_simp) rfl (λw9 r9 n9=>?_);refine goesI_regionEnd (dt_idle _ _) ?_;refine GoesI.ctl rfl (λ_=>stepG_ret') (dt_idle _ _) ?_;refine goesI_leaveZ (f:=28) (fn:=Tryd.f28) (x:=.agg #[I (e),I (x)]) r9 n9 Tryd.func28 rfl hoc ?_ (λw' r'=>hk w' r' n9);generalize ansW v rb (e) (x)=V at hrow;have k0:V.cell? ⟨rb,0,none⟩=some (I (e)):=by simp[World.cell?,hrow]
 have k1:V.cell? ⟨rb,1,none⟩=some (I (x)):=by simp[World.cell?,hrow]
 simp[results,go_sem,Tryd.f28, *]
def cB:Code:=Tryd.f65.body.getD .skip
def cO1:Array Oper:=opsOf (seq1 (seq2 cB))
def cFr1 (a:Act) (r:Value):Frame:=(base 65).at (a.put (some 7) r) [.inRegion cO1 [4],.code .ret]
theorem eCB:cB=.seq (seq1 cB) (.seq (.region 1 cO1 false) .ret):=by kernel_rfl
theorem fine_c0:fineCode Tryd.prog true LT (seq1 cB):=fineCode_ask callT extT (by kernel_rfl)
theorem clo_in {ob tb b3 b4 b5:Nat}{kd b:Int}(h3:v.heap[b3]? = some (.cells #[Pt ob 0] 46 (0,0))) (h4:v.heap[b4]? = some (.cells #[Pt tb 0] 48 (0,0))) (h5:v.heap[b5]? = some (.cells #[I kd,I b] 52 (0,0))) (cs:List Frame) (hvw:Rel z v w) (hn:NoRow Ch v)
 (hk:∀ a v' w' o,Fl 8 [(3,Pt v.heap.size 0)] a->Rel z v' w'->NoRow Ch v'->Grows v v'->v'.heap[v.heap.size]? = some (.cells #[I 0,I 0] 38 (0,0))->cO1[3]? = some o->o.dst=some 7->∀ code,Tryd.f66.body=some code ->
   GoesI Tryd.prog main (DT (ScZ z) Ch) Stop (G ((base 66).at { tmps:=#[Pt ob 0,Pt tb 0,.agg #[I kd,I b]]++Array.replicate 31 undef,defers:=[] } [.code code]) ((base 65).at a (.inRegion cO1 [3,4] :: [.code .ret]):: cs)) w') (code:Code) (hc:Tryd.f65.body=some code):
 GoesI Tryd.prog main (DT (ScZ z) Ch) Stop (G ((base 65).at { tmps:=#[Pt b3 0,Pt b4 0,Pt b5 0]++Array.replicate 5 undef,defers:=[] } [.code code]) cs) w:=by
 have hw0:code=.seq (seq1 cB) (.seq (.region 1 cO1 false) .ret):=by rw[show code=cB by unfold cB;rw[hc];rfl];exact eCB
 subst hw0;clear hc;refine goesI_seq (dt_idle _ _) ?_;refine goesI_plain (z:=z) (wr:=true) (L:=LT) (I:=NoRow Ch) hE fineT noRow_keeps (λv v' w w' es hi hr ho he=>dt_of_z v v' w w' es hi hr ho he) hvw fine_c0 rfl (by simp[base]) hn
  (Q:=λa w'=>Fl 8 [(0,Pt b3 0),(1,Pt b4 0),(2,Pt b5 0),(3,Pt v.heap.size 0)] a∧w'.heap=(v.heap.push (.cells #[I 0,I 0] 38))∧w'.os=v.os∧w'.output=v.output) (λτ=>?_) ?_
 .unfold cB Tryd.f65 seq1
  simp only[Qa,Sy];go_wp2_with fail;exact ⟨⟨rfl,rfl,by
   intro p hp;simp only[Sm,or_false] at hp;rcases hp with rfl|rfl|rfl|rfl<;>rfl⟩,rfl,rfl,rfl⟩
 rintro a' v' w' ⟨hA,hv1,hv2,hv3⟩ hr' hn' -;have hsz:v'.heap.size=v.heap.size+1:=by rw[hv1];simp
 have hg:Grows v v':=⟨by omega,λb hb=>by rw[hv1,Qg,if_neg (by omega)],hv2,hv3⟩
 have hb0:v'.heap[v.heap.size]? = some (.cells #[I 0,I 0] 38 (0,0)):=by rw[hv1,Qg,if_pos (by simp)]
 have st:∀ k o,v.heap[k]? = some o->v'.heap[k]? = some o:=λk o hk=>by rw[hg.old k (Qb hk).1];exact hk
 have d3:w'.cell? ⟨b3,0,none⟩=some (Pt ob 0):=by rw[hr'.cell?];simp[World.cell?,st _ _ h3]
 have d4:w'.cell? ⟨b4,0,none⟩=some (Pt tb 0):=by rw[hr'.cell?];simp[World.cell?,st _ _ h4]
 have d5:w'.cell? ⟨b5,0,none⟩=some (I kd):=by rw[hr'.cell?];simp[World.cell?,st _ _ h5]
 have d6:w'.cell? ⟨b5,1,none⟩=some (I b):=by rw[hr'.cell?];simp[World.cell?,st _ _ h5]
 have HV:Hid (Grows v v'∧v'.heap[v.heap.size]? = some (.cells #[I 0,I 0] 38 (0,0))∧Rel z v' w'∧NoRow Ch v'):=⟨⟨hg,hb0,hr',hn'⟩⟩
 clear hv1 hv2 hv3 hsz hg hb0 hr' hn' st h3 h4 h5 hvw hn;have hk:=λa o hA ho hd=>hk a v' w' o hA HV.out.2.2.1 HV.out.2.2.2 HV.out.1 HV.out.2.1 ho hd;clear HV;generalize v.heap.size=N at hA hk;unfold cO1 cB Tryd.f65 seq1 seq2 opsOf at hk;simp only[Qa] at hk;obtain ⟨hsz,hd,hpp⟩:=hA;obtain ⟨u,rfl,hg⟩:=litN hsz hd;have u0:=(hg 0).symm.trans (hpp (0,Pt b3 0) (by simp));have u1:=(hg 1).symm.trans (hpp (1,Pt b4 0) (by simp));have u2:=(hg 2).symm.trans (hpp (2,Pt b5 0) (by simp));have u3:=(hg 3).symm.trans (hpp (3,Pt N 0) (by simp));clear hg hpp hsz hd;unfold cO1 cB Tryd.f65 seq1 seq2 opsOf;simp only[Qa,lits,Nat.reduceAdd,u0,u1,u2,u3];clear u0 u1 u2 u3;refine goesI_seq (dt_idle _ _) ?_;refine goesI_region (dt_idle _ _) ?_;simp only[Sz,Sr,Nat.reduceAdd];iterate 3
  (refine goesI_oper rfl rfl (by decide) (λd K hK=>?_)
   go_simp;refine hK _ _ ⟨dt_reads (λe he=>?_),GoesI.at ?_ d⟩
   .have hm:=mem_listed he
    simp[go_sem, *] at hm
    try exact ⟨_,_,hm⟩
    try (rcases hm with rfl|rfl<;>exact ⟨_,_,rfl⟩)
   clear hK K)
 refine goesI_into (f:=66) (fn:=Tryd.f66) (args:=#[Pt ob 0,Pt tb 0,.agg #[I kd,I b]]) (dt_idle _ _) rfl rfl (by decide) rfl (by simp[Act.eval]) Tryd.func66 (by decide) rfl ?_;exact hk _ _ ⟨rfl,rfl,by
  intro p hp;simp only[Sm,or_false] at hp;rcases hp with rfl<;>rfl⟩ rfl rfl _ rfl
theorem clo_back {e x:Int}(hA:Fl 8 [(3,Pt rb 0)] a) (cs:List Frame) {bc:Frame}{ac:Act}{ops:Array Oper}{q:Nat}{rest:List Nat}{oc:Oper}{k0:List Item}(hoc:ops[q]? = some oc) (hpb:v.heap[rb]? = some (.cells #[I 0,I 0] 38 (0,0))) (hvw:Rel z v w) (hn:NoRow Ch v)
 (hk:∀ w',Rel z (ansW v rb e x) w'->NoRow Ch (ansW v rb e x)->GoesI Tryd.prog main (DT (ScZ z) Ch) Stop (G (bc.at (ac.put oc.dst (.agg #[I e,I x])) (.inRegion ops rest :: k0)) cs) w'):
 GoesI Tryd.prog main (DT (ScZ z) Ch) Stop (G (cFr1 a (.agg #[I e,I x])) (bc.at ac (.inRegion ops (q :: rest) :: k0) :: cs)) w:=by
 obtain ⟨hsz,hd,hpp⟩:=hA;obtain ⟨u,rfl,hg⟩:=litN hsz hd;have u3:=(hg 3).symm.trans (hpp (3,Pt rb 0) (by simp));clear hg hpp hsz hd;unfold cFr1 cO1 cB Tryd.f65 seq1 seq2 opsOf;simp only[Qa,lits,Nat.reduceAdd,u3];clear u3;walk_nrm
 have q0:v.cell? ⟨rb,0,none⟩=some (I 0):=by simp[World.cell?,hpb]
 have q1:v.cell? ⟨rb,1,none⟩=some (I 0):=by simp[World.cell?,hpb]
 have p0:v.frozen? ⟨rb,0,none⟩=false:=by simp[World.frozen?,hpb]
 have p1:v.frozen? ⟨rb,1,none⟩=false:=by simp[World.frozen?,hpb]
 have hrow:=Aq hpb (e) (x);refine goesI_doZ (L:=LT) rfl rfl (by decide) (fineOp_ask callT extT (by kernel_rfl)) hvw hn (v':=ansW v rb (e) (x)) (by unfold ansW;go_simp) rfl (λw9 r9 n9=>?_);refine goesI_regionEnd (dt_idle _ _) ?_;refine GoesI.ctl rfl (λ_=>stepG_ret') (dt_idle _ _) ?_;refine goesI_leaveZ (f:=65) (fn:=Tryd.f65) (x:=.agg #[I (e),I (x)]) r9 n9 Tryd.func65 rfl hoc ?_ (λw' r'=>hk w' r' n9);generalize ansW v rb (e) (x)=V at hrow;have k0:V.cell? ⟨rb,0,none⟩=some (I (e)):=by simp[World.cell?,hrow]
 have k1:V.cell? ⟨rb,1,none⟩=some (I (x)):=by simp[World.cell?,hrow]
 simp[results,go_sem,Tryd.f65, *]
end Go.Proofs.YtfjjoohflcchnaaDoor.Gen
