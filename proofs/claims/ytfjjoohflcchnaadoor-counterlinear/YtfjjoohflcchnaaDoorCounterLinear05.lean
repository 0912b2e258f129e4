/- CounterLinear, part 5 of 24: Cas, Lift25, Notes, Call5, Freeze, Await, Lift26, Awake2, Lift27, AwaitNo, Lift28, Ready, Play5, Pick, Scan, MainT, Ends, Life. -/
import Derived.Test.YtfjjoohflcchnaaDoorCounterLinear01
import Derived.Test.YtfjjoohflcchnaaDoorCounterLinear04
import Derived.Conc.DeferLaws
import Derived.Conc.QuitsD
import Derived.WalkLawsBesides
set_option linter.unusedSimpArgs false
set_option linter.unusedVariables false
set_option maxHeartbeats 4000000
set_option maxRecDepth 100000
noncomputable section
namespace Go.Proofs.YtfjjoohflcchnaaDoor
open Go Go.Lift Go.Conc Go.RowKit
def effCas (a y x:Int):(Int×Int)×Int×Value:=if x=a then ((a,y),y,.bool true) else ((x,x),x,.bool false)
def rest14:Code:=seq2 (seq2 (Tryd.f77.body.getD .skip))
theorem fine14:fineCode Tryd.prog true LT rest14:=fineCode_ask callT extT (by kernel_rfl)
theorem tail14 {z:Nat->Option Nat}{S:TS}{K:List (Nat×Int)}{v:World}{i j cb:Nat}{t:Thr}{x:Int}{a y:Int}(hm:Mem z S K v) (ht:S.thr[i]? = some t) (hK:K[j]? = some (cb,x)) (hn:(S.n+1)*40<=140737488355328) (a10 a11 a12 a13 a14 a15:Value):
 rest14.wp Tryd.prog (bodyPost Tryd.prog Tryd.f77 (λe w'=>∃ r,e=.returned r∧(r=(effCas a y x).2.2∧∃ tv,Evo z S K v (didS S tv i t (effCas a y x).1.1 (effCas a y x).1.2) (K.set j (cb,(effCas a y x).2.1)) w')))
  { tmps:=#[Pt cb 0,Pt t.tb 0,I a,I y,undef,undef,undef,undef,.bool false,undef,a10,a11,a12,a13,a14,a15,undef,undef,undef,undef,undef,undef,undef,undef,undef,undef,undef,undef,undef,undef,undef,undef,undef,undef],defers:=[] } v:=by
 obtain ⟨_,c1,f1⟩:=hm.cells hK;have HM:Hid (Mem z S K v):=⟨hm⟩
 by_cases hx:x=a
 .subst hx
  have HW:Hid (Evo z S K v S (K.set j (cb,y)) (v.setCell ⟨cb,1,none⟩ (I y))):=⟨Evo.write hm hK _⟩
  have HQ:Hid (effCas x y x=((x,y),y,.bool true)):=⟨by simp[effCas]⟩
  rw[HQ.out];clear hm hK;simp only at c1 f1;show Code.wp Tryd.prog (seq2 (seq2 (Tryd.f77.body.getD .skip))) _ _ _;unfold Tryd.f77 seq2;simp only[Qa]
  go_wp2_with (first
   |(go_at_call 111;refine ((body28 cb x y _ c1 f1).calls Tryd.func111 rfl).mono ?_;rintro e w1 ⟨_,rfl,rfl,rfl⟩)
   |(go_at_call 108;refine ((body27 HW.out.mem.rep ht x y hn).calls Tryd.func108 rfl).mono ?_;rintro e w2 ⟨_,rfl,rfl,tv,hev⟩))
  go_ret;exact ⟨_,rfl,rfl,tv,HW.out.did hev⟩
 have HW:Hid (Evo z S K v S (K.set j (cb,x)) v):=⟨by rw[set_same hK];exact Evo.refl hm⟩
 have HQ:Hid (effCas a y x=((x,x),x,.bool false)):=⟨by simp[effCas,hx]⟩
 rw[HQ.out];clear hm hK;simp only at c1 f1;show Code.wp Tryd.prog (seq2 (seq2 (Tryd.f77.body.getD .skip))) _ _ _;unfold Tryd.f77 seq2;simp only[Qa]
 go_wp2_with (first
  |(go_at_call 111;refine ((body28n cb x a y _ c1 f1 hx).calls Tryd.func111 rfl).mono ?_;rintro e w1 ⟨_,rfl,rfl,rfl⟩)
  |(go_at_call 107;refine ((body29 cb x _ c1).calls Tryd.func107 rfl).mono ?_;rintro e w1 ⟨_,rfl,rfl,rfl⟩)
  |(go_at_call 108;refine ((body27 HW.out.mem.rep ht x x hn).calls Tryd.func108 rfl).mono ?_;rintro e w2 ⟨_,rfl,rfl,tv,hev⟩))
 go_ret;exact ⟨_,rfl,rfl,tv,HW.out.did hev⟩
theorem res14 (tmps:Array Value):∃ v,(∀ w,(results Tryd.f77 tmps).run Tryd.prog w=.ok v w)∧∀ w,(results Tryd.f77 tmps).events Tryd.prog w #[]=#[] :=
 ⟨_,λ_=>results_tmp rfl _ _ _,λ_=>by simp[results,go_sem]⟩
theorem cas_goes {z:Nat->Option Nat}{Ch:Nat->Prop}{Stop:Goroutine->World->Prop}{h:Nat}{cont:Addr->Value}{S:TS}{K:List (Nat×Int)}{v w:World}{i j cb:Nat}{t:Thr}(a y:Int) (x:Int) (cs:List Frame) (Hm:Goroutine->Prop) {bc:Frame}{ac:Act}{ops:Array Oper}{q:Nat}{rest:List Nat}{oc:Oper}{k:List Item}(hoc:ops[q]? = some oc)
 (hH:∀ g,OpBack (h==0) i j cb t.tb 4 (effCas a y) (λr=>G (bc.at (ac.put oc.dst r) (.inRegion ops rest :: k)) cs) g->Hm g)
 (hvw:Rel z v w) (hn:NoRow Ch v) (hm:Mem z S K v) (ht:S.thr[i]? = some t) (hK:K[j]? = some (cb,x)) (hz:z t.tb=some 2) (hcont:cont ⟨t.tb,2,none⟩=.chan (some t.gc))
 (hstop:∀ g w',GiveT z cont h S.bk t.gc Hm (Then z Ch S K v (waiting S i t 1 4 j) K) g w'->Stop g w') (code:Code) (hc:Tryd.f77.body=some code):
 GoesI Tryd.prog (h==0) (DT (ScZ z) Ch) Stop (G ((base 77).at { tmps:=#[Pt cb 0,Pt t.tb 0,I a,I y]++Array.replicate 30 undef,defers:=[] } [.code code]) (bc.at ac (.inRegion ops (q :: rest) :: k) :: cs)) w:=by
 obtain rfl:=Qd hc;clear hc;have e0:w.cell? ⟨cb,0,none⟩=some (I j):=by rw[hvw.cell?];exact (hm.cells hK).1
 simp only[Sy];have HM:Hid (Mem z S K v):=⟨hm⟩
 clear hm;refine goesI_seq (dt_idle _ _) ?_;refine goesI_region (dt_idle _ _) ?_;simp only[Sz,Sr,Nat.reduceAdd]
 (refine goesI_oper rfl rfl (by decide) (λd K hK=>?_)
  go_simp;refine hK _ _ ⟨dt_reads (λe he=>?_),GoesI.at ?_ d⟩
  .have hm:=mem_listed he
   simp[go_sem, *] at hm
  clear hK K)
 refine goesI_regionEnd (dt_idle _ _) ?_;refine goesI_seq (dt_idle _ _) ?_;refine goesI_region (dt_idle _ _) ?_;simp only[Sz,Sr,Nat.reduceAdd];iterate 5
  (refine goesI_oper rfl rfl (by decide) (λd K hK=>?_)
   go_simp;refine hK _ _ ⟨dt_reads (λe he=>?_),GoesI.at ?_ d⟩
   .have hm:=mem_listed he
    simp[go_sem, *] at hm
    try exact ⟨_,_,hm⟩
   clear hK K)
 refine goesI_into (f:=106) (fn:=Tryd.f106) (args:=#[Pt t.tb 0,I j,I 4]) (dt_idle _ _) rfl rfl (by decide) rfl (by simp[Act.eval]) Tryd.func106 (by decide) rfl ?_;refine turn_mem 4 j _ Hm rfl (λg hg=>hH g ?_) hvw hn HM.out ht hz hcont hstop _ rfl;intro z1 Ch1 St yy w1 v1 S1 K1 t1 x1 r1 n1 m1 h1 htb hop hce hK1 hn1 hk;refine hg _ St yy w1 (dt_idle _ _) ?_;refine goesI_regionEnd (dt_idle _ _) ?_;rw[<-htb];refine goesI_rest (f:=77) (fn:=Tryd.f77) (c:=rest14) hE fineT r1 n1 Tryd.func77 fine14 rfl hoc res14 (λτ=>?_) (λr v' w' hR hr' hn'=>?_) (R:=λr w'=>r=(effCas a y x1).2.2∧∃ tv,Evo z1 S1 K1 v1 (didS S1 tv i t1 (effCas a y x1).1.1 (effCas a y x1).1.2) (K1.set j (cb,(effCas a y x1).2.1)) w');refine wp_mono (tail14 (m1.same (v':=onTape v1 τ 0) rfl) h1 hK1 hn1 _ _ _ _ _ _) (bp_mono λr u hq=>⟨hq.1,hq.2.choose,hq.2.choose_spec.base rfl rfl rfl⟩)
 .obtain ⟨rfl,tv,he⟩:=hR
  exact hk v' w' tv hr' hn' he
end Go.Proofs.YtfjjoohflcchnaaDoor
namespace Go.Lift
open Go.Conc
section
variable {P:Program}{main:Bool}{Stop:Goroutine->World->Prop}{k:List Item}{cs:List Frame}{w:World}{ops:Array Oper}{i:Nat}{rest:List Nat}{o:Oper}
theorem goesI_leaveZ {z:Nat->Option Nat}{Ch:Nat->Prop}{f:FuncId}{fn:Func}{a:Act}{todo:List Item}{bc:Frame}{ac:Act}{x:Value}{v:World}(hvw:Rel z v w) (hn:NoRow Ch v) (hf:P.funcs[f]? = some fn) (ha:a.defers=[]) (ho:ops[i]? = some o)
 (hx:(results fn a.tmps).run P v=.ok x v)
 (h:∀ w',Rel z v w'->GoesI P main (DT (ScZ z) Ch) Stop (G (bc.at (ac.put o.dst x) (.inRegion ops rest :: k)) cs) w'):
 GoesI P main (DT (ScZ z) Ch) Stop (G { (base f).at a todo with mode:=.returning } (bc.at ac (.inRegion ops (i :: rest) :: k) :: cs)) w:=by
 have hT:(results fn a.tmps).runT P v #[]=(.ok x v,(results fn a.tmps).events P v #[]):=by have:=runT_fst (P:=P) (results fn a.tmps) v #[];rw[hx] at this;exact Prod.ext this rfl
 have hfin:(bc.at ac (.inRegion ops (i :: rest) :: k)).finish x=bc.at (ac.put o.dst x) (.inRegion ops rest :: k):=by rw[Frame.finish_at,ho];rfl
 have one:∀ d,∃ w',Out z true v v (w.at d) w'∧(∀ e∈seen P f ((results fn a.tmps).events P (w.at d) #[]),Okay true e∧Spares z w' e) ∧
  stepG P main (G { (base f).at a todo with mode:=.returning } (bc.at ac (.inRegion ops (i :: rest) :: k) :: cs)) (w.at d)=.go (G (bc.at (ac.put o.dst x) (.inRegion ops rest :: k)) cs) w' (seen P f ((results fn a.tmps).events P (w.at d) #[])):=λd=>by
  obtain ⟨w',h1,h2,h3⟩:=sim z _ (calm_results (P:=P) (wr:=true) fn a.tmps) v (w.at d) #[] x v _ (hvw.re rfl rfl rfl rfl rfl rfl) hT (λi hi=>absurd hi (by omega));have e1:(results fn a.tmps).run P (w.at d)=.ok x w':=by rw[<-runT_fst (P:=P) _ (w.at d) #[],h1]
  have e2:(results fn a.tmps).events P (w.at d) #[]=(results fn a.tmps).events P v #[]:=by show ((results fn a.tmps).runT P (w.at d) #[]).2=_;rw[h1]
  refine ⟨w',h2,λe he=>?_,?_⟩
  .rw[e2] at he
   rcases h3 e (mem_seen he) with h|h;simp at h;exact h
  .have:=stepG_back (P:=P) (main:=main) (b:=base f) (cs:=cs) (todo:=todo) (c:=bc.at ac (.inRegion ops (i :: rest) :: k)) rfl ha hf e1
   rw[hfin] at this;exact this
 exact .step rfl _ (λd=>(one d).choose) _ (λd=>(one d).choose_spec.2.2) (λd=>dt_of_z v v (w.at d) _ _ hn (hvw.re rfl rfl rfl rfl rfl rfl) (one d).choose_spec.1 (one d).choose_spec.2.1) (λd=>h _ (one d).choose_spec.1.rel)
end
end Go.Lift
namespace Go.Proofs.YtfjjoohflcchnaaDoor
open Go Go.Lift Go.Conc Go.RowKit
variable {z:Nat->Option Nat}
theorem body43 {S:TS}{v:World}(h:Rep z S v) {i:Nat}{t:Thr}(ht:S.thr[i]? = some t) (op a b:Int) (hn:(S.n+1)*40<=140737488355328):
 Body Tryd.f118 #[Pt t.tb 0,I op,I a,I b] v (λr v'=>r=.tuple #[]∧∃ tv,Ev z S v (noted S tv i op (-1) a b) v'):=by
 intro code hb;obtain rfl:=Qd hb;clear hb;simp only[Tryd.ntmps118,Sz,Nat.reduceAdd,Nat.reduceSub,Sy];obtain ⟨c0,_,_,_,_,_,_⟩:=h.cell ht;have HR:Hid (Rep z S v):=⟨h⟩
 clear h
 go_wp2_with (go_at_call 128;refine ((note_rep HR.out ht op (-1) a b hn).calls Tryd.func128 rfl).mono ?_;rintro e w1 ⟨_,rfl,rfl,tv,hev⟩)
 exact ⟨rfl,_,results_none rfl _ _ _,_,rfl,rfl,tv,hev⟩
section
variable {z:Nat->Option Nat}{S:TS}{K:List (Nat×Int)}{v v':World}
structure Grows (v v':World):Prop where
 size:v.heap.size<=v'.heap.size
 old:∀ b,b<v.heap.size->v'.heap[b]? = v.heap[b]?
 os:v'.os=v.os
 output:v'.output=v.output
theorem Grows.cell {a:Addr}{x:Value}(h:Grows v v') (hc:v.cell? a=some x):v'.cell? a=some x:=by rw[World.cell?_of_block (h.old a.block (World.block_lt_of_cell? _ _ hc))];exact hc
theorem Mem.grows (h:Mem z S K v) (g:Grows v v'):Evo z S K v S K v':=by
 have hst:∀ b,Own S K b->v'.heap[b]? = v.heap[b]?:=λb hb=>g.old b (h.lt hb);have hits:∀ k b,blk S k=some b->v'.heap[b]? = v.heap[b]?:=λk b hk=>hst b (.inl ⟨k,hk⟩);refine ⟨⟨⟨by rw[hits 0 S.wb rfl];exact h.rep.wor,λi t ht=>by rw[hits (i+5) t.tb (by simp[blk,ht])];exact h.rep.thr i t ht,own_stay (λb hb=>hits 3 b hb) h.rep.own,own_stay (λb hb=>hits 1 b hb) h.rep.chg,own_stay (λb hb=>hits 2 b hb) h.rep.ths,own_stay (λb hb=>hits 4 b hb) h.rep.sch,
  Qk h.rep.bs g.size,h.rep.apart,h.rep.kept⟩,λj c hc=>by rw[hst c.1 (.inr ⟨j,c,hc,rfl⟩)];exact h.cel j c hc,h.far,h.inj,h.len⟩,rfl,⟨g.os,g.output,g.size,λb hb _=>g.old b hb⟩,λb hb=>.inl hb⟩
end
structure EvoP (Pr:Nat->Prop) (z:Nat->Option Nat) (S:TS) (K:List (Nat×Int)) (v:World) (S':TS) (K':List (Nat×Int)) (v':World):Prop where
 mem:Mem z S' K' v'
 blks:K'.map (·.1)=K.map (·.1)
 fr:Fr (λb=>Own S K b∨Pr b) v v'
 new:∀ b,Own S' K' b->Own S K b∨v.heap.size<=b
section
variable {Pr:Nat->Prop}{z:Nat->Option Nat}{S S' S'':TS}{K K' K'':List (Nat×Int)}{v v' v'':World}
theorem Evo.toP (h:Evo z S K v S' K' v'):EvoP Pr z S K v S' K' v':=⟨h.mem,h.blks,h.fr.mono (λ_ _ hx=>.inl hx),h.new⟩
theorem EvoP.trans (h:EvoP Pr z S K v S' K' v') (k:EvoP Pr z S' K' v' S'' K'' v''):EvoP Pr z S K v S'' K'' v'':=by
 refine ⟨k.mem,k.blks.trans h.blks,⟨k.fr.os.trans h.fr.os,k.fr.output.trans h.fr.output,Qk h.fr.size k.fr.size,λx hx hs=>?_⟩,λb hb=>?_⟩;rw[k.fr.block x (Qp hx h.fr.size) (λhi=>hi.elim (λhi=>(h.new x hi).elim (λh=>hs (.inl h)) (λhle=>by omega)) (λhp=>hs (.inr hp))),h.fr.block x hx hs]
 .rcases k.new b hb with h1|h1
  exact h.new b h1;exact .inr (Qk h.fr.size h1)
theorem EvoP.base {u:World}(h:EvoP Pr z S K u S' K' v') (e1:u.heap=v.heap) (e2:u.os=v.os) (e3:u.output=v.output):EvoP Pr z S K v S' K' v' :=
 ⟨h.mem,h.blks,⟨h.fr.os.trans e2,h.fr.output.trans e3,by rw[<-e1];exact h.fr.size,λb hb hs=>by rw[<-e1];exact h.fr.block b (by rw[e1];exact hb) hs⟩,λb hb=>by rw[<-e1];exact h.new b hb⟩
theorem EvoP.wider {Pr':Nat->Prop}(hp:∀ b,b<v.heap.size->Pr b->Pr' b) (h:EvoP Pr z S K v S' K' v'):EvoP Pr' z S K v S' K' v' :=
 ⟨h.mem,h.blks,h.fr.mono (λb hb hx=>hx.imp id (hp b hb)),h.new⟩
theorem Mem.other (h:Mem z S K v) {B:Nat}(hB:¬ Own S K B) (hw:∀ b,b≠B->v'.heap[b]? = v.heap[b]?) (hs:v'.heap.size=v.heap.size) (ho:v'.os=v.os) (hu:v'.output=v.output):EvoP (· = B) z S K v S K v':=by
 have hst:∀ b,Own S K b->v'.heap[b]? = v.heap[b]?:=λb hb=>hw b (λe=>hB (e▸hb));have hits:∀ k b,blk S k=some b->v'.heap[b]? = v.heap[b]?:=λk b hk=>hst b (.inl ⟨k,hk⟩);refine ⟨⟨⟨by rw[hits 0 S.wb rfl];exact h.rep.wor,λi t ht=>by rw[hits (i+5) t.tb (by simp[blk,ht])];exact h.rep.thr i t ht,own_stay (λb hb=>hits 3 b hb) h.rep.own,own_stay (λb hb=>hits 1 b hb) h.rep.chg,own_stay (λb hb=>hits 2 b hb) h.rep.ths,own_stay (λb hb=>hits 4 b hb) h.rep.sch,
  by rw[hs];exact h.rep.bs,h.rep.apart,h.rep.kept⟩,λj c hc=>by rw[hst c.1 (.inr ⟨j,c,hc,rfl⟩)];exact h.cel j c hc,h.far,h.inj,h.len⟩,rfl,⟨ho,hu,by omega,λb _ hn=>hw b (λe=>hn (.inr e))⟩,λb hb=>.inl hb⟩
end
def chill:Option Nat->Obj->Obj
 |some n,.cells c e _=>.cells c e (n,n+1)
 |_,o=>o
theorem zap_chill (x:Option Nat) (o:Obj) (h:∀ c e f,o=.cells c e f->x.isSome=true->f=(0,0)):zap x (chill x o)=o:=by
 cases x with
 |none=>cases o<;>rfl
 |some n =>
  cases o with
  |cells c e f =>have:=h c e f rfl rfl;subst this;rfl
  |_=>rfl
theorem freeze_rel {w:World}(h:∀ r n,z r=some n->r<w.heap.size∧∀ c e f,w.heap[r]? = some (.cells c e f)->f=(0,0)):
 ∃ v,Rel z v w∧(∀ r,v.heap[r]? = (w.heap[r]?).map (chill (z r)))∧v.heap.size=w.heap.size∧v.os=w.os∧v.output=w.output:=by
 have hget:∀ r:Nat,(w.heap.mapIdx λr o=>chill (z r) o)[r]? = (w.heap[r]?).map (chill (z r)):=λr=>by rw[Array.getElem?_mapIdx]
 refine ⟨{ w with heap:=w.heap.mapIdx λr o=>chill (z r) o },⟨λr=>?_,λr n c e f hz hh=>?_,λr n hz=>?_,rfl,rfl⟩,hget,by simp,rfl,rfl⟩
 .show w.heap[r]? = ((w.heap.mapIdx λr o=>chill (z r) o)[r]?).map (zap (z r))
  rw[hget];cases ho:w.heap[r]? with
  |none=>rfl
  |some o =>
   simp only[Option.map_some,Option.some.injEq];exact (zap_chill _ _ λc e f he hs=>by
    cases hz:z r with
    |none=>rw[hz] at hs;cases hs
    |some n=>exact (h r n hz).2 c e f (by rw[ho,he])).symm
 .simp only at hh
  rw[hget,hz] at hh;cases ho:w.heap[r]? with
  |none=>rw[ho] at hh;cases hh
  |some o =>rw[ho] at hh;cases o<;>simp only[Option.map_some,chill,Option.some.injEq,Obj.cells.injEq,reduceCtorEq] at hh;exact hh.2.2.symm
 simpa using (h r n hz).1
section
variable {z:Nat->Option Nat}{S:TS}{K:List (Nat×Int)}{v w:World}
theorem Mem.thaw (h:Mem z S K v) (hr:Rel z v w):Mem zn S K w:=by
 have hno:∀ b:Nat,(∀ c e,v.heap[b]?≠some (Obj.cells c e (0,0)))∨w.heap[b]? = v.heap[b]?:=λb=>by
  cases hz:z b with
  |none=>right;rw[hr.heap,hz];cases v.heap[b]?<;>simp[zap_none]
  |some n =>left;intro c e hh;have:=hr.kept b n c e _ hz hh;simp at this
 have hrow:∀ (b:Nat) (c:Array Value) (e:TypeId),v.heap[b]? = some (.cells c e (fz z b))->w.heap[b]? = some (.cells c e (fz zn b)):=λb c e hh=>by rw[hr.heap,hh];unfold fz;cases hz:z b<;>rfl
 have hown:∀ {base:Nat} {e:TypeId} {size:Nat} {x:Value} {n:Nat} {xs:List Value},v.ownsRow base e size x n xs->w.ownsRow base e size x n xs:=λ{base e size x n xs} ho=>by
  refine ⟨ho.1,?_⟩;rcases ho.2 with h2|⟨g,cap,cur,h1,h2,h3,h4⟩
  exact .inl h2
  .refine .inr ⟨g,cap,cur,h1,h2,?_,h4⟩
   rcases hno g with hn|hn;exact absurd h3 (hn _ _);rw[hn];exact h3
 refine ⟨⟨hrow _ _ _ h.rep.wor,λi t ht=>hrow _ _ _ (h.rep.thr i t ht),hown h.rep.own,hown h.rep.chg,hown h.rep.ths,hown h.rep.sch,by rw[hr.size];exact h.rep.bs,h.rep.apart,λb n hz=>(nomatch hz)⟩,λj c hc=>?_,h.far,h.inj,h.len⟩;rcases hno c.1 with hn|hn;exact absurd (h.cel j c hc) (hn _ _);rw[hn];exact h.cel j c hc
theorem Mem.freeze (h:Mem zn S K w) (hz:∀ b n,z b=some n->(b=S.wb∧n=8)∨∃ (i:Nat) (t:Thr),S.thr[i]? = some t∧b=t.tb∧n=2):∃ v,Rel z v w∧Mem z S K v∧v.os=w.os∧v.output=w.output:=by
 have hits:∀ b n,z b=some n->Its S b:=λb n hb=>by
  rcases hz b n hb with ⟨rfl,_⟩|⟨i,t,ht,rfl,_⟩
  exact ⟨0,rfl⟩;exact ⟨i+5,by simp[blk,ht]⟩
 have hlo:∀ r n,z r=some n->r<w.heap.size∧∀ c e f,w.heap[r]? = some (.cells c e f)->f=(0,0):=λr n hb=>by
  refine ⟨h.lt (.inl (hits r n hb)),λc e f hh=>?_⟩;rcases hz r n hb with ⟨rfl,_⟩|⟨i,t,ht,rfl,_⟩
  rw[h.rep.wor] at hh;cases hh;rfl;rw[h.rep.thr i t ht] at hh;cases hh;rfl
 obtain ⟨v,hr,hget,hs,ho,hu⟩:=freeze_rel hlo;have hrow:∀ (b:Nat) (c:Array Value) (e:TypeId),w.heap[b]? = some (.cells c e (fz zn b))->v.heap[b]? = some (.cells c e (fz z b)):=λb c e hh=>by rw[hget,hh];unfold fz;cases hzb:z b<;>rfl
 have hoth:∀ b,z b=none->v.heap[b]? = w.heap[b]?:=λb hb=>by
  rw[hget,hb];cases w.heap[b]? with
  |none=>rfl
  |some o=>cases o<;>rfl
 have hzo:∀ k b,blk S k=some b->k≠0->k<5->z b=none:=λk b hk h0 h5=>by
  cases hb:z b with
  |none=>rfl
  |some n =>
   rcases hz b n hb with ⟨rfl,_⟩|⟨i,t,ht,rfl,_⟩
   exact absurd (h.rep.apart k 0 _ hk rfl) h0;have:=h.rep.apart k (i+5) _ hk (by simp[blk,ht]);omega
 refine ⟨v,hr,⟨⟨hrow _ _ _ h.rep.wor,λi t ht=>hrow _ _ _ (h.rep.thr i t ht),own_stay (λb hb=>hoth b (hzo 3 b hb (by omega) (by omega))) h.rep.own,own_stay (λb hb=>hoth b (hzo 1 b hb (by omega) (by omega))) h.rep.chg,own_stay (λb hb=>hoth b (hzo 2 b hb (by omega) (by omega))) h.rep.ths,own_stay (λb hb=>hoth b (hzo 4 b hb (by omega) (by omega))) h.rep.sch,by rw[hs];exact h.rep.bs,h.rep.apart,hz⟩,λj c hc=>?_,h.far,h.inj,h.len⟩,ho,hu⟩;rw[hoth c.1 (by
  cases hb:z c.1 with
  |none=>rfl
  |some n=>exact absurd (hits _ n hb) (h.far j c hc))]
 exact h.cel j c hc
end
theorem Mem.chan {S:TS}{K:List (Nat×Int)}{w:World}(h:Mem z S K w) {c:Nat}{o:Obj}(hc:w.heap[c]? = some o) (ho:∀ (x:Array Value) (e:TypeId) (f:Nat×Nat),o≠Obj.cells x e f) (cap:Nat) (buf:Array Value) (cl:Bool) (a b:Nat) (tm:Bool):Mem z S K (w.setChan c cap buf cl a b tm):=by
 have hne:∀ (r:Nat) (x:Array Value) (e:TypeId) (f:Nat×Nat),w.heap[r]? = some (Obj.cells x e f)->(w.setChan c cap buf cl a b tm).heap[r]? = some (Obj.cells x e f):=λr x e f hr=>by
  rw[heap_setChan_ne];exact hr
  .rintro rfl
   rw[hc] at hr;cases hr;exact ho _ _ _ rfl
 have hown:∀ {base:Nat} {e:TypeId} {size:Nat} {x:Value} {n:Nat} {xs:List Value},w.ownsRow base e size x n xs->(w.setChan c cap buf cl a b tm).ownsRow base e size x n xs:=λ{base e size x n xs} ho=>by
  refine ⟨ho.1,?_⟩;rcases ho.2 with h2|⟨g,cp,cur,h1,h2,h3,h4⟩
  exact .inl h2;exact .inr ⟨g,cp,cur,h1,h2,hne _ _ _ _ h3,h4⟩
 have hs:(w.setChan c cap buf cl a b tm).heap.size=w.heap.size:=by simp[World.setChan]
 exact ⟨⟨hne _ _ _ _ h.rep.wor,λi t ht=>hne _ _ _ _ (h.rep.thr i t ht),hown h.rep.own,hown h.rep.chg,hown h.rep.ths,hown h.rep.sch,by rw[hs];exact h.rep.bs,h.rep.apart,h.rep.kept⟩,λj d hd=>hne _ _ _ _ (h.cel j d hd),h.far,h.inj,h.len⟩
end Go.Proofs.YtfjjoohflcchnaaDoor
namespace Go.Lift
open Go.Conc
section
variable {P:Program}{main:Bool}{Stop:Goroutine->World->Prop}{k:List Item}{cs:List Frame}{w:World}{ops:Array Oper}{i:Nat}{rest:List Nat}{o:Oper}{L:FuncId->Prop}{b:Frame}{a:Act}{z:Nat->Option Nat}{Ch:Nat->Prop}{v v':World}
theorem op_like (hof:fineOp P true L o) (hvw:Rel z v w) {x:Next}(hr:(execOp a.eval o).run P v=.ok x v') (hd:v'.drawn=v.drawn) (d:Nat):
 ∃ w',Out z true v v' (w.at d) w'∧(∀ e∈listed P b.fn a o (w.at d),Okay true e∧Spares z w' e)∧(execOp a.eval o).run P (w.at d)=.ok x w':=by
 have hT:(execOp a.eval o).runT P v #[]=(.ok x v',(execOp a.eval o).events P v #[]):=by have:=runT_fst (P:=P) (execOp a.eval o) v #[];rw[hr] at this;exact Prod.ext this rfl
 obtain ⟨w',h1,h2,h3⟩:=sim z _ (hof a).1 v (w.at d) #[] x v' _ (hvw.re rfl rfl rfl rfl rfl rfl) hT (λi hi=>absurd hi (by omega));refine ⟨w',h2,λe he=>?_,by rw[<-runT_fst (P:=P) _ (w.at d) #[],h1]⟩;have e2:(execOp a.eval o).events P (w.at d) #[]=(execOp a.eval o).events P v #[]:=by show ((execOp a.eval o).runT P (w.at d) #[]).2=_;rw[h1]
 unfold listed at he;rw[e2] at he;rcases h3 e (mem_seen he) with h|h;simp at h;exact h
theorem goesI_opZ (ho:ops[i]? = some o) (hw:Region.wanted o (yielded ops a.tmps)=true) (hk:b.kind≠.early) (hof:fineOp P true L o) (hvw:Rel z v w) (hn:NoRow Ch v) {x:Value}(hr:(execOp a.eval o).run P v=.ok (.value x) v') (hd:v'.drawn=v.drawn)
 (h:∀ w',Rel z v' w'->NoRow Ch v'->GoesI P main (DT (ScZ z) Ch) Stop (G (b.at (a.put o.dst x) (.inRegion ops rest :: k)) cs) w'):GoesI P main (DT (ScZ z) Ch) Stop (G (b.at a (.inRegion ops (i :: rest) :: k)) cs) w:=by
 have one:=op_like (b:=b) hof hvw hr hd;exact .step rfl _ (λd=>(one d).choose) _ (λd=>stepG_value ho hw hk (one d).choose_spec.2.2) (λd=>dt_of_z v v' (w.at d) _ _ hn (hvw.re rfl rfl rfl rfl rfl rfl) (one d).choose_spec.1 (one d).choose_spec.2.1) (λd=>h _ (one d).choose_spec.1.rel (noRow_keeps _ _ (one d).choose_spec.1.keeps hn))
theorem goesI_doZ (ho:ops[i]? = some o) (hw:Region.wanted o (yielded ops a.tmps)=true) (hk:b.kind≠.early) (hof:fineOp P true L o) (hvw:Rel z v w) (hn:NoRow Ch v) (hr:(execOp a.eval o).run P v=.ok .skip v') (hd:v'.drawn=v.drawn)
 (h:∀ w',Rel z v' w'->NoRow Ch v'->GoesI P main (DT (ScZ z) Ch) Stop (G (b.at (a.put o.dst undef) (.inRegion ops rest :: k)) cs) w'):GoesI P main (DT (ScZ z) Ch) Stop (G (b.at a (.inRegion ops (i :: rest) :: k)) cs) w:=by
 have one:=op_like (b:=b) hof hvw hr hd;exact .step rfl _ (λd=>(one d).choose) _ (λd=>stepG_none ho hw hk (one d).choose_spec.2.2) (λd=>dt_of_z v v' (w.at d) _ _ hn (hvw.re rfl rfl rfl rfl rfl rfl) (one d).choose_spec.1 (one d).choose_spec.2.1) (λd=>h _ (one d).choose_spec.1.rel (noRow_keeps _ _ (one d).choose_spec.1.keeps hn))
theorem Agr.eval {n:Nat}{val:Nat->Value}{a0:Act}{l:Array Bool}(h:Agr ops n val a0 l a) {j:Nat}{t:Tmp}(hj:j<n) (ho:ops[j]? = some o) (hl:l.getD j false=true) (hd:o.dst=some t):a.eval (.tmp t)=val j:=by simp[Act.eval,h.done j o t hj ho hl hd]
theorem Agr.eval0 {n:Nat}{val:Nat->Value}{a0:Act}{l:Array Bool}(h:Agr ops n val a0 l a) {t:Tmp}(hd:∀ (j:Nat) (o:Oper),j<n->ops[j]? = some o->o.dst≠some t):a.eval (.tmp t)=a0.eval (.tmp t):=by simp[Act.eval,h.else_ t (λj o hj ho _=>hd j o hj ho)]
end
end Go.Lift
namespace Go.Lift
open Go.Conc
section
variable {P:Program}{main:Bool}{Stop:Goroutine->World->Prop}{k:List Item}{cs:List Frame}{w:World}{ops:Array Oper}{i:Nat}{rest:List Nat}{o:Oper}
theorem goesI_outZ {z:Nat->Option Nat}{Ch:Nat->Prop}{L:FuncId->Prop}(hE:∀ fr cs dy g w,∃ o w',early P fr cs dy g w=.ended o w') (hL:∀ g,L g->fineFn P true L g)
 {f:FuncId} {fn:Func} {c:Code} {act:Act} {more:List Item} {bc:Frame} {ac:Act} {R:Value->World->Prop} {v0:World} (hvw:Rel z v0 w) (hn:NoRow Ch v0) (hf:P.funcs[f]? = some fn) (hc:fineCode P true L c) (ha:act.defers=[]) (ho:ops[i]? = some o)
 (hwp:∀ τ,c.wp P (λe a w'=>e=.ret∧∃ x,(results fn a.tmps).run P w'=.ok x w'∧R x w') act (onTape v0 τ 0))
 (h:∀ v v' w',R v v'->Rel z v' w'->NoRow Ch v'->GoesI P main (DT (ScZ z) Ch) Stop (G (bc.at (ac.put o.dst v) (.inRegion ops rest :: k)) cs) w'):
 GoesI P main (DT (ScZ z) Ch) Stop (G ((base f).at act (.code c :: more)) (bc.at ac (.inRegion ops (i :: rest) :: k) :: cs)) w:=by
 refine (lift_code (P:=P) (z:=z) (wr:=true) (L:=L) (D:=DT (ScZ z) Ch) (I:=NoRow Ch) (main:=main) (b:=base f) (k:=more) (cs:=bc.at ac (.inRegion ops (i :: rest) :: k) :: cs) hE hL noRow_keeps
  (λv v' w w' es hi hr ho he=>dt_of_z v v' w w' es hi hr ho he) hvw hc ha (by simp[base]) hn hwp (λe a w hq=>.inr hq.1)).then ?_
 rintro g w' ⟨a',v',hr,hiv,hd,⟨⟨hq,_⟩,_⟩|⟨⟨_,x,hx,hR⟩,todo,rfl⟩⟩;cases hq;exact goesI_leaveZ hr hiv hf hd ho hx (λw'' hr''=>h x v' w'' hR hr'' hiv)
end
end Go.Lift
namespace Go.Proofs.YtfjjoohflcchnaaDoor
open Go Go.Lift Go.Conc Go.RowKit
def condA:Code->Code
 |.cond _ a _=>a
 |c=>c
end Go.Proofs.YtfjjoohflcchnaaDoor
namespace Go.Lift
open Go.Conc
section
variable {P:Program}{main:Bool}{b:Frame}{a:Act}{k:List Item}{cs:List Frame}{w:World}{D:World->World->Array Event->Prop}{Stop:Goroutine->World->Prop}{ops:Array Oper}{i:Nat}{rest:List Nat}{o:Oper}{todo:List Item}{ds:List Deferred}{f:FuncId}{fn:Func}
def dclo (f:FuncId) (cap:Array Value):Deferred:={ target:=.fn (.func f) cap,args:=#[] }
def botP (P:Program):Frame:={ (default:Frame) with fn:=P.funcs.size,defers:=[],mode:=.panicking [goexitEntry] }
theorem stepG_deferV {d:Deferred}(ho:ops[i]? = some o) (hw:Region.wanted o (yielded ops a.tmps)=true) (hk:b.kind≠.early) (hr:(execOp a.eval o).run P w=.ok (.defer d) w) (he:(execOp a.eval o).events P w #[]=#[]):
 stepG P main (G (b.at a (.inRegion ops (i :: rest) :: k)) cs) w=.go (G (b.at (Act.put ⟨a.tmps,d :: a.defers⟩ o.dst undef) (.inRegion ops rest :: k)) cs) w #[]:=by
 have hfin:(b.at ⟨a.tmps,d :: a.defers⟩ (.inRegion ops (i :: rest) :: k)).finish undef=b.at (Act.put ⟨a.tmps,d :: a.defers⟩ o.dst undef) (.inRegion ops rest :: k):=by rw[Frame.finish_at,ho];rfl
 have hk':(b.kind==CallKind.early)=false:=by simpa using hk
 rw[stepG_oper ho hw,<-hfin];simp[stepG.apply,hr,he,G,Frame.at,hk',GStep.after,seen_none]
theorem stepG_unwind_clo {c : Code} {cap : Array Value} (hd : a.defers = dclo f cap :: ds) (hf : P.funcs[f]? = some fn) (hname : (fn.name == "runtime.NumGoroutine") = false) (hb : fn.body = some c) :
 stepG P main (G { b.at a todo with mode:=.returning } cs) w =
  .go (G ((baseD f).at { tmps:=cap++Array.replicate (fn.ntmps - cap.size) undef,defers:=[] } [.code c]) ({ b.at ⟨a.tmps,ds⟩ todo with mode:=.returning } :: cs)) w #[]:=by
 have h1 : ¬ fn.name = "runtime.NumGoroutine" := by simpa using hname
 rw[<-enter_atD cap hf hb];simp[G,stepG,unwind,callDeferred,Frame.at,hd,dclo,invoke,callFunc,hf,h1,hb,GStep.after,seen_none]
theorem stepG_recover_none {c:Frame}(ho:ops[i]? = some o) (hw:Region.wanted o (yielded ops a.tmps)=true) (hk:b.kind=.deferred) (hc:c.mode=.returning) (hr:(execOp a.eval o).run P w=.ok .recover w) (he:(execOp a.eval o).events P w #[]=#[]):
 stepG P main (G (b.at a (.inRegion ops (i :: rest) :: k)) (c :: cs)) w=.go (G (b.at (a.put o.dst .nilIface) (.inRegion ops rest :: k)) (c :: cs)) w #[]:=by
 have hfin:(b.at a (.inRegion ops (i :: rest) :: k)).finish .nilIface=b.at (a.put o.dst .nilIface) (.inRegion ops rest :: k):=by rw[Frame.finish_at,ho];rfl
 rw[stepG_oper ho hw,<-hfin];simp[stepG.apply,hr,he,G,Frame.at,hk,hc,tryRecover,GStep.after,seen_none]
theorem goesI_deferV {d:Deferred}(hD:∀ w,D w w #[]) (ho:ops[i]? = some o) (hw:Region.wanted o (yielded ops a.tmps)=true) (hk:b.kind≠.early) (hr:∀ w,(execOp a.eval o).run P w=.ok (.defer d) w) (he:∀ w,(execOp a.eval o).events P w #[]=#[])
 (h:GoesI P main D Stop (G (b.at (Act.put ⟨a.tmps,d :: a.defers⟩ o.dst undef) (.inRegion ops rest :: k)) cs) w):GoesI P main D Stop (G (b.at a (.inRegion ops (i :: rest) :: k)) cs) w :=
 .ctl rfl (λw=>stepG_deferV ho hw hk (hr w) (he w)) hD h
theorem goesI_unwind_clo {c : Code} {cap : Array Value} (hD : ∀ w, D w w #[]) (hd : a.defers = dclo f cap :: ds) (hf : P.funcs[f]? = some fn) (hname : (fn.name == "runtime.NumGoroutine") = false) (hb : fn.body = some c)
 (h:GoesI P main D Stop (G ((baseD f).at { tmps:=cap++Array.replicate (fn.ntmps - cap.size) undef,defers:=[] } [.code c]) ({ b.at ⟨a.tmps,ds⟩ todo with mode:=.returning } :: cs)) w):GoesI P main D Stop (G { b.at a todo with mode:=.returning } cs) w :=
 .ctl rfl (λ_=>stepG_unwind_clo hd hf hname hb) hD h
theorem goesI_recover_none {c:Frame}(hD:∀ w,D w w #[]) (ho:ops[i]? = some o) (hw:Region.wanted o (yielded ops a.tmps)=true) (hk:b.kind=.deferred) (hc:c.mode=.returning) (hr:∀ w,(execOp a.eval o).run P w=.ok .recover w) (he:∀ w,(execOp a.eval o).events P w #[]=#[])
 (h:GoesI P main D Stop (G (b.at (a.put o.dst .nilIface) (.inRegion ops rest :: k)) (c :: cs)) w):GoesI P main D Stop (G (b.at a (.inRegion ops (i :: rest) :: k)) (c :: cs)) w :=
 .ctl rfl (λw=>stepG_recover_none ho hw hk hc (hr w) (he w)) hD h
theorem quits_last (T:Array Value) (todo:List Item) (hf:P.funcs[f]? = some fn) (hr:fn.results=#[]):QuitsD P 2 0 (G { (baseD f).at ⟨T,[]⟩ todo with mode:=.returning } [botP P]):=by refine QuitsD.ctl (g':=G (botP P) []) rfl (λw=>?_) ?_;simp[G,stepG,unwind,doReturn,results,Frame.at,baseD,botP,hf,hr,seen,GStep.after,goexitEntry];refine QuitsD.ctl (g':={ G (botP P) [] with status:=.finished }) rfl (λw=>?_) ⟨rfl,rfl⟩;simp[G,stepG,unwind,botP,goexitEntry,Frame.catches];rfl
end
end Go.Lift
namespace Go.Proofs.YtfjjoohflcchnaaDoor
open Go Go.Lift Go.Conc Go.RowKit
variable {v w:World} {l:List Nat} {z:Nat->Option Nat} {S:TS} {i n:Nat} {t:Thr} {a:Int} {Ch:Nat->Prop} {cont:Addr->Value} {K:List (Nat×Int)}
def rdy (S:TS) (t:Thr):Bool:=decide (t.st=1)||(decide (t.st=2)&&(S.stk||decide (chgOf S.chg t.ce≠t.se)))
theorem ints_row {base:Nat}{v:Value}{l:List Int}(h:w.ownsRow base 3 1 v l.length (l.map I)):IntRow w v l:=by
 rcases h.2 with ⟨rfl,h0⟩|⟨g,cap,cur,rfl,hb,hh,hle,_,hsz,htake⟩
 exact .inl ⟨List.length_eq_zero_iff.1 h0,rfl⟩
 .refine .inr ⟨g,cap,rfl,λi x hx=>?_⟩
  have hc:i<l.length:=(Qc hx).1;have e:(l.map I)[i]? = some (I x):=by simp[hx]
  rw[<-htake,Nat.mul_one,List.getElem?_take_of_lt hc] at e;simp only[World.cell?,hh,Option.isSome_none,Qh,if_false];simpa using e
theorem call51 (h:Rep z S v) (c:Int):Calls Tryd.prog 157 #[Pt S.wb 0,I c] v (λe w'=>e=.returned (I (chgOf S.chg c))∧w'=v) :=
 ((body51 S.wb c S.cv S.chg v h.wcell.2.2.2.1 (ints_row h.chg)).calls Tryd.func157 rfl).mono λe w' ⟨r,h1,h2,h3⟩=>⟨by rw[h1,h2],h3⟩
theorem call51q (h:Rep z S v) (c:Int) (n:Nat):Calls Tryd.prog 157 #[Pt S.wb 0,I c] (v.drewN n) (λe w'=>e=.returned (I (chgOf S.chg c))∧∃ m,w'=v.drewN m) :=
 Calls.quiet_of_same (call51 (h.same (v':=v.drewN n) rfl) c)
theorem body71 (h:Rep z S v) (ht:S.thr[i]? = some t):Body Tryd.f155 #[Pt t.tb 0] v (λr v'=>r=.bool (rdy S t)∧∃ n,v'=v.drewN n):=by
 intro code hb;obtain rfl:=Qd hb;clear hb;simp only[Tryd.ntmps155,Sz,Nat.reduceAdd,Nat.reduceSub,Sy];obtain ⟨c0,_,_,c3,c4,_,c6⟩:=h.cell ht;have w6:=h.wcell.2.2.2.2.2.2.1;have HR:Hid (Rep z S v):=⟨h⟩
 clear h;by_cases h1:t.st=1
 .have g1:(t.st==1)=true:=by simpa using h1
  have HE:Hid (rdy S t=true):=⟨by simp[rdy,h1]⟩
  clear h1;go_wp2_with fail
  go_quiet (fail)
  go_wp2
  go_ret;exact ⟨_,rfl,by rw[HE.out];rfl,_,rfl⟩
 .have g1:(t.st==1)=false:=by simpa using h1
  by_cases h2:t.st=2
  .have g2:(t.st==2)=true:=by simpa using h2
   cases hs:S.stk with
   |true =>
    have HE:Hid (rdy S t=true):=⟨by simp[rdy,h2,hs]⟩
    rw[hs] at w6;clear h1 h2 hs;go_wp2_with fail
    go_quiet (fail)
    go_wp2
    go_ret;exact ⟨_,rfl,by rw[HE.out];rfl,_,rfl⟩
   |false =>
    have HE:Hid (rdy S t=(chgOf S.chg t.ce != t.se)):=⟨by simp[rdy,h2,hs,bne];rfl⟩
    rw[hs] at w6;clear h1 h2 hs;go_wp2_with fail
    go_quiet (first|(go_at_call 157;exact call51q HR.out t.ce _))
    go_wp2
    go_ret;exact ⟨_,rfl,by rw[HE.out];rfl,_,rfl⟩
  .have g2:(t.st==2)=false:=by simpa using h2
   have HE:Hid (rdy S t=false):=⟨by simp[rdy,h1,h2]⟩
   clear h1 h2;go_wp2_with fail
   go_quiet (fail)
   go_wp2
   go_ret;exact ⟨_,rfl,by rw[HE.out];rfl,_,rfl⟩
def which (a:Int) (n:Nat):Nat:=(if a.tmod n<0 then a.tmod n+n else a.tmod n).toNat
theorem which_lt (a:Int) (h:0<n):which a n<n:=by unfold which;have h1:=Int.tmod_lt_of_pos a (show (0:Int)<n by omega);have h2:-(n:Int)<a.tmod n:=Int.lt_tmod_of_pos a (by omega);split<;>omega
theorem which_pos (h:0<=a.tmod n):a.tmod n=(which a n:Int):=by unfold which;rw[if_neg (by omega),Int.toNat_of_nonneg h]
theorem which_neg (h:a.tmod n<0) (h0:0<n) (hb:(n:Int)<9223372036854775808):wrap64 (a.tmod n+n)=(which a n:Int):=by have h2:-(n:Int)<a.tmod n:=Int.lt_tmod_of_pos a (by omega);unfold which;rw[if_pos h,Int.toNat_of_nonneg (by omega)];unfold wrap64;omega
theorem mix21:Tryd.prog.follows .mixedOrders=true:=by kernel_rfl
theorem fineFn_body {P:Program}{L:FuncId->Prop}{f:FuncId}{fn:Func}{c:Code}(hL:∀ g,L g->fineFn P true L g) (hf:L f) (h1:P.funcs[f]? = some fn) (h2:fn.body=some c):fineCode P true L c:=by obtain ⟨fn',c',h3,h4,h5,_⟩:=hL f hf;rw[h1] at h3;cases h3;rw[h2] at h4;cases h4;exact h5
theorem world_set (h:Rep z S v) (u:Nat) (l:Int) (b:Bool) (o:Nat) (x:Value) (hw:(wrow S).setIfInBounds o x=wrow { S with us:=u,la:=l,stk:=b }):Ev z S v { S with us:=u,la:=l,stk:=b } (v.setCell ⟨S.wb,o,none⟩ x):=by
 have hst:∀ k b,blk S k=some b->k≠0->(v.setCell ⟨S.wb,o,none⟩ x).heap[b]? = v.heap[b]?:=λk b hk h0=>Below.heap_setCell _ _ _ _ (λe=>h0 (h.apart k 0 b hk (by rw[e];rfl)));refine ⟨⟨?_,λi t ht=>?_,own_stay (λb hb=>hst 3 b hb (by omega)) h.own,own_stay (λb hb=>hst 1 b hb (by omega)) h.chg,own_stay (λb hb=>hst 2 b hb (by omega)) h.ths,own_stay (λb hb=>hst 4 b hb (by omega)) h.sch,?_,λj k b hj hk=>?_,h.kept⟩,⟨rfl,rfl,by simp[World.setCell],λb _ hs=>Below.heap_setCell _ _ _ _ (λe=>hs ⟨0,by rw[e];rfl⟩)⟩,λb ⟨k,hk⟩=>.inl ⟨k,?_⟩⟩
 .have:=heap_setCell_same (o:=o) h.wor x
  rw[hw] at this;exact this
 .rw[hst (i+5) t.tb (by simp only[blk];rw[show S.thr[i]? = some t from ht];rfl) (by omega)]
  exact h.thr i t ht
 .show S.base<=_
  simpa [World.setCell] using h.bs
 .refine h.apart j k b ?_ ?_
  .rw[<-hj];match j with|0=>rfl|1=>rfl|2=>rfl|3=>rfl|4=>rfl|j+5=>rfl
  .rw[<-hk];match k with|0=>rfl|1=>rfl|2=>rfl|3=>rfl|4=>rfl|k+5=>rfl
 .rw[<-hk];match k with|0=>rfl|1=>rfl|2=>rfl|3=>rfl|4=>rfl|k+5=>rfl
def PtrRow (w:World) (v:Value) (bs:List Nat):Prop:=∃ g cap,v=.slice (some ⟨g,0,none⟩) bs.length cap∧∀ (k b:Nat),bs[k]? = some b->w.cell? ⟨g,k,none⟩=some (Pt b 0)
def pickAt (S:TS) (ids:List Nat):Nat:=if S.us<S.sched.length then which (S.sched.getD S.us 0) ids.length else (ids.findIdx? (λ(i:Nat)=>decide (S.la<(i:Int)))).getD 0
def picked (S:TS):TS:=if S.us<S.sched.length then { S with us:=S.us+1 } else S
theorem find_at {k:Nat}(h1:l[k]? = some i) (h2:a<(i:Int)) (h3:∀ (j i:Nat),j<k->l[j]? = some i->(i:Int)<=a):l.findIdx? (λ(i:Nat)=>decide (a<(i:Int)))=some k:=by
 have hk:=(Qc h1).1;rw[List.findIdx?_eq_some_iff_getElem];refine ⟨hk,?_,λj hj=>?_⟩
 .have:l[k]=i:=by rw[Qf hk] at h1;exact Qd h1
  simp[this,h2]
 .have:=h3 j _ hj (Qf (by omega))
  simpa using this
theorem find_none (h3:∀ (j i:Nat),j<l.length->l[j]? = some i->(i:Int)<=a):l.findIdx? (λ(i:Nat)=>decide (a<(i:Int)))=none:=by rw[List.findIdx?_eq_none_iff];intro x hx;obtain ⟨j,hj,rfl⟩:=List.mem_iff_getElem.1 hx;have:=h3 j _ hj (Qf hj);simpa using this
theorem body72 (h:Rep z S v) (lv:Value) (ids bs:List Nat) (hl:PtrRow v lv bs) (hlw:∀ g,lv.ownBlock=some g->¬ Its S g) (hlen:bs.length=ids.length) (hids:∀ (k i b:Nat),ids[k]? = some i->bs[k]? = some b->∃ t,S.thr[i]? = some t∧t.tb=b) (h0:0<ids.length) (hm:ids.length<=8) (hus:S.sched.length<=4611686018427387904) (hsc:∀ x∈S.sched,-9223372036854775808<=x∧x<9223372036854775808):
 Body Tryd.f156 #[Pt S.wb 0,lv] v (λr v'=>(∃ b,bs[pickAt S ids]? = some b∧r=Pt b 0)∧Ev z S v (picked S) v'):=by
 obtain ⟨g,cap,rfl,hrow⟩:=hl;intro code hb;obtain rfl:=Qd hb;clear hb;simp only[Tryd.ntmps156,Sz,Nat.reduceAdd,Nat.reduceSub,Sy];obtain ⟨w0,w1,w2,_⟩:=h.wcell;obtain ⟨p,pc,hp⟩:=own_form h.sch;rw[hp] at w0;have f1:=fz_off h 1 (by omega);by_cases hu:S.us<S.sched.length
 .obtain ⟨sg,scap,e1,e2,e3⟩:=ints_cell h.sch (Qf hu)
  rw[hp] at e1;cases e1;have hx:=hsc _ (List.getElem_mem hu);have HX:Hid (S.sched.getD S.us 0=S.sched[S.us]):=⟨by simp[Ql,Qf hu]⟩
  generalize hxs:S.sched[S.us]=x at e2 hx HX;have HW:Hid (∀ V:World,V.heap=v.heap->V.os=v.os->V.output=v.output->Ev z S v (picked S) (V.setCell ⟨S.wb,1,none⟩ (I (wrap64 ((S.us:Int)+1))))):=⟨λV q1 q2 q3=>by have ew:wrap64 ((S.us:Int)+1)=(S.us:Int)+1:=IntWalk.wrap64_in _ (by omega);rw[ew];have:=((Ev.refl h).same q1 q2 q3).trans (world_set (h.same q1) (S.us+1) S.la S.stk 1 (I ((S.us:Int)+1)) (by simp));unfold picked;rw[if_pos hu];exact this⟩
  have HU:Hid (S.us<S.sched.length):=⟨hu⟩
  have HR:Hid (∀ (k b:Nat),bs[k]? = some b->v.cell? ⟨g,k,none⟩=some (Pt b 0)):=⟨hrow⟩
  have hu':(S.us:Int)<(S.sched.length:Int):=by omega
  have hn0:¬ ((bs.length:Int)=0):=by omega
  have HH:Hid (-9223372036854775808<=x∧x<9223372036854775808):=⟨hx⟩
  clear hrow hids hsc hxs hx h hus;have hgw:g≠S.wb:=λe=>hlw g rfl ⟨0,by rw[e];rfl⟩;have hgw':S.wb≠g:=λe=>hgw e.symm;obtain ⟨k,hk⟩:∃ k,which x bs.length=k:=⟨_,rfl⟩
  have hkl:k<bs.length:=by rw[<-hk];exact which_lt x (by omega)
  have hcell:=HR.out k _ (Qf hkl);have HK:Hid (pickAt S ids=k∧bs[k]? = some bs[k]):=⟨⟨by unfold pickAt;rw[if_pos hu,HX.out,<-hlen];exact hk,Qf hkl⟩⟩
  generalize bs[k]=b at hcell HK;have hkz:(0:Int)<=(k:Int):=by omega
  have hkl':(k:Int)<(bs.length:Int):=by omega
  by_cases hneg:x.tmod (bs.length:Int)<0
  .have hwr:wrap64 (x.tmod (bs.length:Int)+(bs.length:Int))=(k:Int):=by rw[<-hk];exact which_neg hneg (by omega) (by omega)
   clear hlen h0 hm hlw hk hu hkl;generalize bs.length=nn at *;go_wp2_with fail
   go_quiet (fail)
   go_wp2_with fail
   go_quiet (fail)
   go_wp2_with fail;go_ret;exact ⟨_,rfl,⟨b,by rw[HK.out.1];exact HK.out.2,rfl⟩,HW.out _ rfl rfl rfl⟩
  .have hpos:x.tmod (bs.length:Int)=(k:Int):=by rw[<-hk];exact which_pos (by omega)
   clear hlen h0 hm hlw hk hu hkl hneg;generalize bs.length=nn at *;go_wp2_with fail
   go_quiet (fail)
   go_wp2_with fail
   go_quiet (fail)
   go_wp2_with fail;go_ret;exact ⟨_,rfl,⟨b,by rw[HK.out.1];exact HK.out.2,rfl⟩,HW.out _ rfl rfl rfl⟩
 .have hu':(decide (S.us<S.sched.length))=false:=by simpa using (by omega:S.sched.length<=S.us)
  have HE:Hid (∀ n,Ev z S v (picked S) (v.drewN n)):=⟨λn=>by unfold picked;rw[if_neg hu];exact (Ev.refl h).same rfl rfl rfl⟩
  have HP:Hid (pickAt S ids=(ids.findIdx? (λ(i:Nat)=>decide (S.la<(i:Int)))).getD 0):=⟨by unfold pickAt;rw[if_neg hu]⟩
  have HC:Hid (∀ k,k<bs.length->∃ (i b:Nat),ids[k]? = some i∧bs[k]? = some b∧v.cell? ⟨g,k,none⟩=some (Pt b 0)∧v.cell? ⟨b,1,none⟩=some (I i)):=⟨λk hk=>by have h1:ids[k]? = some ids[k]:=Qf (by omega);have h2:bs[k]? = some bs[k]:=Qf hk;obtain ⟨t,ht,htb⟩:=hids k _ _ h1 h2;exact ⟨_,_,h1,h2,hrow k _ h2,by rw[<-htb];exact (h.cell ht).2.1⟩⟩
  have HL:Hid (bs.length=ids.length∧0<ids.length):=⟨⟨hlen,h0⟩⟩
  have hnb:bs.length<=8:=by omega
  clear hrow hids hsc hlen h0 hm hlw h hus f1;go_wp2_with fail
  go_quiet (fail)
  go_wp2_with fail
  go_loopw [50] (λi u=>∃ k:Nat,k<=bs.length∧i=.int .i64 k∧(∀ (j i:Nat),j<k->ids[j]? = some i->(i:Int)<=S.la)∧∃ q,u=v.drewN q) (λi _=>bs.length - (intOf i).toNat)
  case atStart=>exact ⟨0,Nat.zero_le _,rfl,λj _ hj=>absurd hj (Nat.not_lt_zero _),_,rfl⟩
  case round =>
   obtain ⟨k,hk,rfl,hso,qn,rfl⟩:=hrel;have HSO:Hid (∀ (j i:Nat),j<k->ids[j]? = some i->(i:Int)<=S.la):=⟨hso⟩
   clear hso;by_cases hlt:k<bs.length
   .obtain ⟨i1,b1,h1,h2,h3,h4⟩:=HC.out k hlt
    have H12:Hid (ids[k]? = some i1∧bs[k]? = some b1):=⟨⟨h1,h2⟩⟩
    clear h1 h2;have hlt':(k:Int)<(bs.length:Int):=by omega
    by_cases hla:S.la<(i1:Int)
    .have HLA:Hid (S.la<(i1:Int)):=⟨hla⟩
     go_wp2_with fail
     go_quiet (fail)
     go_wp2_with fail;go_ret;refine ⟨_,rfl,⟨b1,?_,rfl⟩,by rw[World.drewN_drewN];exact HE.out _⟩;have:ids.findIdx? (λ(i:Nat)=>decide (S.la<(i:Int)))=some k:=find_at H12.out.1 HLA.out HSO.out;rw[HP.out,this];exact H12.out.2
    .have HLA:Hid ((i1:Int)<=S.la):=⟨by omega⟩
     have hla':(decide (S.la<(i1:Int)))=false:=by simpa using hla
     clear hla;go_wp2_with fail
     go_quiet (fail)
     go_wp2_with fail
     go_roundw
     case rel=>exact ⟨k+1,by omega,by go_num,λj i hj hi=>by by_cases e:j=k;subst e;rw[H12.out.1] at hi;cases hi;exact HLA.out;exact HSO.out j i (by omega) hi,_,rfl⟩
     case measure=>simp[intOf];omega
   .have hkk:k=bs.length:=by omega
    subst hkk;obtain ⟨i1,b1,h1,h2,h3,h4⟩:=HC.out 0 (by have:=HL.out;omega);have H12:Hid (ids[0]? = some i1∧bs[0]? = some b1):=⟨⟨h1,h2⟩⟩
    have hz:(0:Int)<(bs.length:Int):=by have:=HL.out;omega
    have hz':0<bs.length:=by have:=HL.out;omega
    clear h1 h2;go_wp2_with fail;go_ret;refine ⟨_,rfl,⟨b1,?_,rfl⟩,HE.out _⟩;have:ids.findIdx? (λ(i:Nat)=>decide (S.la<(i:Int)))=none:=find_none (λj i hj hi=>HSO.out j i (by have:=HL.out;omega) hi);rw[HP.out,this];exact H12.out.2
def scan:Code:=seq1 (seq2 (seq2 (seq2 (Tryd.f125.body.getD .skip))))
def rdyIds (S:TS) (k:Nat):List Nat:=(List.range k).filter λi=>(S.thr[i]?).any (rdy S)
def waits2 (S:TS) (k:Nat):Bool:=(List.range k).any λi=>(S.thr[i]?).any λt=>t.st==2
def tbs (S:TS) (ids:List Nat):List Nat:=ids.map λi=>((S.thr[i]?).map (·.tb)).getD 0
theorem Rep.grows {v':World}(h:Rep z S v) (hs:v.heap.size<=v'.heap.size) (g:∀ b,b<v.heap.size->v'.heap[b]? = v.heap[b]?):Rep z S v':=by have hits:∀ k b,blk S k=some b->v'.heap[b]? = v.heap[b]?:=λk b hk=>g b (h.lt hk);exact ⟨by rw[hits 0 S.wb rfl];exact h.wor,λi t ht=>by rw[hits (i+5) t.tb (by simp[blk,ht])];exact h.thr i t ht,own_stay (λb hb=>hits 3 b hb) h.own,own_stay (λb hb=>hits 1 b hb) h.chg,own_stay (λb hb=>hits 2 b hb) h.ths,own_stay (λb hb=>hits 4 b hb) h.sch,Qk h.bs hs,h.apart,h.kept⟩
theorem rdyIds_succ (S:TS) (k:Nat) (ht:S.thr[k]? = some t):rdyIds S (k+1)=if rdy S t then rdyIds S k++[k] else rdyIds S k:=by unfold rdyIds;rw[List.range_succ,List.filter_append];cases hr:rdy S t<;>simp[ht,hr]
theorem waits2_succ (S:TS) (k:Nat) (ht:S.thr[k]? = some t):waits2 S (k+1)=(waits2 S k||t.st==2):=by unfold waits2;rw[List.range_succ,List.any_append];simp[ht]
theorem rdyIds_len (S:TS) (k:Nat):(rdyIds S k).length<=k:=by unfold rdyIds;refine Qk (List.length_filter_le _ _) ?_;simp
theorem info46:(Tryd.prog.info? 48).map (λi=>(i.zero,i.size,i.bytes))=some (some (.pointer none),1,8):=by kernel_rfl
theorem ptr_cell {base:Nat}{v:Value}(h:w.ownsRow base 48 1 v l.length (l.map λb=>Pt b 0)) {k b:Nat}(hx:l[k]? = some b):∃ g cap,v=.slice (some ⟨g,0,none⟩) l.length cap∧w.cell? ⟨g,k,none⟩=some (Pt b 0):=by
 have hc:k<l.length:=(Qc hx).1;rcases h.2 with ⟨rfl,h0⟩|⟨g,cap,cur,rfl,hb,hh,hle,_,hsz,htake⟩
 omega
 .refine ⟨g,cap,rfl,?_⟩
  have e:(l.map λb=>Pt b 0)[k]? = some (Pt b 0):=by simp[hx]
  rw[<-htake,Nat.mul_one,List.getElem?_take_of_lt hc] at e;simp only[World.cell?,hh,Option.isSome_none,Qh,if_false];simpa using e
theorem news1 (w:World) (b:Nat) (t:TypeId):∀ j u,[Pt b 0][j]? = some u->(w.alloc (.cells #[Pt b 0] t)).cell? ((⟨w.heap.size,0,none⟩:Addr).add j)=some u:=by intro j u hj;have hb:(w.alloc (.cells #[Pt b 0] t)).heap[w.heap.size]? = some (.cells #[Pt b 0] t):=Qo;exact World.news_of_block hb j u hj
theorem one1 (b:Nat):∀ u∈[Pt b 0],u.oneCell'=true:=by intro u hu;simp at hu;subst hu;rfl
theorem scan_wp (h:Rep z S v) (hm:S.thr.length<=8):
 scan.wp Tryd.prog (λe a w'=>e=.normal∧(∃ lv,(∃ u6 u8 u9 u10 u11 u12 u13 u14 u15 u16 u17 u18 u19 u20 u21 u22 u23 u24 u25 u26 u27 u28 u29 u30 u31,a={ tmps:=#[Pt S.wb 0,undef,.bool false,lv,.bool (waits2 S S.thr.length),undef,u6,undef,u8,u9,u10,u11,u12,u13,u14,u15,u16,u17,u18,u19,u20,u21,u22,u23,u24,u25,u26,u27,u28,u29,u30,u31]++Array.replicate 41 undef,defers:=[] })∧w'.ownsRow v.heap.size 48 1 lv (rdyIds S S.thr.length).length ((tbs S (rdyIds S S.thr.length)).map λb=>Pt b 0)) ∧
  v.heap.size<=w'.heap.size∧(∀ b,b<v.heap.size->w'.heap[b]? = v.heap[b]?)∧w'.os=v.os∧w'.output=v.output)
  { tmps:=#[Pt S.wb 0,undef,.bool false,.slice none 0 0,.bool false]++Array.replicate 68 undef,defers:=[] } v:=by
 obtain ⟨_,_,_,_,w4,_⟩:=h.wcell;have hths:=h.ths;obtain ⟨p,pc,hp⟩:=own_form hths;rw[hp] at w4;have HR:Hid (Rep z S v):=⟨h⟩
 have HT:Hid (∀ (k:Nat) (t:Thr),S.thr[k]? = some t->∃ g,p=some ⟨g,0,none⟩∧v.cell? ⟨g,k,none⟩=some (Pt t.tb 0)):=⟨λk t ht=>by
  have e:S.thr.map (λt=>Pt t.tb 0)=(S.thr.map (·.tb)).map λb=>Pt b 0:=by simp
  have hl:S.thr.length=(S.thr.map (·.tb)).length:=by simp
  have h':=hths;rw[e,hl] at h';obtain ⟨g,cap,e1,e2⟩:=ptr_cell h' (k:=k) (b:=t.tb) (by simp[ht]);rw[hp,<-hl] at e1;cases e1;exact ⟨g,rfl,e2⟩⟩
 clear h hths;show Code.wp Tryd.prog (seq1 (seq2 (seq2 (seq2 (Tryd.f125.body.getD .skip))))) _ _ _;unfold Tryd.f125 seq1 seq2;simp only[Qa,Sy];go_wp2_with fail
 go_loopw [3,4,13] (λl b i u=>∃ (k:Nat),k<=S.thr.length∧i=.int .i64 k∧b=.bool (waits2 S k)∧(∃ lp lc,l=.slice lp (rdyIds S k).length lc)∧u.ownsRow v.heap.size 48 1 l (rdyIds S k).length ((tbs S (rdyIds S k)).map λb=>Pt b 0)∧v.heap.size<=u.heap.size∧(∀ b,b<v.heap.size->u.heap[b]? = v.heap[b]?)∧u.os=v.os∧u.output=v.output) (λ_ _ i _=>S.thr.length - (intOf i).toNat)
 case atStart=>exact ⟨0,Nat.zero_le _,rfl,rfl,⟨none,0,rfl⟩,⟨by simp[rdyIds,tbs],.inl ⟨rfl,rfl⟩⟩,Qi _,λ_ _=>rfl,rfl,rfl⟩
 case round =>
  obtain ⟨k,hk,rfl,rfl,⟨lp,lc,rfl⟩,hown,hsz,hbl,hos,hou⟩:=hrel;have HI:Hid (wr.ownsRow v.heap.size 48 1 (.slice lp (rdyIds S k).length lc) (rdyIds S k).length ((tbs S (rdyIds S k)).map λb=>Pt b 0)∧v.heap.size<=wr.heap.size∧(∀ b,b<v.heap.size->wr.heap[b]? = v.heap[b]?)∧wr.os=v.os∧wr.output=v.output):=⟨⟨hown,hsz,hbl,hos,hou⟩⟩
  clear hown hsz hbl hos hou;by_cases hlt:k<S.thr.length
  .obtain ⟨t,ht⟩:∃ t,S.thr[k]? = some t:=⟨_,Qf hlt⟩
   obtain ⟨g,rfl,hg⟩:=HT.out k t ht;have HRw:Hid (Rep z S wr):=⟨HR.out.grows HI.out.2.1 HI.out.2.2.1⟩
   have hg':wr.cell? ⟨g,k,none⟩=some (Pt t.tb 0):=by rw[World.cell?_of_block (HI.out.2.2.1 g (World.block_lt_of_cell? _ _ hg))];exact hg
   have hst:wr.cell? ⟨t.tb,3,none⟩=some (I t.st):=(HRw.out.cell ht).2.2.2.1;have HTk:Hid (S.thr[k]? = some t):=⟨ht⟩
   have hlt':(k:Int)<(S.thr.length:Int):=by omega
   have HLen:Hid ((rdyIds S k).length<=k):=⟨rdyIds_len S k⟩
   have HW1:=waits2_succ S k ht;have HI1:=rdyIds_succ S k ht;clear hg;cases hr:rdy S t with
   |false =>
    rw[hr] at HI1;simp only[Qh,if_false] at HI1;have HS:Hid (rdyIds S (k+1)=rdyIds S k∧waits2 S (k+1)=(waits2 S k||t.st==2)):=⟨⟨HI1,HW1⟩⟩
    have HRD:Hid (rdy S t=false):=⟨hr⟩
    clear HI1 HW1 hr ht;cases hb:waits2 S k<;>cases hs:(t.st==2);all_goals
     have HBS:Hid (waits2 S (k+1)=_):=⟨by rw[HS.out.2,hb,hs]⟩
     clear hb
     go_wp2_with (go_at_call 155;refine ((body71 HRw.out HTk.out).calls Tryd.func155 rfl).mono ?_;rintro e w1 ⟨_,rfl,rfl,q,rfl⟩;rw[HRD.out])
     go_roundw
     case rel =>refine ⟨k+1,by omega,by go_num,by rw[HBS.out];rfl,⟨lp,lc,by rw[HS.out.1]⟩,?_,HI.out.2.1,HI.out.2.2.1,HI.out.2.2.2.1,HI.out.2.2.2.2⟩;rw[HS.out.1];exact own_stay (λ_ _=>rfl) HI.out.1
     case measure=>simp[intOf];omega
   |true =>
    rw[hr] at HI1;simp only[if_true] at HI1;have hel:tbs S [k]=[t.tb]:=by simp[tbs,ht]
    have HS:Hid (rdyIds S (k+1)=rdyIds S k++[k]∧waits2 S (k+1)=(waits2 S k||t.st==2)∧tbs S (rdyIds S (k+1))=tbs S (rdyIds S k)++[t.tb]):=⟨⟨HI1,HW1,by rw[HI1,<-hel];simp[tbs]⟩⟩
    have HRD:Hid (rdy S t=true):=⟨hr⟩
    clear HI1 HW1 hr ht hel;obtain ⟨j0,hj,hj0,hj1,hj2⟩:=info_parts info46;have HG:Hid (∀ (q:Nat) (w6:World),((wr.drewN q).alloc (.cells #[Pt t.tb 0] 48)).grownBy w6 (Value.slice lp (rdyIds S k).length lc).ownBlock->w6.cell? ⟨t.tb,3,none⟩=some (I t.st)∧v.heap.size<=w6.heap.size∧(∀ b,b<v.heap.size->w6.heap[b]? = v.heap[b]?)∧w6.os=v.os∧w6.output=v.output):=⟨λq w6 hg6=>by
     have hal:Below wr.heap.size wr ((wr.drewN q).alloc (.cells #[Pt t.tb 0] 48)):=below_alloc (a:=wr) (b:=wr.drewN q) ⟨rfl,rfl,rfl,Qi _,λ_ _=>rfl⟩ _;have hblk:∀ b,b<v.heap.size->w6.heap[b]? = v.heap[b]?:=λb hb=>by rw[hg6.block b (by have:=HI.out.2.1;have:=hal.size;omega) (λe=>by have:=(own_lt HI.out.1 b e.symm).1;omega),hal.block b (by have:=HI.out.2.1;omega),HI.out.2.2.1 b hb]
     have hbt:t.tb<v.heap.size:=HR.out.lt (k:=k+5) (by simp[blk,HTk.out]);refine ⟨?_,by have:=HI.out.2.1;have:=hal.size;have:=hg6.size;omega,hblk,by rw[hg6.os,hal.os];exact HI.out.2.2.2.1,by rw[hg6.output,hal.output];exact HI.out.2.2.2.2⟩;rw[World.cell?_of_block (w:=wr) (by rw[hblk _ hbt,HI.out.2.2.1 _ hbt])];exact hst⟩
    cases hb:waits2 S k<;>cases hs:(t.st==2);all_goals
     have HBS:Hid (waits2 S (k+1)=_):=⟨by rw[HS.out.2.1,hb,hs]⟩
     clear hb
     go_wp2_with (first
      |(go_at_call 155;refine ((body71 HRw.out HTk.out).calls Tryd.func155 rfl).mono ?_;rintro e w1 ⟨_,rfl,rfl,q,rfl⟩;rw[HRD.out])
      |(refine wpList_append_lies _ rfl (.tmp 19) (.tmp 21) 95 rfl v.heap.size 48 j0 _ 1 8 Tryd.underlying95 hj hj0 hj1 hj2 rfl (by decide) (.slice lp (rdyIds S k).length lc) (rdyIds S k).length ((tbs S (rdyIds S k)).map λb=>Pt b 0) rfl (own_later (below_alloc (Below.refl _ _) _) (own_stay (λ_ _=>rfl) HI.out.1)) ⟨_,0,none⟩ 1 1 [Pt t.tb 0] rfl rfl (news1 _ _ _) (one1 _) (by decide) (by have:=HLen.out;unfold maxLen;omega) (by have:=HLen.out;omega) (by have:=HI.out.2.1;simp;omega) _ rfl ?_
        intro g2 cp2 w6 hown6 hgrow6 hat6 hlt6;have k3:=(HG.out _ _ hgrow6).1))
     have HO6:Hid (w6.ownsRow v.heap.size 48 1 (.slice (some ⟨g2,0,none⟩) ((rdyIds S k).length+1) cp2) ((rdyIds S k).length+1) (((tbs S (rdyIds S k)).map λb=>Pt b 0)++[Pt t.tb 0])):=⟨hown6⟩
     have HG6:=(HG.out _ _ hgrow6).2
     go_roundw
     case rel =>
      have el:(rdyIds S (k+1)).length=(rdyIds S k).length+1:=by rw[HS.out.1];simp
      refine ⟨k+1,by omega,by go_num,by rw[HBS.out];rfl,⟨some ⟨g2,0,none⟩,cp2,by rw[el]⟩,?_,HG6.1,HG6.2.1,HG6.2.2.1,HG6.2.2.2⟩;rw[el,HS.out.2.2];simpa using HO6.out
     case measure=>simp[intOf];omega
  .have hkk:k=S.thr.length:=by omega
   subst hkk;go_wp2_with fail;exact HI.out
def mainFs:List FuncId:=[157,155,156]
def LM (f:FuncId):Prop:=f∈mainFs
theorem callM:∀ f∈mainFs,Callable Tryd.prog LM f:=by intro f hf;have hf':=hf;simp only[mainFs,List.mem_cons,List.not_mem_nil,or_false] at hf;rcases hf with rfl|rfl|rfl;exact ⟨hf',Tryd.f157,Tryd.func157,by kernel_rfl,by kernel_rfl⟩;exact ⟨hf',Tryd.f155,Tryd.func155,by kernel_rfl,by kernel_rfl⟩;exact ⟨hf',Tryd.f156,Tryd.func156,by kernel_rfl,by kernel_rfl⟩
theorem fineM:∀ f,LM f->fineFn Tryd.prog true LM f:=by intro f hf;simp only[LM,mainFs,List.mem_cons,List.not_mem_nil,or_false] at hf;rcases hf with rfl|rfl|rfl;exact fineFn_of callM Tryd.func157 (c:=Tryd.f157.body.getD .skip) (by rfl) (by kernel_rfl);exact fineFn_of callM Tryd.func155 (c:=Tryd.f155.body.getD .skip) (by rfl) (by kernel_rfl);exact fineFn_of callM Tryd.func156 (c:=Tryd.f156.body.getD .skip) (by rfl) (by kernel_rfl)
theorem fineScan:fineCode Tryd.prog true LM scan:=fineCode_of callM (by kernel_rfl)
theorem thr_ev {V:World}(h:Rep z S v) (ht:S.thr[i]? = some t) (t':Thr) (htb:t'.tb=t.tb) (hst:∀ b,b≠t.tb->V.heap[b]? = v.heap[b]?) (hrow:V.heap[t.tb]? = some (.cells (trow S.wb i t'.gc t'.st t'.ce t'.op t'.se) 107 (fz z t.tb))) (hsz:V.heap.size=v.heap.size) (hos:V.os=v.os) (hou:V.output=v.output):
 Ev z S v { S with thr:=S.thr.set i t' } V:=by
 have hi:i<S.thr.length:=(Qc ht).1;have hbt:blk S (i+5)=some t.tb:=by simp[blk,ht]
 have hits:∀ k b,blk S k=some b->k≠i+5->V.heap[b]? = v.heap[b]?:=λk b hk hne=>hst b (λe=>hne (h.apart k (i+5) b hk (by rw[hbt,e])));have hget:∀ (j:Nat) (u:Thr),(S.thr.set i t')[j]? = some u->(j=i∧u=t')∨(j≠i∧S.thr[j]? = some u):=λj u hj=>by rw[Qq] at hj;by_cases e:i=j;subst e;rw[if_pos rfl,if_pos hi] at hj;exact .inl ⟨rfl,(Qd hj).symm⟩;rw[if_neg e] at hj;exact .inr ⟨λe'=>e e'.symm,hj⟩
 have hblk:∀ k,blk { S with thr:=S.thr.set i t' } k=blk S k:=λk=>by
  match k with
  |0=>rfl
  |1=>rfl
  |2=>rfl
  |3=>rfl
  |4=>rfl
  |k+5 =>
   simp only[blk,Qq];by_cases e:i=k
   .subst e
    have:S.thr[i]=t:=by rw[Qf hi] at ht;exact Qd ht
    simp[hi,this,htb]
   simp[e]
 have hths:(S.thr.set i t').map (λt=>Pt t.tb 0)=S.thr.map (λt=>Pt t.tb 0):=by
  apply List.ext_getElem?;intro k;have:=hblk (k+5);simp only[blk] at this;rw[List.getElem?_map,List.getElem?_map];have e:∀ l:List Thr,(l[k]?).map (λt=>Pt t.tb 0)=((l[k]?).map (·.tb)).map (λb=>Pt b 0):=λl=>by cases l[k]?<;>rfl
  rw[e,e,this]
 refine ⟨⟨?_,λj u hj=>?_,own_stay (λb hb=>hits 3 b hb (by omega)) h.own,own_stay (λb hb=>hits 1 b hb (by omega)) h.chg,?_,own_stay (λb hb=>hits 4 b hb (by omega)) h.sch,?_,λj k b hj hk=>?_,λb n hz=>?_⟩,⟨hos,hou,by omega,λb hb hs=>hst b (λe=>hs ⟨i+5,by rw[hbt,e]⟩)⟩,λb ⟨k,hk⟩=>.inl ⟨k,by rw[<-hblk];exact hk⟩⟩
 .show V.heap[S.wb]? = _
  rw[hits 0 S.wb rfl (by omega)];exact h.wor
 .rcases hget j u hj with ⟨rfl,rfl⟩|⟨hne,hj⟩
  rw[htb];exact hrow
  .rw[hits (j+5) u.tb (by simp[blk,hj]) (by omega)]
   exact h.thr j u hj
 .have:=own_stay (w':=V) (λb hb=>hits 2 b hb (by omega)) h.ths
  show V.ownsRow S.base 48 1 S.ths (S.thr.set i t').length ((S.thr.set i t').map λt=>Pt t.tb 0);rw[hths,List.length_set];exact this
 .show S.base<=V.heap.size
  rw[hsz];exact h.bs
 exact h.apart j k b (by rw[<-hblk];exact hj) (by rw[<-hblk];exact hk)
 .rcases h.kept b n hz with h1|⟨j,u,hj,h2,h3⟩
  exact .inl h1
  .right
   by_cases e:j=i
   .subst e
    rw[ht] at hj;cases hj;exact ⟨j,t',by simp[hi],by rw[h2,htb],h3⟩
   exact ⟨j,u,by show (S.thr.set i t')[j]? = some u;rw[Qq,if_neg (λe'=>e e'.symm)];exact hj,h2,h3⟩
def going (S:TS) (i:Nat) (t:Thr):TS:={ (picked S) with la:=i,thr:=(picked S).thr.set i { t with st:=0 } }
def pick15:Code:=seq1 (seq2 (seq2 (seq2 (seq2 (seq2 (Tryd.f125.body.getD .skip))))))
def last16:Code:=seq1 (seq2 (seq2 (seq2 (seq2 (seq2 (seq2 (Tryd.f125.body.getD .skip)))))))
def state17:Code:=seq1 (seq2 (seq2 (seq2 (seq2 (seq2 (seq2 (seq2 (Tryd.f125.body.getD .skip))))))))
theorem fine15M:fineCode Tryd.prog true LM pick15:=fineCode_of callM (by kernel_rfl)
theorem fine16M:fineCode Tryd.prog true LM last16:=fineCode_of callM (by kernel_rfl)
theorem fine17M:fineCode Tryd.prog true LM state17:=fineCode_of callM (by kernel_rfl)
def c500:Code:=seq1 (Tryd.f125.body.getD .skip)
def c501:Code:=seq1 (seq2 (Tryd.f125.body.getD .skip))
def c502:Code:=seq1 (seq2 (seq2 (Tryd.f125.body.getD .skip)))
def c504:Code:=seq2 (seq2 (seq2 (seq2 (Tryd.f125.body.getD .skip))))
theorem fine500:fineCode Tryd.prog true LM c500:=fineCode_of callM (by kernel_rfl)
theorem fine501:fineCode Tryd.prog true LM c501:=fineCode_of callM (by kernel_rfl)
theorem fine502:fineCode Tryd.prog true LM c502:=fineCode_of callM (by kernel_rfl)
def c510:Code:=seq1 (seq2 (seq2 (seq2 (seq2 (Tryd.f125.body.getD .skip)))))
def c518:Code:=seq2 (seq2 (seq2 (seq2 (seq2 (seq2 (seq2 (seq2 (Tryd.f125.body.getD .skip))))))))
theorem fine510:fineCode Tryd.prog true LM c510:=fineCode_of callM (by kernel_rfl)
theorem own_ptrs {base:Nat}{v:Value}(h:w.ownsRow base 48 1 v l.length (l.map λb=>Pt b 0)) (h0:0<l.length):PtrRow w v l:=by
 rcases h.2 with ⟨_,h1⟩|⟨g,cap,cur,rfl,hb,hh,hle,_,hsz,htake⟩
 omega
 .refine ⟨g,cap,rfl,λk b hx=>?_⟩
  have hc:k<l.length:=(Qc hx).1;have e:(l.map λb=>Pt b 0)[k]? = some (Pt b 0):=by simp[hx]
  rw[<-htake,Nat.mul_one,List.getElem?_take_of_lt hc] at e;simp only[World.cell?,hh,Option.isSome_none,Qh,if_false];simpa using e
def ops5019:Array Oper:=opsOf (seq1 (seq2 (seq2 (seq2 (seq2 (seq2 (seq2 (seq2 (seq2 (seq2 (Tryd.f125.body.getD .skip)))))))))))
def c5020:Code:=seq2 (seq2 (seq2 (seq2 (seq2 (seq2 (seq2 (seq2 (seq2 (seq2 (Tryd.f125.body.getD .skip))))))))))
theorem back50 (tmps:Array Value) (hs:tmps.size=73) {bc:Frame}{ac:Act}{ops:Array Oper}{rest:List Nat}{o:Oper}{k:List Item}{cs:List Frame}(ho:ops[i]? = some o):
 Back Tryd.prog true (G ((base 125).at { tmps:=tmps,defers:=[] } [.inRegion ops5019 [4],.code c5020]) (bc.at ac (.inRegion ops (i :: rest) :: k) :: cs)) (G (bc.at (ac.put o.dst (.bool true)) (.inRegion ops rest :: k)) cs):=by
 intro D Stop x w hD h;rw[served_fr,Frame.finish_at];refine goesI_regionEnd hD ?_;refine goesI_seq hD ?_;refine goesI_region hD ?_;refine goesI_value (v:=λ_=>.bool true) (w':=λd=>w.at d) rfl rfl (by decide) (λd=>rfl) (λd=>by rw[listed_none rfl];exact hD _) (λd=>?_);refine GoesI.at ?_ d;refine goesI_regionEnd hD ?_;refine GoesI.ctl rfl (λ_=>stepG_ret') hD ?_;refine goesI_leave (b:=base 125) (fn:=Tryd.f125) (v:=.bool true) rfl rfl Tryd.func125 (λw=>?_) (λw=>by simp[results,go_sem]) ho hD h;rw[results_tmp (t:=2) rfl];show Result.ok (((tmps.setIfInBounds 72 x).setIfInBounds 2 (.bool true)).getD 2 undef) w=_;simp[hs]
def ScanQ (S:TS) (v:World) (a:Act) (w':World):Prop :=
 (∃ lv,(∃ u6 u8 u9 u10 u11 u12 u13 u14 u15 u16 u17 u18 u19 u20 u21 u22 u23 u24 u25 u26 u27 u28 u29 u30 u31,a={ tmps:=#[Pt S.wb 0,undef,.bool false,lv,.bool (waits2 S S.thr.length),undef,u6,undef,u8,u9,u10,u11,u12,u13,u14,u15,u16,u17,u18,u19,u20,u21,u22,u23,u24,u25,u26,u27,u28,u29,u30,u31]++Array.replicate 41 undef,defers:=[] })∧w'.ownsRow v.heap.size 48 1 lv (rdyIds S S.thr.length).length ((tbs S (rdyIds S S.thr.length)).map λb=>Pt b 0))∧v.heap.size<=w'.heap.size∧(∀ b,b<v.heap.size->w'.heap[b]? = v.heap[b]?)∧w'.os=v.os∧w'.output=v.output
theorem turn50_goes {Stop:Goroutine->World->Prop}(cs:List Frame) (Hm:Goroutine->Prop) {bc:Frame}{ac:Act}{ops:Array Oper}{q:Nat}{rest:List Nat}{oc:Oper}{k:List Item}(hoc:ops[q]? = some oc)
 (hH:∀ g,Back Tryd.prog true g (G (bc.at (ac.put oc.dst (.bool true)) (.inRegion ops rest :: k)) cs)->Hm g)
 (hvw:Rel z v w) (hn:NoRow Ch v) (hm:Mem z S K v) (h8:S.thr.length<=8) (hsl:S.sched.length<=4611686018427387904) (hsc:∀ x∈S.sched,-9223372036854775808<=x∧x<9223372036854775808)
 (h0:0<(rdyIds S S.thr.length).length) (hi:(rdyIds S S.thr.length)[pickAt S (rdyIds S S.thr.length)]? = some i) (ht:S.thr[i]? = some t) (hz:z S.wb=some 8) (hcont:cont ⟨S.wb,8,none⟩=.chan (some S.bk))
 (hstop:∀ g w',Lift.AtGive Tryd.prog (KC (ScZ z) cont) (StillC (ScZ z)) 0 t.gc (.agg #[]) (some (Seat.one S.bk (.agg #[]) false Hm)) (Then z Ch S K v (going S i t) K) g w'->Stop g w') (code:Code) (hc:Tryd.f125.body=some code):
 GoesI Tryd.prog true (DT (ScZ z) Ch) Stop (G ((base 125).at { tmps:=#[Pt S.wb 0]++Array.replicate 72 undef,defers:=[] } [.code code]) (bc.at ac (.inRegion ops (q :: rest) :: k) :: cs)) w:=by
 have hw0:code=.seq c500 (.seq c501 (.seq c502 (.seq scan c504))):=by obtain rfl:=Qd hc;rfl
 subst hw0;clear hc;simp only[Sy];refine goesI_seq (dt_idle _ _) ?_;refine goesI_look hE fineM hvw hn fine500 rfl (by simp[base]) (a':={ tmps:=#[Pt S.wb 0,undef,.bool false]++Array.replicate 70 undef,defers:=[] }) (λτ=>?_) (λw hvw=>?_)
 .show Code.wp Tryd.prog (c500) _ _ _
  unfold c500 Tryd.f125 seq1;simp only[Qa,Sy];go_wp2_with fail;exact ⟨rfl,rfl,rfl⟩
 simp only[Sy];refine goesI_seq (dt_idle _ _) ?_;refine goesI_look hE fineM hvw hn fine501 rfl (by simp[base]) (a':={ tmps:=#[Pt S.wb 0,undef,.bool false,.slice none 0 0]++Array.replicate 69 undef,defers:=[] }) (λτ=>?_) (λw hvw=>?_)
 .show Code.wp Tryd.prog (c501) _ _ _
  unfold c501 Tryd.f125 seq1 seq2;simp only[Qa,Sy];go_wp2_with fail;exact ⟨rfl,rfl,rfl⟩
 simp only[Sy];refine goesI_seq (dt_idle _ _) ?_;refine goesI_look hE fineM hvw hn fine502 rfl (by simp[base]) (a':={ tmps:=#[Pt S.wb 0,undef,.bool false,.slice none 0 0,.bool false]++Array.replicate 68 undef,defers:=[] }) (λτ=>?_) (λw hvw=>?_)
 .show Code.wp Tryd.prog (c502) _ _ _
  unfold c502 Tryd.f125 seq1 seq2;simp only[Qa,Sy];go_wp2_with fail;exact ⟨rfl,rfl,rfl⟩
 simp only[Sy];refine goesI_seq (dt_idle _ _) ?_;have hscan:∀ τ,scan.wp Tryd.prog (λe a w'=>e=.normal∧ScanQ S v a w') { tmps:=#[Pt S.wb 0,undef,.bool false,.slice none 0 0,.bool false]++Array.replicate 68 undef,defers:=[] } (onTape v τ 0):=λτ=>scan_wp (hm.rep.same (v':=onTape v τ 0) rfl) h8;simp only[Sy] at hscan;refine goesI_plain (c:=scan) (z:=z) (wr:=true) (L:=LM) (I:=NoRow Ch) hE fineM noRow_keeps (λv v' w w' es hi hr ho he=>dt_of_z v v' w w' es hi hr ho he) hvw fineScan rfl (by simp[base]) hn hscan ?_;rintro a' v1 w1 ⟨⟨lv,⟨u6,u8,u9,u10,u11,u12,u13,u14,u15,u16,u17,u18,u19,u20,u21,u22,u23,u24,u25,u26,u27,u28,u29,u30,u31,rfl⟩,hown⟩,hsz,hbl,hos,hou⟩ hr1 hn1 -;have hg:Grows v v1:=⟨hsz,hbl,hos,hou⟩
 have he1:=hm.grows hg;have hlv:=own_form hown;obtain ⟨p,cap,rfl⟩:=hlv;have hc504:c504=.seq c510 (.seq pick15 (.seq last16 (.seq state17 c518))):=rfl;rw[hc504];clear hscan;refine goesI_seq (dt_idle _ _) ?_;refine goesI_look hE fineM hr1 hn1 fine510 rfl (by simp[base]) (a':={ tmps:=#[Pt S.wb 0,undef,.bool false,.slice p (rdyIds S S.thr.length).length cap,.bool (waits2 S S.thr.length),undef,u6,undef,u8,u9,u10,u11,u12,u13,u14,u15,u16,u17,u18,u19,u20,u21,u22,u23,u24,u25,u26,u27,u28,u29,u30,u31,.slice p (rdyIds S S.thr.length).length cap,I (rdyIds S S.thr.length).length,.bool false]++Array.replicate 38 undef,defers:=[] }) (λτ=>?_) (λw2 hr2=>?_)
 .have hn0:¬ (((rdyIds S S.thr.length).length:Int)=0):=by omega
  have hn0':((((rdyIds S S.thr.length).length:Int))==0)=false:=by rw[beq_eq_false_iff_ne];omega
  clear hr1 hn1 he1 hown hbl hm hH hstop hi hsc hsl h8 hos hou hsz hg;generalize (rdyIds S S.thr.length).length=nn at *;show Code.wp Tryd.prog c510 _ _ _;unfold c510 Tryd.f125 seq1 seq2;simp only[Qa,Sy];go_wp2_with fail;exact ⟨rfl,rfl,rfl⟩
 simp only[Sy];have hbs:(tbs S (rdyIds S S.thr.length)).length=(rdyIds S S.thr.length).length:=by simp[tbs]
 have hrw1:Rep z S v1:=he1.mem.rep;have hgl:∀ g,(Value.slice p (rdyIds S S.thr.length).length cap).ownBlock=some g->¬ Its S g:=λg hg' ⟨kk,hkk⟩=>by have:=(own_lt hown g hg').1;have:=hm.rep.lt hkk;omega
 have hrowp:PtrRow v1 (.slice p (rdyIds S S.thr.length).length cap) (tbs S (rdyIds S S.thr.length)):=by have h':=hown;rw[<-hbs] at h' ⊢;exact own_ptrs h' (by omega)
 have hidsp:∀ (kk ii b:Nat),(rdyIds S S.thr.length)[kk]? = some ii->(tbs S (rdyIds S S.thr.length))[kk]? = some b->∃ t,S.thr[ii]? = some t∧t.tb=b:=λkk ii b h1 h2=>by
  have hmem:ii∈rdyIds S S.thr.length:=List.mem_of_getElem? h1;simp only[rdyIds,List.mem_filter] at hmem;cases ht':S.thr[ii]? with
  |none=>rw[ht'] at hmem;simp at hmem
  |some t' =>refine ⟨t',rfl,?_⟩;simp only[tbs,List.getElem?_map,h1,Option.map_some,ht',Qa,Option.some.injEq] at h2;exact h2
 have hbi:(tbs S (rdyIds S S.thr.length))[pickAt S (rdyIds S S.thr.length)]? = some t.tb:=by simp[tbs,hi,ht]
 refine goesI_seq (dt_idle _ _) ?_;refine goesI_plain (c:=pick15) (z:=z) (wr:=true) (L:=LM) (I:=NoRow Ch) hE fineM noRow_keeps (λv v' w w' es hi hr ho he=>dt_of_z v v' w w' es hi hr ho he) hr2 fine15M rfl (by simp[base]) hn1 (Q:=λa w'=>a={ tmps:=#[Pt S.wb 0,undef,.bool false,.slice p (rdyIds S S.thr.length).length cap,.bool (waits2 S S.thr.length),undef,u6,Pt t.tb 0,u8,u9,u10,u11,u12,u13,u14,u15,u16,u17,u18,u19,u20,u21,u22,u23,u24,u25,u26,u27,u28,u29,u30,u31,.slice p (rdyIds S S.thr.length).length cap,I (rdyIds S S.thr.length).length,.bool false,undef,undef,undef,undef,undef,undef,undef,undef,undef,undef,undef,undef,undef,undef,undef,Pt S.wb 0,.slice p (rdyIds S S.thr.length).length cap,Pt t.tb 0]++Array.replicate 20 undef,defers:=[] }∧Ev z S v1 (picked S) w') (λτ=>?_) ?_
 .have HB:=(body72 (hrw1.same (v':=onTape v1 τ 0) rfl) (.slice p (rdyIds S S.thr.length).length cap) (rdyIds S S.thr.length) (tbs S (rdyIds S S.thr.length)) hrowp hgl hbs hidsp h0 (Qk (rdyIds_len S _) h8) hsl hsc).calls Tryd.func156 rfl
  have HBC:Hid (Calls Tryd.prog 156 #[Pt S.wb 0,.slice p (rdyIds S S.thr.length).length cap] (onTape v1 τ 0) (λe w'=>e=.returned (Pt t.tb 0)∧Ev z S v1 (picked S) w')):=⟨HB.mono λe w' ⟨r,h1,⟨b,h2,h3⟩,h4⟩=>⟨by rw[hbi] at h2;cases h2;rw[h1,h3],h4.base rfl rfl rfl⟩⟩
  clear HB hr1 hr2 hn1 he1 hown hbl hm hH hstop hi hsc hsl h8 hrw1 hgl hrowp hidsp hbi hbs hos hou hsz hg;generalize (rdyIds S S.thr.length).length=nn at *;show Code.wp Tryd.prog pick15 _ _ _;unfold pick15 Tryd.f125 seq1 seq2;simp only[Qa,Sy]
  go_wp2_with (go_at_call 156;refine HBC.out.mono ?_;rintro e w5 ⟨rfl,hev5⟩)
 rintro a' v2 w3 ⟨rfl,hev2⟩ hr3 hn3 -;simp only[Sy];have hthr2:(picked S).thr=S.thr:=by unfold picked;split<;>rfl
 have hwb2:(picked S).wb=S.wb:=by unfold picked;split<;>rfl
 have hrep2:Rep z (picked S) v2:=hev2.rep;have ht2:(picked S).thr[i]? = some t:=by rw[hthr2];exact ht
 have c1:v2.cell? ⟨t.tb,1,none⟩=some (I i):=(hrep2.cell ht2).2.1;have c2:v2.cell? ⟨S.wb,2,none⟩=some (I (picked S).la):=by rw[<-hwb2];exact hrep2.wcell.2.2.1
 have f2:v2.frozen? ⟨S.wb,2,none⟩=false:=by rw[<-hwb2];exact fz_off hrep2 2 (by omega)
 have hev3:Ev z (picked S) v2 { (picked S) with la:=i } (v2.setCell ⟨S.wb,2,none⟩ (I i)):=by have:=world_set hrep2 (picked S).us i (picked S).stk 2 (I i) (by simp);rw[<-hwb2];exact this
 refine goesI_seq (dt_idle _ _) ?_;refine goesI_plain (c:=last16) (z:=z) (wr:=true) (L:=LM) (I:=NoRow Ch) hE fineM noRow_keeps (λv v' w w' es hi hr ho he=>dt_of_z v v' w w' es hi hr ho he) hr3 fine16M rfl (by simp[base]) hn3 (Q:=λa w'=>a={ tmps:=#[Pt S.wb 0,undef,.bool false,.slice p (rdyIds S S.thr.length).length cap,.bool (waits2 S S.thr.length),undef,u6,Pt t.tb 0,u8,u9,u10,u11,u12,u13,u14,u15,u16,u17,u18,u19,u20,u21,u22,u23,u24,u25,u26,u27,u28,u29,u30,u31,.slice p (rdyIds S S.thr.length).length cap,I (rdyIds S S.thr.length).length,.bool false,undef,undef,undef,undef,undef,undef,undef,undef,undef,undef,undef,undef,undef,undef,undef,Pt S.wb 0,.slice p (rdyIds S S.thr.length).length cap,Pt t.tb 0,Pt S.wb 0,Pt t.tb 0,Pt t.tb 0,Pt t.tb 1,I i,Pt S.wb 0,Pt S.wb 2]++Array.replicate 13 undef,defers:=[] }∧w'.heap=(v2.setCell ⟨S.wb,2,none⟩ (I i)).heap∧w'.os=v2.os∧w'.output=v2.output) (λτ=>?_) ?_
 .have c1':(onTape v2 τ 0).cell? ⟨t.tb,1,none⟩=some (I i):=c1
  have c2':(onTape v2 τ 0).cell? ⟨S.wb,2,none⟩=some (I (picked S).la):=c2;have f2':(onTape v2 τ 0).frozen? ⟨S.wb,2,none⟩=false:=f2;clear hr1 hr2 hr3 hn1 hn3 he1 hown hbl hm hH hstop hi hsc hsl h8 hrw1 hgl hrowp hidsp hbi hbs hos hou hsz hg hev2 hev3 hrep2 ht2 c1 c2 f2 hthr2 hwb2;generalize (rdyIds S S.thr.length).length=nn at *;show Code.wp Tryd.prog last16 _ _ _;unfold last16 Tryd.f125 seq1 seq2;simp only[Qa,Sy];go_wp2_with fail;exact ⟨rfl,rfl,rfl⟩
 rintro a' v3 w4 ⟨rfl,q1,q2,q3⟩ hr4 hn4 -;simp only[Sy];have hev3':Ev z (picked S) v2 { (picked S) with la:=i } v3:=hev3.same q1 q2 q3;have hrep3:=hev3'.rep;have ht3:({ (picked S) with la:=i }:TS).thr[i]? = some t:=ht2;have d3:v3.cell? ⟨t.tb,3,none⟩=some (I t.st):=(hrep3.cell ht3).2.2.2.1;have g3:v3.frozen? ⟨t.tb,3,none⟩=false:=fzT_off hrep3 ht3 3 (by omega);have hev4:Ev z { (picked S) with la:=i } v3 (going S i t) (v3.setCell ⟨t.tb,3,none⟩ (I 0)):=by refine thr_ev hrep3 ht3 { t with st:=0 } rfl (λb hb=>Below.heap_setCell _ _ _ _ hb) ?_ (by simp[World.setCell]) rfl rfl;have:=heap_setCell_same (o:=3) (hrep3.thr i t ht3) (I 0);simpa using this
 refine goesI_seq (dt_idle _ _) ?_;refine goesI_plain (c:=state17) (z:=z) (wr:=true) (L:=LM) (I:=NoRow Ch) hE fineM noRow_keeps (λv v' w w' es hi hr ho he=>dt_of_z v v' w w' es hi hr ho he) hr4 fine17M rfl (by simp[base]) hn4 (Q:=λa w'=>a={ tmps:=#[Pt S.wb 0,undef,.bool false,.slice p (rdyIds S S.thr.length).length cap,.bool (waits2 S S.thr.length),undef,u6,Pt t.tb 0,u8,u9,u10,u11,u12,u13,u14,u15,u16,u17,u18,u19,u20,u21,u22,u23,u24,u25,u26,u27,u28,u29,u30,u31,.slice p (rdyIds S S.thr.length).length cap,I (rdyIds S S.thr.length).length,.bool false,undef,undef,undef,undef,undef,undef,undef,undef,undef,undef,undef,undef,undef,undef,undef,Pt S.wb 0,.slice p (rdyIds S S.thr.length).length cap,Pt t.tb 0,Pt S.wb 0,Pt t.tb 0,Pt t.tb 0,Pt t.tb 1,I i,Pt S.wb 0,Pt S.wb 2,Pt t.tb 0,Pt t.tb 0,Pt t.tb 3]++Array.replicate 10 undef,defers:=[] }∧w'.heap=(v3.setCell ⟨t.tb,3,none⟩ (I 0)).heap∧w'.os=v3.os∧w'.output=v3.output) (λτ=>?_) ?_
 .have d3':(onTape v3 τ 0).cell? ⟨t.tb,3,none⟩=some (I t.st):=d3
  have g3':(onTape v3 τ 0).frozen? ⟨t.tb,3,none⟩=false:=g3;clear hr1 hr2 hr3 hr4 hn1 hn3 hn4 he1 hown hbl hm hH hstop hi hsc hsl h8 hrw1 hgl hrowp hidsp hbi hbs hos hou hsz hg hev2 hev3 hev3' hev4 hrep2 hrep3 ht2 ht3 c1 c2 f2 hthr2 hwb2 d3 g3 q1 q2 q3;generalize (rdyIds S S.thr.length).length=nn at *;show Code.wp Tryd.prog state17 _ _ _;unfold state17 Tryd.f125 seq1 seq2;simp only[Qa,Sy];go_wp2_with fail;exact ⟨rfl,rfl,rfl⟩
 rintro a' v4 w5 ⟨rfl,q4,q5,q6⟩ hr5 hn5 -;simp only[Sy];have hevo:Evo z S K v (going S i t) K v4:=by have e4:Ev z S v1 (going S i t) v4:=hev2.trans (hev3'.trans (hev4.same q4 q5 q6));refine he1.trans (Evo.of_ev he1.mem e4 ?_);unfold going picked;split<;>rfl
 have c2g:w5.cell? ⟨t.tb,2,none⟩=some (.chan (some t.gc)):=by
  rw[hr5.cell?];have hti:(going S i t).thr[i]? = some { t with st:=0 }:=by unfold going;have:i<(picked S).thr.length:=(Qc ht2).1;simp[this]
  exact (hevo.mem.rep.cell hti).2.2.1
 have hwbl:S.wb<w5.heap.size:=by rw[hr5.size,<-hwb2];exact (Qb hevo.mem.rep.wor).1
 have HF:Hid (Then z Ch S K v (going S i t) K w5):=⟨⟨v4,hr5,hn5,hevo⟩⟩
 clear hr1 hr2 hr3 hr4 hr5 hn1 hn3 hn4 hn5 he1 hown hbl hm hi hsc hsl h8 hrw1 hgl hrowp hidsp hbi hbs hos hou hsz hg hev2 hev3 hev3' hev4 hrep2 hrep3 ht2 ht3 c1 c2 f2 hthr2 hwb2 d3 g3 q1 q2 q3 q4 q5 q6 hevo h0;generalize (rdyIds S S.thr.length).length=nn;show GoesI Tryd.prog true (DT (ScZ z) Ch) Stop (G ((base 125).at _ [.code (seq2 (seq2 (seq2 (seq2 (seq2 (seq2 (seq2 (seq2 (Tryd.f125.body.getD .skip)))))))))]) _) w5;unfold Tryd.f125 seq2;simp only[Qa];refine goesI_seq (dt_idle _ _) ?_;refine goesI_region (dt_idle _ _) ?_;simp only[Sz,Sr,Nat.reduceAdd];iterate 5
  (refine goesI_oper rfl rfl (by decide) (λd K hK=>?_)
   go_simp;refine hK _ _ ⟨dt_reads (λe he=>?_),GoesI.at ?_ d⟩
   .have hm:=mem_listed he
    simp[go_sem, *] at hm
    try exact ⟨_,_,hm⟩
   clear hK K)
 refine GoesI.stop λd=>hstop _ _ (give_at (h:=0) (z':=.tuple #[]) 8 (S.wb+1) rfl rfl (by decide) (λw=>by simp[execOp,scase,Act.eval]) (λw=>by simp[go_sem,execOp,Act.eval]) ?_ (Nat.succ_le_of_lt hwbl) (λB hB T hT=>?_))
 .obtain ⟨v',k1,k2⟩:=HF.out
  exact ⟨v',k1.re rfl rfl rfl rfl rfl rfl,k2⟩
 .clear HF hstop c2g
  refine .inl ⟨7,w5,rfl,?_⟩;rw[served_fr,Frame.finish_at]
  k_c stepG_region_end
  k_c stepG_seq
  k_reg
  iterate 3
   (k_in
    refine goes_oper_k rfl rfl (by decide) (λK hK=>?_);go_simp;refine hK _ _ ⟨⟨rfl,λe he=>by (have hm:=mem_listed he;simp[go_sem, *] at hm)⟩,?_⟩;clear hK K)
  k_in
  have q2:=h₁ ⟨S.wb,8,none⟩ ⟨rfl,hz⟩;rw[hcont] at q2;refine goes_oper_k rfl rfl (by decide) (λK hK=>?_);go_simp;refine hK _ _ ⟨⟨rfl,λe he=>by (have hm:=mem_listed he;simp[go_sem, *] at hm;subst hm;exact evC_read _ ⟨_,rfl,rfl,hz⟩ (by simp;omega))⟩,?_⟩;clear hK K;refine Goes.stop λw₂ h₂=>⟨_,atIn_of (s:=Seat.one S.bk (.agg #[]) false Hm) rfl rfl (by decide) (λw=>?_) (λw=>?_) (hH _ (back50 _ rfl hoc))⟩
  .simp[go_sem,execOp,rcase,Act.eval,Seat.one]
  .simp[go_sem,execOp,Act.eval]
theorem ev_nil (w:World):(binOp .neq 20 .nilIface .nilIface).events Tryd.prog w #[]=#[]:=by show Sem.events Tryd.prog (do pure (Value.bool (!(<-Op.equalIn (9999+1) 20 .nilIface .nilIface)))) w #[]=#[];unfold Op.equalIn;simp[go_sem]
def ended (S:TS) (i:Nat) (t:Thr):TS:={ S with thr:=S.thr.set i { t with st:=3 } }
theorem end_ev (h:Rep z S v) (ht:S.thr[i]? = some t):Ev z S v (ended S i t) (v.setCell ⟨t.tb,3,none⟩ (I 3)):=by refine thr_ev h ht { t with st:=3 } rfl (λb hb=>Below.heap_setCell _ _ _ _ hb) ?_ (by simp[World.setCell]) rfl rfl;have:=heap_setCell_same (o:=3) (h.thr i t ht) (I 3);simpa using this
def GiveE (z:Nat->Option Nat) (cont:Addr->Value) (h bk:Nat) (F:World->Prop):Goroutine->World->Prop:=Lift.AtGive Tryd.prog (KC (ScZ z) cont) (StillC (ScZ z)) h bk (.agg #[]) none F
theorem ends_goes {Stop:Goroutine->World->Prop}{h:Nat}(bb:Nat) (T:Array Value) (todo:List Item) (hh:0<h)
 (hvw:Rel z v w) (hn:NoRow Ch v) (hm:Mem z S K v) (ht:S.thr[i]? = some t) (hbb:v.cell? ⟨bb,0,none⟩=some (Pt t.tb 0)) (hbo:¬ Own S K bb)
 (hstop:∀ g w',GiveE z cont h S.bk (Then z Ch S K v (ended S i t) K) g w'->Stop g w'):
 GoesI Tryd.prog (h==0) (DT (ScZ z) Ch) Stop (G { (baseD 124).at ⟨T,[dclo 154 #[Pt bb 0]]⟩ todo with mode:=.returning } [botP Tryd.prog]) w:=by
 have hi:i<S.thr.length:=(Qc ht).1;have hne:t.tb≠bb:=λe=>hbo (.inl ⟨i+5,by simp[blk,ht,e]⟩);have e0:w.cell? ⟨bb,0,none⟩=some (Pt t.tb 0):=by rw[hvw.cell?];exact hbb
 have c3:v.cell? ⟨t.tb,3,none⟩=some (I t.st):=(hm.rep.cell ht).2.2.2.1;have f3:v.frozen? ⟨t.tb,3,none⟩=false:=fzT_off hm.rep ht 3 (by omega);have HM:Hid (Mem z S K v):=⟨hm⟩
 have HE:Hid (Evo z S K v (ended S i t) K (v.setCell ⟨t.tb,3,none⟩ (I 3))):=⟨Evo.of_ev hm (end_ev hm.rep ht) rfl⟩
 clear hm;refine goesI_unwind_clo (dt_idle _ _) rfl Tryd.func154 (by kernel_rfl) rfl ?_;simp only[Tryd.ntmps154,Sz,Nat.reduceAdd,Nat.reduceSub,Sy];refine goesI_seq (dt_idle _ _) ?_;refine goesI_seq (dt_idle _ _) ?_;refine goesI_region (dt_idle _ _) ?_;simp only[Sz,Sr,Nat.reduceAdd];refine goesI_recover_none (dt_idle _ _) rfl rfl rfl rfl (λw=>by go_simp) (λw=>by simp[go_sem,execOp,resolve,invoke,builtin]) ?_
 (refine goesI_oper rfl rfl (by decide) (λd K hK=>?_)
  go_simp;refine hK _ _ ⟨dt_reads (λe he=>?_),GoesI.at ?_ d⟩
  .have hm:=mem_listed he
   simp[go_sem,ev_nil, *] at hm
  clear hK K)
 refine goesI_regionEnd (dt_idle _ _) ?_;refine goesI_cond (dt_idle _ _) (t:=false) rfl ?_;simp only[if_true,if_false,Qh];refine goesI_skip (dt_idle _ _) ?_;refine goesI_seq (dt_idle _ _) ?_;refine goesI_region (dt_idle _ _) ?_;simp only[Sz,Sr,Nat.reduceAdd];iterate 3
  (refine goesI_oper rfl rfl (by decide) (λd K hK=>?_)
   go_simp;refine hK _ _ ⟨dt_reads (λe he=>?_),GoesI.at ?_ d⟩
   .have hm:=mem_listed he
    simp[go_sem, *] at hm
    try exact ⟨_,_,hm⟩
   clear hK K)
 refine goesI_doZ (L:=LT) rfl rfl (by decide) (fineOp_ask callT extT (by kernel_rfl)) hvw hn (v':=v.setCell ⟨t.tb,3,none⟩ (I 3)) (by go_simp) rfl (λw2 hr2 hn2=>?_);clear e0;have ht2:(ended S i t).thr[i]? = some { t with st:=3 }:=by simp[ended,hi]
 have e0:w2.cell? ⟨bb,0,none⟩=some (Pt t.tb 0):=by rw[hr2.cell?,World.cell?_setCell_far _ _ _ _ hne];exact hbb
 have e1:w2.cell? ⟨t.tb,0,none⟩=some (Pt S.wb 0):=by rw[hr2.cell?];exact (HE.out.mem.rep.cell ht2).1
 have e8:w2.cell? ⟨S.wb,8,none⟩=some (.chan (some S.bk)):=by rw[hr2.cell?];exact HE.out.mem.rep.wcell.2.2.2.2.2.2.2.2
 clear ht2;refine goesI_regionEnd (dt_idle _ _) ?_;refine goesI_region (dt_idle _ _) ?_;simp only[Sz,Sr,Nat.reduceAdd];iterate 8
  (refine goesI_oper rfl rfl (by decide) (λd K hK=>?_)
   go_simp;refine hK _ _ ⟨dt_reads (λe he=>?_),GoesI.at ?_ d⟩
   .have hm:=mem_listed he
    simp[go_sem, *] at hm
    try exact ⟨_,_,hm⟩
   clear hK K)
 refine GoesI.stop λd=>hstop _ _ (give_at (z':=.tuple #[]) 5 0 rfl rfl (by decide) (λw=>by simp[execOp,scase,Act.eval]) (λw=>by simp[go_sem,execOp,Act.eval]) ?_ (Nat.zero_le _) (λB hB T hT=>⟨hh,?_⟩));exact ⟨_,hr2.re rfl rfl rfl rfl rfl rfl,hn2,HE.out⟩
 .rw[hT,served_fr,Frame.finish_at]
  refine QuitsD.ctl rfl (λw=>stepG_region_end) ?_;refine QuitsD.ctl rfl (λw=>stepG_end) ?_;refine QuitsD.leaveD rfl ?_ Tryd.func154 rfl rfl ?_
  .show (Act.put _ _ _).defers=[]
   unfold Act.put;split<;>rfl
  exact quits_last _ _ Tryd.func124 rfl
def run0:Code:=seq1 (Tryd.f124.body.getD .skip)
theorem fineRun0:fineCode Tryd.prog true LT run0:=fineCode_ask callT extT (by kernel_rfl)
def ops492:Array Oper:=opsOf (seq2 (seq2 (Tryd.f124.body.getD .skip)))
def lifeAct (tb bb:Nat) (F:Value):Act:=⟨#[Pt tb 0,F,Pt bb 0,undef,.func (.func 154) #[] #[Pt bb 0],F,Pt tb 0,undef],[dclo 154 #[Pt bb 0]]⟩
def lifeFr (tb bb:Nat) (F:Value):Frame:=(baseD 124).at (lifeAct tb bb F) [.inRegion ops492 [2]]
theorem run_goes {z : Nat → Option Nat} {Ch : Nat → Prop} {Stop : Goroutine → World → Prop} {main : Bool} (tb : Nat) (f : FuncId) (fn : Func) (cap : Array Value) (hf : Tryd.prog.funcs[f]? = some fn) (hname : (fn.name == "runtime.NumGoroutine") = false) (cf : Code) (hcf : fn.body = some cf)
 (hvw:Rel z v w) (hn:NoRow Ch v)
 (hk:∀ v' w',Rel z v' w'->NoRow Ch v'->Grows v v'->v'.heap[v.heap.size]? = some (.cells #[Pt tb 0] 48 (0,0))->v'.heap.size=v.heap.size+1 ->
   GoesI Tryd.prog main (DT (ScZ z) Ch) Stop (G ((base f).at { tmps:=(#[Pt tb 0]++cap)++Array.replicate (fn.ntmps - (#[Pt tb 0]++cap).size) undef,defers:=[] } [.code cf]) [lifeFr tb v.heap.size (.func (.func f) #[] cap),botP Tryd.prog]) w')
 (code:Code) (hc:Tryd.f124.body=some code):
 GoesI Tryd.prog main (DT (ScZ z) Ch) Stop (G ((baseD 124).at { tmps:=#[Pt tb 0,.func (.func f) #[] cap]++Array.replicate 6 undef,defers:=[] } [.code code]) [botP Tryd.prog]) w:=by
 have h1 : ¬ fn.name = "runtime.NumGoroutine" := by simpa using hname
 have hw0:code=.seq run0 (seq2 (Tryd.f124.body.getD .skip)):=by rw[hc];obtain rfl:=Qd hc;rfl
 subst hw0;clear hc;refine goesI_seq (dt_idle _ _) ?_;refine goesI_plain (z:=z) (wr:=true) (L:=LT) (I:=NoRow Ch) hE fineT noRow_keeps (λv v' w w' es hi hr ho he=>dt_of_z v v' w w' es hi hr ho he) hvw fineRun0 rfl (by simp[baseD]) hn
  (Q:=λa w'=>a={ tmps:=#[Pt tb 0,.func (.func f) #[] cap,Pt v.heap.size 0]++Array.replicate 5 undef,defers:=[] } ∧
    w'.heap=v.heap.push (.cells #[Pt tb 0] 48)∧w'.os=v.os∧w'.output=v.output) (λτ=>?_) ?_
 .show Code.wp Tryd.prog (seq1 (Tryd.f124.body.getD .skip)) _ _ _
  unfold Tryd.f124 seq1;simp only[Qa,Sy];go_wp2_with fail;exact ⟨rfl,rfl,rfl,rfl⟩
 rintro a' v' w' ⟨rfl,hv1,hv2,hv3⟩ hr' hn' -;have hsz:v'.heap.size=v.heap.size+1:=by rw[hv1];simp
 have hg:Grows v v':=⟨by omega,λb hb=>by rw[hv1,Qg,if_neg (by omega)],hv2,hv3⟩
 have hbox:v'.heap[v.heap.size]? = some (.cells #[Pt tb 0] 48):=by rw[hv1];exact Qo
 have e0:w'.cell? ⟨v.heap.size,0,none⟩=some (Pt tb 0):=by rw[hr'.cell?];simp[World.cell?,hbox]
 have HK:Hid (GoesI Tryd.prog main (DT (ScZ z) Ch) Stop (G ((base f).at { tmps:=(#[Pt tb 0]++cap)++Array.replicate (fn.ntmps - (#[Pt tb 0]++cap).size) undef,defers:=[] } [.code cf]) [lifeFr tb v.heap.size (.func (.func f) #[] cap),botP Tryd.prog]) w'):=⟨hk v' w' hr' hn' hg hbox hsz⟩
 clear hk hv1 hv2 hv3 hsz hg hbox hn' hr' hvw hn;generalize v.heap.size=N at e0 HK ⊢;simp only[Sy];show GoesI Tryd.prog main (DT (ScZ z) Ch) Stop (G ((baseD 124).at _ [.code (seq2 (Tryd.f124.body.getD .skip))]) _) w';unfold Tryd.f124 seq2;simp only[Qa];refine goesI_seq (dt_idle _ _) ?_;refine goesI_region (dt_idle _ _) ?_;simp only[Sz,Sr,Nat.reduceAdd]
 (refine goesI_oper rfl rfl (by decide) (λd K hK=>?_)
  go_simp;refine hK _ _ ⟨dt_reads (λe he=>?_),GoesI.at ?_ d⟩
  .have hm:=mem_listed he
   simp[go_sem, *] at hm
  clear hK K)
 refine goesI_deferV (d:=dclo 154 #[Pt N 0]) (dt_idle _ _) rfl rfl (by decide) (λw=>by simp[execOp,resolve,Deferred.ofValue,Act.eval,dclo]) (λw=>by simp[go_sem,execOp,resolve,Deferred.ofValue,Act.eval]) ?_;refine goesI_regionEnd (dt_idle _ _) ?_;refine goesI_region (dt_idle _ _) ?_;simp only[Sz,Sr,Nat.reduceAdd];iterate 2
  (refine goesI_oper rfl rfl (by decide) (λd K hK=>?_)
   go_simp;refine hK _ _ ⟨dt_reads (λe he=>?_),GoesI.at ?_ d⟩
   .have hm:=mem_listed he
    simp[go_sem, *] at hm
    try exact ⟨_,_,hm⟩
   clear hK K)
 refine goesI_enter (f:=f) (args:=#[Pt tb 0]++cap) rfl rfl (by decide) (λw=>?_) (λw=>?_) (dt_idle _ _) hf hcf ?_;simp[execOp,resolve,Deferred.ofValue,Act.eval,invoke,callFunc,hf,h1,hcf]
 .refine listed_none ?_
  simp[go_sem,execOp,resolve,Deferred.ofValue,Act.eval,invoke,callFunc,hf,h1,hcf]
 exact HK.out
theorem dst492:ops492[2]? = some (ops492.getD 2 default):=by kernel_rfl
theorem life_tail {Stop:Goroutine->World->Prop}{h:Nat}(bb:Nat) (F:Value) (hh:0<h)
 (hvw:Rel z v w) (hn:NoRow Ch v) (hm:Mem z S K v) (ht:S.thr[i]? = some t) (hbb:v.cell? ⟨bb,0,none⟩=some (Pt t.tb 0)) (hbo:¬ Own S K bb)
 (hstop:∀ g w',GiveE z cont h S.bk (Then z Ch S K v (ended S i t) K) g w'->Stop g w'):
 GoesI Tryd.prog (h==0) (DT (ScZ z) Ch) Stop (G ((baseD 124).at ((lifeAct t.tb bb F).put (ops492.getD 2 default).dst (.tuple #[])) [.inRegion ops492 []]) [botP Tryd.prog]) w:=by
 refine goesI_regionEnd (dt_idle _ _) ?_;refine goesI_end (dt_idle _ _) ?_;have e:(ops492.getD 2 default).dst=some 7:=by kernel_rfl
 rw[e];exact ends_goes bb _ [] hh hvw hn hm ht hbb hbo hstop
end Go.Proofs.YtfjjoohflcchnaaDoor
