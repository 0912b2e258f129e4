/- CounterLinear, part 6 of 24: None, Until, Carry, Hire, Hire2, Hire3, Main35, Alone, Run20, Run20b, Cell24, Check. -/
import Derived.Test.YtfjjoohflcchnaaDoorCounterLinear01
import Derived.Test.YtfjjoohflcchnaaDoorCounterLinear04
import Derived.Test.YtfjjoohflcchnaaDoorCounterLinear05
import Derived.Conc.SmallLaws
import Derived.Laws.MakeOwn
import Derived.Deep.OwnRows
set_option linter.unusedSimpArgs false
set_option linter.unusedVariables false
set_option maxHeartbeats 4000000
set_option maxRecDepth 100000
noncomputable section
namespace Go.Proofs.YtfjjoohflcchnaaDoor
open Go Go.Lift Go.Conc Go.RowKit
variable {z:Nat->Option Nat} {S:TS} {v w:World} {Ch:Nat->Prop} {Stop:Goroutine->World->Prop} {main:Bool}
theorem noted_ev {v':World}{news:List Value}(h:Rep z S v) (hN:Noted S.wb S.tv S.n S.base S.tr news v v'):∃ tv',Ev z S v { S with tv:=tv',n:=S.n+1,tr:=S.tr++news } v':=by
 obtain ⟨g,cap,hw,hown,hat,hfr⟩:=hN;have hst:∀ k b,blk S k=some b->k≠0->k≠3->v'.heap[b]? = v.heap[b]?:=λk b hk h0 h3=>hfr.block b (h.lt hk) (λhS=>by rcases hS with rfl|hS;exact h0 (h.apart k 0 _ hk rfl);exact h3 (h.apart k 3 b hk hS.symm))
 have hnew:∀ k b,blk { S with tv:=.slice (some ⟨g,0,none⟩) (S.n+1) cap,n:=S.n+1,tr:=S.tr++news } k=some b->(blk S k=some b)∨(k=3∧b=g):=λk b hk=>by
  match k,hk with
  |0,hk=>exact .inl hk
  |1,hk=>exact .inl hk
  |2,hk=>exact .inl hk
  |3,hk=>cases hk;exact .inr ⟨rfl,rfl⟩
  |4,hk=>exact .inl hk
  |k+5,hk=>exact .inl hk
 refine ⟨.slice (some ⟨g,0,none⟩) (S.n+1) cap,⟨?_,λj t' ht'=>?_,hown,?_,?_,?_,Qk h.bs hfr.size,λj k b hj hk=>?_,h.kept⟩,hfr.mono (λx _ hx=>?_),λb ⟨k,hk⟩=>?_⟩
 .have:=hw _ _ _ h.wor
  simpa using this
 .rw[hst (j+5) t'.tb (by simp[blk,ht']) (by omega) (by omega)]
  exact h.thr j t' ht'
 exact own_stay (λb hb=>hst 1 b hb (by omega) (by omega)) h.chg;exact own_stay (λb hb=>hst 2 b hb (by omega) (by omega)) h.ths;exact own_stay (λb hb=>hst 4 b hb (by omega) (by omega)) h.sch
 .rcases hnew j b hj with e1|⟨rfl,rfl⟩<;>rcases hnew k b hk with e2|⟨rfl,e2⟩
  exact h.apart j k b e1 e2
  .subst e2
   rcases hat with ha|ha;exact h.apart j 3 b e1 ha;have:=h.lt e1;omega
  .rcases hat with ha|ha
   exact h.apart 3 k b ha e2;have:=h.lt e2;omega
  rfl
 .rcases hx with rfl|hx
  exact ⟨0,rfl⟩;exact ⟨3,hx.symm⟩
 .rcases hnew k b hk with e1|⟨_,rfl⟩
  exact .inl ⟨k,e1⟩
  .rcases hat with ha|ha
   exact .inl ⟨3,ha⟩;exact .inr ha
def stuckS (S:TS) (tv:Value):TS:={ S with stk:=true,tv:=tv,n:=S.n+1,tr:=S.tr++[I (-1),I (-1),I 7,I 0,I 0] }
theorem news5n (w:World) (a b c d e:Int) (t:TypeId) {n:Nat}(hn:n=w.heap.size):∀ j u,[I a,I b,I c,I d,I e][j]? = some u->(w.alloc (.cells #[I a,I b,I c,I d,I e] t)).cell? ((⟨n,0,none⟩:Addr).add j)=some u:=by subst hn;exact news5 w a b c d e t
theorem end_wp (p:Option Addr) (cap:Nat) (u6 u8 u9 u10 u11 u12 u13 u14 u15 u16 u17 u18 u19 u20 u21 u22 u23 u24 u25 u26 u27 u28 u29 u30 u31:Value):
 c510.wp Tryd.prog (λe a w'=>e=.ret∧∃ x,(results Tryd.f125 a.tmps).run Tryd.prog w'=.ok x w'∧(x=.bool false∧w'=v)) { tmps:=#[Pt S.wb 0,undef,.bool false,.slice p 0 cap,.bool false,undef,u6,undef,u8,u9,u10,u11,u12,u13,u14,u15,u16,u17,u18,u19,u20,u21,u22,u23,u24,u25,u26,u27,u28,u29,u30,u31]++Array.replicate 41 undef,defers:=[] } v:=by
 show Code.wp Tryd.prog c510 _ _ _;unfold c510 Tryd.f125 seq1 seq2;simp only[Qa,Sy];go_wp2_with fail;exact results_tmp (t:=2) rfl _ _ _
theorem stuck_wp (h:Rep z S v) (hn:(S.n+1)*40<=140737488355328) (p:Option Addr) (cap:Nat) (u6 u8 u9 u10 u11 u12 u13 u14 u15 u16 u17 u18 u19 u20 u21 u22 u23 u24 u25 u26 u27 u28 u29 u30 u31:Value):
 c510.wp Tryd.prog (λe a w'=>e=.ret∧∃ x,(results Tryd.f125 a.tmps).run Tryd.prog w'=.ok x w'∧(x=.bool true∧∃ tv,Ev z S v (stuckS S tv) w')) { tmps:=#[Pt S.wb 0,undef,.bool false,.slice p 0 cap,.bool true,undef,u6,undef,u8,u9,u10,u11,u12,u13,u14,u15,u16,u17,u18,u19,u20,u21,u22,u23,u24,u25,u26,u27,u28,u29,u30,u31]++Array.replicate 41 undef,defers:=[] } v:=by
 have c5:=h.wcell.2.2.2.2.2.1;have c6:=h.wcell.2.2.2.2.2.2.1;have f5:=fz_off h 5 (by omega);have f6:=fz_off h 6 (by omega);have h1:=world_set h S.us S.la true 6 (.bool true) (by simp);have HV:Hid (Ev z S v { S with us:=S.us,la:=S.la,stk:=true } (v.setCell ⟨S.wb,6,none⟩ (.bool true))):=⟨h1⟩
 have K5:Hid ((v.setCell ⟨S.wb,6,none⟩ (.bool true)).cell? ⟨S.wb,5,none⟩=some S.tv∧(v.setCell ⟨S.wb,6,none⟩ (.bool true)).frozen? ⟨S.wb,5,none⟩=false):=⟨⟨h1.rep.wcell.2.2.2.2.2.1,fz_off h1.rep 5 (by omega)⟩⟩
 have n1:S.tv.ownBlock≠some S.wb:=λe=>by have:=h.apart 3 0 S.wb e rfl;omega
 have q5:S.wb<v.heap.size:=World.block_lt_of_cell? _ _ c5;have qb:S.base<=v.heap.size:=h.bs;have HO:Hid ((v.setCell ⟨S.wb,6,none⟩ (.bool true)).ownsRow S.base 60 5 S.tv S.n S.tr):=⟨h1.rep.own⟩
 obtain ⟨tp,tc,htv⟩:=own_form h.own;rw[htv] at c5;have HO':Hid ((v.setCell ⟨S.wb,6,none⟩ (.bool true)).ownsRow S.base 60 5 (.slice tp S.n tc) S.n S.tr):=⟨by rw[<-htv];exact HO.out⟩
 have n1':(Value.slice tp S.n tc).ownBlock≠some S.wb:=by rw[<-htv];exact n1
 have HTV:Hid (S.tv=.slice tp S.n tc):=⟨htv⟩
 clear htv;obtain ⟨j0,hj,hj0,hj1,hj2⟩:=info_parts info34;have hne:S.wb≠v.heap.size:=by omega
 have hne':v.heap.size≠S.wb:=by omega
 clear h h1;show Code.wp Tryd.prog c510 _ _ _;unfold c510 Tryd.f125 seq1 seq2;simp only[Qa,Sy]
 go_wp2_with (first
  |(refine wpList_append_lies _ rfl (.tmp 43) (.tmp 45) 41 rfl S.base 60 j0 _ 5 40 Tryd.underlying41 hj hj0 hj1 hj2 rfl (by decide) (.slice tp S.n tc) S.n S.tr rfl (own_later (below_alloc (Below.refl _ _) _) HO'.out) ⟨_,0,none⟩ 1 1 [I (-1),I (-1),I 7,I 0,I 0] rfl rfl (news5n _ _ _ _ _ _ _ (by simp[World.setCell])) (one5 _ _ _ _ _) (by decide) (by unfold maxLen;omega) (by omega) (by simp;omega) _ rfl ?_
    intro g cpg w6 hown6 hgrow6 hat6 hlt6;obtain ⟨_,_,k5,k6⟩:=keep4g (keep4 ⟨K5.out.1,K5.out.1,K5.out.1,K5.out.2⟩ (below_alloc (Below.refl _ _) _)) hgrow6 n1' n1' n1'))
 refine ⟨_,results_tmp (t:=2) rfl _ _ _,rfl,?_⟩;have hN:Noted S.wb S.tv S.n S.base S.tr [I (-1),I (-1),I 7,I 0,I 0] (v.setCell ⟨S.wb,6,none⟩ (.bool true)) (w6.setCell ⟨S.wb,5,none⟩ (.slice (some ⟨g,0,none⟩) (S.n+1) cpg)):=by rw[HTV.out];exact noted_of (below_alloc (Below.refl _ _) _) (by simpa [World.setCell] using q5) hgrow6 hown6 hat6 n1'
 obtain ⟨tv,hev⟩:=noted_ev HV.out.rep hN;exact ⟨tv,HV.out.trans hev⟩
def blockC:Code->Code
 |.block _ c=>c
 |c=>c
def loopC:Code->Code
 |.loop c=>c
 |c=>c
def L34:Code:=loopC (blockC (seq2 (seq2 (Tryd.f94.body.getD .skip))))
def cFr (tb:Nat) (csl F asl:Value) (n ii:Nat) (sk:Bool) (u:Nat->Value):Frame :=
 (base 94).at ⟨#[Pt tb 0,csl,F,asl,undef,undef,undef,undef,.bool sk,u 9,u 10,csl,I n,I ii,u 14,u 15,u 16,u 17,u 18,u 19,u 20,u 21,u 22,u 23]++#[u 24,u 25,u 26,u 27,u 28,u 29,u 30,u 31,u 32,u 33,u 34,u 35,u 36,u 37,u 38,u 39,u 40,u 41,u 42,u 43,u 44,u 45,u 46,u 47],[]⟩ [.code L34,.inLoop L34,.inBlock 0]
theorem carry_in {tb:Nat}(F asl:Value) (p:Option Addr) (n cap:Nat) (cs:List Frame)
 (hk:∀ u,GoesI Tryd.prog main (DT (ScZ z) Ch) Stop (G (cFr tb (.slice p n cap) F asl n 0 false u) cs) w) (code:Code) (hc:Tryd.f94.body=some code):
 GoesI Tryd.prog main (DT (ScZ z) Ch) Stop (G ((base 94).at { tmps:=#[Pt tb 0,.slice p n cap,F,asl]++Array.replicate 44 undef,defers:=[] } [.code code]) cs) w:=by
 obtain rfl:=Qd hc;clear hc;simp only[Sy];refine goesI_seq (dt_idle _ _) ?_;refine goesI_region (dt_idle _ _) ?_;simp only[Sz,Sr,Nat.reduceAdd]
 (refine goesI_oper rfl rfl (by decide) (λd K hK=>?_)
  go_simp;refine hK _ _ ⟨dt_reads (λe he=>?_),GoesI.at ?_ d⟩
  .have hm:=mem_listed he
   simp[go_sem, *] at hm
  clear hK K)
 refine goesI_regionEnd (dt_idle _ _) ?_;refine goesI_seq (dt_idle _ _) ?_;refine goesI_region (dt_idle _ _) ?_;simp only[Sz,Sr,Nat.reduceAdd];iterate 3
  (refine goesI_oper rfl rfl (by decide) (λd K hK=>?_)
   go_simp;refine hK _ _ ⟨dt_reads (λe he=>?_),GoesI.at ?_ d⟩
   .have hm:=mem_listed he
    simp[go_sem, *] at hm
   clear hK K)
 refine goesI_regionEnd (dt_idle _ _) ?_;refine goesI_block (dt_idle _ _) ?_;refine goesI_loop (dt_idle _ _) ?_;have hk:=hk (λ_=>undef);unfold cFr L34 Tryd.f94 seq2 blockC loopC at hk;simp only[Qa,List.append_toArray,List.cons_append,List.nil_append] at hk;exact hk
theorem carry_end {tb:Nat}(csl F asl:Value) (n:Nat) (sk:Bool) (u:Nat->Value) (cs:List Frame) {bc:Frame}{ac:Act}{ops:Array Oper}{q:Nat}{rest:List Nat}{oc:Oper}{k:List Item}(hoc:ops[q]? = some oc)
 (hk:GoesI Tryd.prog main (DT (ScZ z) Ch) Stop (G (bc.at (ac.put oc.dst (.tuple #[])) (.inRegion ops rest :: k)) cs) w):
 GoesI Tryd.prog main (DT (ScZ z) Ch) Stop (G (cFr tb csl F asl n n sk u) (bc.at ac (.inRegion ops (q :: rest) :: k) :: cs)) w:=by
 unfold cFr L34 Tryd.f94 seq2 blockC loopC;simp only[Qa,List.append_toArray,List.cons_append,List.nil_append];refine goesI_seq (dt_idle _ _) ?_;refine goesI_region (dt_idle _ _) ?_;simp only[Sz,Sr,Nat.reduceAdd]
 (refine goesI_oper rfl rfl (by decide) (λd K hK=>?_)
  go_simp;refine hK _ _ ⟨dt_reads (λe he=>?_),GoesI.at ?_ d⟩
  .have hm:=mem_listed he
   simp[go_sem, *] at hm
  clear hK K)
 refine goesI_regionEnd (dt_idle _ _) ?_;refine goesI_seq (dt_idle _ _) ?_;refine goesI_cond (dt_idle _ _) (t:=false) (by simp[Act.eval]) ?_;simp only[if_true,if_false,Qh];refine goesI_exit (dt_idle _ _) rfl ?_;refine goesI_end (dt_idle _ _) ?_;exact goesI_leave (b:=base 94) (fn:=Tryd.f94) rfl rfl Tryd.func94 (λw=>results_none rfl _ _ _) (λw=>by simp[results,go_sem]) hoc (dt_idle _ _) hk
theorem und55:∃ dir e i,Tryd.prog.underlying 94=some (.chan dir e)∧Tryd.prog.info? e=some i∧i.bytes=0:=by
 have h:((Tryd.prog.underlying 94).map λt=>match t with|.chan d e=>((Tryd.prog.info? e).map λi=>i.bytes)==some 0|_=>false)=some true:=by kernel_rfl
 cases hu:Tryd.prog.underlying 94 with
 |none=>rw[hu] at h;cases h
 |some t =>
  rw[hu] at h;cases t with
  |chan d e =>simp only[Option.map_some,Option.some.injEq,beq_iff_eq] at h;obtain ⟨i,hi,hb⟩:=Option.map_eq_some_iff.1 h;exact ⟨d,e,i,rfl,hi,hb⟩
  |_=>cases h
theorem run_mk (v:World):(Instr.makeChan 94 (.int .i64 0)).run Tryd.prog v=.ok (.chan (some v.heap.size)) (v.alloc (.chan 0 #[] false 0 0 false)):=by obtain ⟨d,e,i,h1,h2,h3⟩:=und55;exact run_makeChan h1 h2 .i64 0 (by decide) (by rw[h3];decide)
def B35:Code:=Tryd.f95.body.getD .skip
def HL:Code:=loopC (blockC (seq2 (seq1 (seq2 (seq2 (seq2 B35))))))
def D35:Code:=seq2 (seq2 (seq2 (seq2 B35)))
def TL:Code:=loopC (blockC D35)
def HB:Code:=blockC (seq1 (seq2 (seq2 HL)))
def R18:Code:=seq2 (seq2 (seq2 HL))
def hFr (wb:Nat) (bsl:Value) (n ii:Nat) (u:Nat->Value):Frame :=
 (base 95).at ⟨#[Pt wb 0,bsl,undef,undef,u 4,u 5,u 6,u 7,u 8,u 9,u 10,u 11,u 12,u 13,u 14,u 15,u 16,u 17,u 18,u 19,u 20,u 21,u 22,u 23,u 24,u 25,u 26,u 27,u 28,u 29,bsl]++#[I n,I ii,u 33,u 34,u 35,u 36,u 37,u 38,u 39,u 40,u 41,u 42,u 43,u 44,u 45,u 46,u 47,u 48,u 49,u 50,u 51,u 52,u 53,u 54,u 55,u 56,u 57,u 58,u 59,u 60,u 61],[]⟩ [.code HL,.inLoop HL,.inBlock 2,.code D35]
def ops3514:Array Oper:=opsOf (seq1 (seq2 HB))
def R15:Code:=seq2 (seq2 HB)
def bFr1 (wb:Nat) (bsl F:Value) (n ii bb gc:Nat) (u:Nat->Value):Frame :=
 (base 95).at ⟨#[Pt wb 0,bsl,undef,undef,u 4,u 5,u 6,I ii,F,u 9,u 10,u 11,u 12,u 13,u 14,u 15,u 16,u 17,u 18,u 19,u 20,u 21,u 22,u 23,u 24,u 25,u 26,u 27,u 28,u 29,bsl]++#[I n,I ii,.bool true,I ii,Pt bb ii,F,Pt wb 0,I ii,.chan (some gc),.agg (trow wb ii gc 0 0 0 0),u 41,u 42,u 43,u 44,u 45,u 46,u 47,u 48,u 49,u 50,u 51,u 52,u 53,u 54,u 55,u 56,u 57,u 58,u 59,u 60,u 61],[]⟩ [.inRegion ops3514 [4,5],.code R15,.inBlock 3,.code R18,.inLoop HL,.inBlock 2,.code D35]
def bFr2 (wb:Nat) (bsl F:Value) (n ii bb gc tb:Nat) (u:Nat->Value):Frame :=
 (base 95).at ⟨#[Pt wb 0,bsl,undef,undef,u 4,u 5,u 6,I ii,F,u 9,u 10,u 11,u 12,u 13,u 14,u 15,u 16,u 17,u 18,u 19,u 20,u 21,u 22,u 23,u 24,u 25,u 26,u 27,u 28,u 29,bsl]++#[I n,I ii,.bool true,I ii,Pt bb ii,F,Pt wb 0,I ii,.chan (some gc),.agg (trow wb ii gc 0 0 0 0),Pt tb 0,u 42,u 43,u 44,u 45,u 46,u 47,u 48,u 49,u 50,u 51,u 52,u 53,u 54,u 55,u 56,u 57,u 58,u 59,u 60,u 61],[]⟩ [.inRegion ops3514 [5],.code R15,.inBlock 3,.code R18,.inLoop HL,.inBlock 2,.code D35]
theorem hire_a {wb:Nat}(F:Value) (bb n cap ii:Nat) (u:Nat->Value) (cs:List Frame) (hi:ii<n)
 (h1:v.cell? ⟨bb,ii,none⟩=some F) (hvw:Rel z v w) (hn:NoRow Ch v)
 (hk:∀ v' w' u',Rel z v' w'->NoRow Ch v'->v'={ v with heap:=v.heap.push (.chan 0 #[] false 0 0 false) }->GoesI Tryd.prog main (DT (ScZ z) Ch) Stop (G (bFr1 wb (.slice (some ⟨bb,0,none⟩) n cap) F n ii bb v.heap.size u') cs) w'):
 GoesI Tryd.prog main (DT (ScZ z) Ch) Stop (G (hFr wb (.slice (some ⟨bb,0,none⟩) n cap) n ii u) cs) w:=by
 have hi':(ii:Int)<(n:Int):=by omega
 have e0:w.cell? ⟨bb,ii,none⟩=some F:=by rw[hvw.cell?];exact h1
 have hk:=hk { v with heap:=v.heap.push (.chan 0 #[] false 0 0 false) };unfold hFr HL B35 Tryd.f95 seq2 seq1 blockC loopC;simp only[Qa,List.append_toArray,List.cons_append,List.nil_append];refine goesI_seq (dt_idle _ _) ?_;refine goesI_region (dt_idle _ _) ?_;simp only[Sz,Sr,Nat.reduceAdd];iterate 1
  (refine goesI_oper rfl rfl (by decide) (λd K hK=>?_)
   go_simp;refine hK _ _ ⟨dt_reads (λe he=>?_),GoesI.at ?_ d⟩
   .have hm:=mem_listed he
    simp[go_sem, *] at hm
    try exact ⟨_,_,hm⟩
   clear hK K)
 refine goesI_regionEnd (dt_idle _ _) ?_;refine goesI_seq (dt_idle _ _) ?_;refine goesI_cond (dt_idle _ _) (t:=true) rfl ?_;simp only[if_true,if_false,Qh];refine goesI_skip (dt_idle _ _) ?_;refine goesI_seq (dt_idle _ _) ?_;refine goesI_block (dt_idle _ _) ?_;refine goesI_seq (dt_idle _ _) ?_;refine goesI_region (dt_idle _ _) ?_;simp only[Sz,Sr,Nat.reduceAdd];iterate 5
  (refine goesI_oper rfl rfl (by decide) (λd K hK=>?_)
   go_simp;refine hK _ _ ⟨dt_reads (λe he=>?_),GoesI.at ?_ d⟩
   .have hm:=mem_listed he
    simp[go_sem, *] at hm
    try exact ⟨_,_,hm⟩
   clear hK K)
 refine goesI_regionEnd (dt_idle _ _) ?_;refine goesI_seq (dt_idle _ _) ?_;refine goesI_region (dt_idle _ _) ?_;simp only[Sz,Sr,Nat.reduceAdd];iterate 2
  (refine goesI_oper rfl rfl (by decide) (λd K hK=>?_)
   go_simp;refine hK _ _ ⟨dt_reads (λe he=>?_),GoesI.at ?_ d⟩
   .have hm:=mem_listed he
    simp[go_sem, *] at hm
    try exact ⟨_,_,hm⟩
   clear hK K)
 clear e0 hi';refine goesI_opZ (L:=LT) rfl rfl (by decide) (fineOp_ask callT extT (by kernel_rfl)) hvw hn (v':={ v with heap:=v.heap.push (.chan 0 #[] false 0 0 false) }) (x:=.chan (some v.heap.size)) (by go_simp;rw[run_mk];rfl) rfl (λw2 hr2 hn2=>?_);iterate 1
  (refine goesI_oper rfl rfl (by decide) (λd K hK=>?_)
   go_simp;refine hK _ _ ⟨dt_reads (λe he=>?_),GoesI.at ?_ d⟩
   .have hm:=mem_listed he
    simp[go_sem, *] at hm
    try exact ⟨_,_,hm⟩
   clear hK K)
 have hk:=hk w2 (λm=>match m with|7=>I ii|8=>F|m=>u m) hr2 hn2 rfl;unfold bFr1 R15 R18 HB ops3514 D35 HL B35 Tryd.f95 seq2 seq1 blockC loopC opsOf at hk;simp only[Qa,List.append_toArray,List.cons_append,List.nil_append] at hk;exact hk
def r15:Code:=seq1 R15
def R1617:Code:=seq2 R15
theorem fineR15:fineCode Tryd.prog true LT r15:=fineCode_ask callT extT (by kernel_rfl)
def Threaded (wb:Nat) (tv:Value) (n base:Nat) (xs:List Value) (x:Value) (w w':World):Prop :=
 ∃ g cap,(∀ c t f,w.heap[wb]? = some (.cells c t f)->w'.heap[wb]? = some (.cells (c.setIfInBounds 4 (.slice (some ⟨g,0,none⟩) (n+1) cap)) t f)) ∧
   w'.ownsRow base 48 1 (.slice (some ⟨g,0,none⟩) (n+1) cap) (n+1) (xs++[x])∧(tv.ownBlock=some g∨w.heap.size<=g)∧Fr (λb=>b=wb∨some b=tv.ownBlock) w w'
theorem threaded_of {wb:Nat}{tv x:Value}{n base:Nat}{xs:List Value}{u w6:World}{g cap:Nat}(hb:Below w.heap.size w u) (hw:wb<w.heap.size) (hg:u.grownBy w6 tv.ownBlock) (hown:w6.ownsRow base 48 1 (.slice (some ⟨g,0,none⟩) (n+1) cap) (n+1) (xs++[x]))
 (hat:tv.ownBlock=some g∨g=u.heap.size) (hne:tv.ownBlock≠some wb):Threaded wb tv n base xs x w (w6.setCell ⟨wb,4,none⟩ (.slice (some ⟨g,0,none⟩) (n+1) cap)):=by
 have hgw:g≠wb:=by rcases hat with h|h;exact λe=>hne (by rw[h,e]);have:=hb.size;omega
 have e6:w6.heap[wb]? = w.heap[wb]?:=(hg.block wb (Qp hw hb.size) (Ne.symm hne)).trans (hb.block wb hw);refine ⟨g,cap,λc t f h=>heap_setCell_same (by rw[e6];exact h) _,own_set hown _ _ (λe=>hgw (Qd e)),?_,?_⟩
 .rcases hat with h|h
  exact .inl h;exact .inr (by have:=hb.size;omega)
 .refine ⟨by show w6.os=_;rw[hg.os,hb.os],by show w6.output=_;rw[hg.output,hb.output],?_,λb hlt hs=>?_⟩
  .have:=hb.size
   have:=hg.size;simp only[World.setCell,Array.size_modify];omega
  rw[Below.heap_setCell _ _ _ _ (λe=>hs (.inl e)),hg.block b (Qp hlt hb.size) (λe=>hs (.inr e)),hb.block b hlt]
theorem keep2g {u u':World}{row:Option Nat}{a:Addr}{x:Value}(h:u.cell? a=some x∧u.frozen? a=false) (hg:u.grownBy u' row) (hr:row≠some a.block):u'.cell? a=some x∧u'.frozen? a=false:=by obtain ⟨_,_,h3,h4⟩:=keep4g (a1:=a) (a2:=a) ⟨h.1,h.1,h.1,h.2⟩ hg hr hr hr;exact ⟨h3,h4⟩
theorem r15_wp (wb n ii bb gc tb:Nat) (bsl F tv:Value) (k base:Nat) (xs:List Value) (u:Nat->Value) (h4:v.cell? ⟨wb,4,none⟩=some tv) (hf:v.frozen? ⟨wb,4,none⟩=false) (hown:v.ownsRow base 48 1 tv k xs) (hne:tv.ownBlock≠some wb) (hk:(k+1)*8<=140737488355328) (hbase:base<=v.heap.size):
 r15.wp Tryd.prog (λe a w'=>e=.normal∧(∃ u:Nat->Value,a={ tmps:=#[Pt wb 0,bsl,undef,undef,u 4,u 5,u 6,I ii,F,Pt tb 0,u 10,u 11,u 12,u 13,u 14,u 15,u 16,u 17,u 18,u 19,u 20,u 21,u 22,u 23,u 24,u 25,u 26,u 27,u 28,u 29,bsl]++#[I n,I ii,.bool true,I ii,Pt bb ii,F,Pt wb 0,I ii,.chan (some gc),.agg (trow wb ii gc 0 0 0 0),Pt tb 0,u 42,u 43,u 44,u 45,u 46,u 47,u 48,u 49,u 50,u 51,u 52,u 53,u 54,u 55,u 56,u 57,u 58,u 59,u 60,u 61],defers:=[] })∧Threaded wb tv k base xs (Pt tb 0) v w') { tmps:=#[Pt wb 0,bsl,undef,undef,u 4,u 5,u 6,I ii,F,Pt tb 0,u 10,u 11,u 12,u 13,u 14,u 15,u 16,u 17,u 18,u 19,u 20,u 21,u 22,u 23,u 24,u 25,u 26,u 27,u 28,u 29,bsl]++#[I n,I ii,.bool true,I ii,Pt bb ii,F,Pt wb 0,I ii,.chan (some gc),.agg (trow wb ii gc 0 0 0 0),Pt tb 0,u 42,u 43,u 44,u 45,u 46,u 47,u 48,u 49,u 50,u 51,u 52,u 53,u 54,u 55,u 56,u 57,u 58,u 59,u 60,u 61],defers:=[] } v:=by
 have q4:wb<v.heap.size:=World.block_lt_of_cell? _ _ h4;obtain ⟨tp,tc,htv⟩:=own_form hown;have HO:Hid (v.ownsRow base 48 1 (.slice tp k tc) k xs):=⟨by rw[<-htv];exact hown⟩
 have n1:(Value.slice tp k tc).ownBlock≠some wb:=by rw[<-htv];exact hne
 have HT:Hid (tv=.slice tp k tc):=⟨htv⟩
 rw[htv] at h4;clear hown htv hne;obtain ⟨j0,hj,hj0,hj1,hj2⟩:=info_parts info46;have hne:wb≠v.heap.size:=by omega
 have hne':v.heap.size≠wb:=by omega
 have K4:Hid (v.cell? ⟨wb,4,none⟩=some (.slice tp k tc)∧v.frozen? ⟨wb,4,none⟩=false):=⟨⟨h4,hf⟩⟩
 show Code.wp Tryd.prog r15 _ _ _;unfold r15 R15 HB HL B35 Tryd.f95 seq1 seq2 blockC loopC;simp only[Qa,List.append_toArray,List.cons_append,List.nil_append]
 go_wp2_with (first
  |(refine wpList_append_lies _ rfl (.tmp 46) (.tmp 48) 95 rfl base 48 j0 _ 1 8 Tryd.underlying95 hj hj0 hj1 hj2 rfl (by decide) (.slice tp k tc) k xs rfl (own_later (below_alloc (Below.refl _ _) _) HO.out) ⟨_,0,none⟩ 1 1 [Pt tb 0] rfl rfl (news1 _ _ _) (one1 _) (by decide) (by unfold maxLen;omega) (by omega) (by simp;omega) _ rfl ?_
    intro g cpg w6 hown6 hgrow6 hat6 hlt6;obtain ⟨k5,k6⟩:=keep2g ⟨kcell (below_alloc (Below.refl _ _) _) K4.out.1,by rw[(below_alloc (Below.refl _ _) _).frozen q4];exact K4.out.2⟩ hgrow6 n1))
 refine ⟨⟨λm=>match m with|42=>Pt wb 0|43=>Pt wb 0|44=>Pt wb 0|45=>Pt wb 4|46=>.slice tp k tc|47=>Pt tb 0|48=>.slice (some ⟨v.heap.size,0,none⟩) 1 1|49=>.slice (some ⟨g,0,none⟩) (k+1) cpg|50=>Pt wb 0|51=>Pt wb 4|m=>u m,by simp⟩,?_⟩
 .rw[HT.out]
  exact threaded_of (below_alloc (Below.refl _ _) _) q4 hgrow6 hown6 hat6 n1
end Go.Proofs.YtfjjoohflcchnaaDoor
namespace Go.Lift
open Go.Conc
theorem hire_at {P:Program}{K:World->Prop}{Still:Loc->Prop}{h:Nat}{o:Option Seat}{F:Goroutine->World->Prop}{b:Frame}{a:Act}{kk:List Item}{cs:List Frame}{ops:Array Oper}{i:Nat}{rest:List Nat}{op:Oper}{w:World}{d:Deferred}{f:Fn}{c:Array Value}(nh B₀:Nat)
 (ho:ops[i]? = some op) (hw:Region.wanted op (yielded ops a.tmps)=true) (hk:b.kind≠.early) (hr:∀ w,(execOp a.eval op).run P w=.ok (.spawn d) w) (hd:d.target=.fn f c) (he:∀ w,(execOp a.eval op).events P w #[]=#[]) (hF:F (born P d) w) (hB₀:B₀<=w.heap.size)
 (hI:∀ B,B₀<=B->∀ T,Deaf T h=0->Idle P K Still B T h nh (G (b.at (a.put op.dst undef) (.inRegion ops rest :: kk)) cs) o):AtHire P K Still h o F (G (b.at a (.inRegion ops (i :: rest) :: kk)) cs) w :=
 ⟨rfl,_,born P d,#[],nh,B₀,hB₀,hF,λd'=>by rw[stepG_spawn ho hw hk (hr _) hd,listed_none (he _)],λB _ e he=>by simp at he,hI⟩
end Go.Lift
namespace Go.Proofs.YtfjjoohflcchnaaDoor
open Go Go.Lift Go.Conc Go.RowKit
variable {main:Bool} {z:Nat->Option Nat} {Ch:Nat->Prop} {v w:World} {wb:Nat} {S:TS} {K:List (Nat×Int)}
theorem hire_box (wb:Nat) (bsl F:Value) (n ii bb gc:Nat) (u:Nat->Value) (cs:List Frame) (w:World):
 stepG Tryd.prog main (G (bFr1 wb bsl F n ii bb gc u) cs) w=.go (G (bFr2 wb bsl F n ii bb gc w.heap.size u) cs) (w.alloc (.cells (trow wb ii gc 0 0 0 0) 107)) #[]:=by
 unfold bFr1 bFr2 ops3514 R15 R18 HB D35 HL B35 Tryd.f95 seq2 seq1 blockC loopC opsOf;simp only[Qa,List.append_toArray,List.cons_append,List.nil_append];rw[stepG_value (v:=Pt w.heap.size 0) (w':=w.alloc (.cells (trow wb ii gc 0 0 0 0) 107)) rfl rfl (by decide) (by go_simp),listed_none (by simp[go_sem,execOp])];rfl
abbrev d49 (tb:Nat) (F:Value):Deferred:={ target:=.fn (.func 124) #[],args:=#[Pt tb 0,F] }
theorem eR15:R15=.seq r15 R1617:=by kernel_rfl
def ops3517:Array Oper:=opsOf (seq2 R1617)
def HBack (wb:Nat) (bsl:Value) (n ii:Nat) (cs:List Frame) (g:Goroutine):Prop:=∀ (D:World->World->Array Event->Prop) (Stop:Goroutine->World->Prop) (x:Value) (w:World),(∀ w,D w w #[])->(∀ u,GoesI Tryd.prog true D Stop (G (hFr wb bsl n ii u) cs) w)->GoesI Tryd.prog true D Stop (Go.Conc.served g x) w
theorem back35 (wb:Nat) (bsl F:Value) (n ii bb gc tb bk:Nat) (hb:(n:Int)<9223372036854775808) (hi:ii<n) (u:Nat->Value) (cs:List Frame):
 HBack wb bsl n (ii+1) cs (G ((base 95).at ⟨#[Pt wb 0,bsl,undef,undef,u 4,u 5,u 6,I ii,F,Pt tb 0,u 10,u 11,u 12,u 13,u 14,u 15,u 16,u 17,u 18,u 19,u 20,u 21,u 22,u 23,u 24,u 25,u 26,u 27,u 28,u 29,bsl]++#[I n,I ii,.bool true,I ii,Pt bb ii,F,Pt wb 0,I ii,.chan (some gc),.agg (trow wb ii gc 0 0 0 0),Pt tb 0,u 42,u 43,u 44,u 45,u 46,u 47,u 48,u 49,u 50,u 51,Pt tb 0,F,Pt wb 0,Pt wb 0,Pt wb 8,.chan (some bk),u 58,u 59,u 60,u 61],[]⟩ [.inRegion ops3517 [4],.inBlock 3,.code R18,.inLoop HL,.inBlock 2,.code D35]) cs):=by
 have HW:IntKind.i64.wrap ((ii:Int)+1)=((ii+1:Nat):Int):=by rw[IntKind.wrap_i64];omega
 intro D Stop x w hD h;have h:=h (λm=>match m with|7=>I ii|8=>F|9=>Pt tb 0|33=>.bool true|34=>I ii|35=>Pt bb ii|36=>F|37=>Pt wb 0|38=>I ii|39=>.chan (some gc)|40=>.agg (trow wb ii gc 0 0 0 0)|41=>Pt tb 0|52=>Pt tb 0|53=>F|54=>Pt wb 0|55=>Pt wb 0|56=>Pt wb 8|57=>.chan (some bk)|58=>x|59=>I ((ii+1:Nat):Int)|m=>u m);unfold ops3517 R1617 R15 R18 HB D35 HL B35 Tryd.f95 seq2 seq1 blockC loopC opsOf;unfold hFr D35 HL B35 Tryd.f95 seq2 seq1 blockC loopC at h;simp only[Qa,List.append_toArray,List.cons_append,List.nil_append] at h ⊢;rw[served_fr,Frame.finish_at];refine goesI_regionEnd hD ?_;refine goesI_inBlock hD ?_;refine goesI_region hD ?_;simp only[Sz,Sr,Nat.reduceAdd];refine goesI_value (v:=λ_=>I ((ii+1:Nat):Int)) (w':=λd=>w.at d) rfl rfl (by decide) (λd=>by go_simp) (λd=>by rw[listed_none (by simp[go_sem,execOp])];exact hD _) (λd=>GoesI.at ?_ d);refine goesI_value (v:=λ_=>I ((ii+1:Nat):Int)) (w':=λd=>w.at d) rfl rfl (by decide) (λd=>by go_simp) (λd=>by rw[listed_none (by simp[go_sem,execOp])];exact hD _) (λd=>GoesI.at ?_ d);refine goesI_regionEnd hD ?_;refine goesI_inLoop hD ?_;exact h
theorem hire_b {Stop:Goroutine->World->Prop}{cont:Addr->Value}(wb n ii bb gc tb bk:Nat) (bsl F tv:Value) (k bs:Nat) (xs:List Value) (u:Nat->Value) (cs:List Frame) (Hm:Goroutine->Prop)
 (hH:∀ g,HBack wb bsl n (ii+1) cs g->Hm g) (hb:(n:Int)<9223372036854775808) (hi:ii<n)
 (hvw:Rel z v w) (hn:NoRow Ch v) (h4:v.cell? ⟨wb,4,none⟩=some tv) (hf:v.frozen? ⟨wb,4,none⟩=false) (hown:v.ownsRow bs 48 1 tv k xs) (hne:tv.ownBlock≠some wb) (hk:(k+1)*8<=140737488355328) (hbase:bs<=v.heap.size) (hz:z wb=some 8) (hcont:cont ⟨wb,8,none⟩=.chan (some bk))
 (hstop:∀ g w',Lift.AtHire Tryd.prog (KC (ScZ z) cont) (StillC (ScZ z)) 0 (some (Seat.one bk (.agg #[]) false Hm)) (λchild w'=>child=born Tryd.prog (d49 tb F)∧∃ v',Rel z v' w'∧NoRow Ch v'∧Threaded wb tv k bs xs (Pt tb 0) v v') g w'->Stop g w'):
 GoesI Tryd.prog true (DT (ScZ z) Ch) Stop (G (bFr2 wb bsl F n ii bb gc tb u) cs) w:=by
 have HO:Hid (v.ownsRow bs 48 1 tv k xs):=⟨hown⟩
 have q4:wb<v.heap.size:=World.block_lt_of_cell? _ _ h4;clear hown;have hop:(ops3514.getD 5 default).op=.assign (.tmp 41):=by kernel_rfl
 have hds:(ops3514.getD 5 default).dst=some 9:=by kernel_rfl
 have hgd:(ops3514.getD 5 default).guard=none:=by kernel_rfl
 have hoo:ops3514[5]? = some (ops3514.getD 5 default):=by kernel_rfl
 unfold bFr2;simp only[List.append_toArray,List.cons_append,List.nil_append];refine goesI_value (o:=ops3514.getD 5 default) (v:=λ_=>Pt tb 0) (w':=λd=>w.at d) hoo (by unfold Region.wanted;rw[hgd]) (by decide) (λd=>by unfold execOp;rw[hop];simp[go_sem,Act.eval]) (λd=>by rw[listed_none (by unfold execOp;rw[hop];simp[go_sem])];exact dt_idle _ _ _) (λd=>GoesI.at ?_ d);rw[hds];clear hop hds hgd hoo;refine goesI_regionEnd (dt_idle _ _) ?_;rw[eR15];refine goesI_seq (dt_idle _ _) ?_;rw[show (Act.put { tmps:=(#[Pt wb 0,bsl,undef,undef,u 4,u 5,u 6,I ii,F,u 9,u 10,u 11,u 12,u 13,u 14,u 15,u 16,u 17,u 18,u 19,u 20,u 21,u 22,u 23,u 24,u 25,u 26,u 27,u 28,u 29,bsl,I n,I ii,.bool true,I ii,Pt bb ii,F,Pt wb 0,I ii,.chan (some gc),.agg (trow wb ii gc 0 0 0 0),Pt tb 0,u 42,u 43,u 44,u 45,u 46,u 47,u 48,u 49,u 50,u 51,u 52,u 53,u 54,u 55,u 56,u 57,u 58,u 59,u 60,u 61]),defers:=[] } (some 9) (Pt tb 0))={ tmps:=(#[Pt wb 0,bsl,undef,undef,u 4,u 5,u 6,I ii,F,Pt tb 0,u 10,u 11,u 12,u 13,u 14,u 15,u 16,u 17,u 18,u 19,u 20,u 21,u 22,u 23,u 24,u 25,u 26,u 27,u 28,u 29,bsl]++#[I n,I ii,.bool true,I ii,Pt bb ii,F,Pt wb 0,I ii,.chan (some gc),.agg (trow wb ii gc 0 0 0 0),Pt tb 0,u 42,u 43,u 44,u 45,u 46,u 47,u 48,u 49,u 50,u 51,u 52,u 53,u 54,u 55,u 56,u 57,u 58,u 59,u 60,u 61]),defers:=[] } from by kernel_rfl];refine goesI_plain (z:=z) (wr:=true) (L:=LT) (I:=NoRow Ch) hE fineT noRow_keeps (λv v' w w' es hi hr ho he=>dt_of_z v v' w w' es hi hr ho he) hvw fineR15 rfl (by simp[base]) hn
  (Q:=λa w'=>(∃ u:Nat->Value,a={ tmps:=#[Pt wb 0,bsl,undef,undef,u 4,u 5,u 6,I ii,F,Pt tb 0,u 10,u 11,u 12,u 13,u 14,u 15,u 16,u 17,u 18,u 19,u 20,u 21,u 22,u 23,u 24,u 25,u 26,u 27,u 28,u 29,bsl]++#[I n,I ii,.bool true,I ii,Pt bb ii,F,Pt wb 0,I ii,.chan (some gc),.agg (trow wb ii gc 0 0 0 0),Pt tb 0,u 42,u 43,u 44,u 45,u 46,u 47,u 48,u 49,u 50,u 51,u 52,u 53,u 54,u 55,u 56,u 57,u 58,u 59,u 60,u 61],defers:=[] })∧Threaded wb tv k bs xs (Pt tb 0) v w') (λτ=>?_) ?_
 .refine wp_mono (r15_wp (v:=onTape v τ 0) wb n ii bb gc tb bsl F tv k bs xs u h4 hf HO.out hne hk hbase) (λe a w' hq=>⟨hq.1,hq.2.1,?_⟩)
  obtain ⟨g,cap,q1,q2,q3,q5⟩:=hq.2.2;exact ⟨g,cap,q1,q2,q3,⟨q5.os,q5.output,q5.size,q5.block⟩⟩
 rintro a' v' w' ⟨⟨u',rfl⟩,hT⟩ hr' hn' -;have hwbl:wb<w'.heap.size:=by obtain ⟨g,cap,q1,q2,q3,q5⟩:=hT;rw[hr'.size];exact Qp q4 q5.size
 have HF:Hid (∃ v',Rel z v' w'∧NoRow Ch v'∧Threaded wb tv k bs xs (Pt tb 0) v v'):=⟨⟨v',hr',hn',hT⟩⟩
 have hbk:=back35 wb bsl F n ii bb gc tb bk hb hi u' cs;clear hT hr' hn' hvw hn h4 hf HO hne hk hbase q4;unfold ops3517 R1617 R15 R18 HB D35 HL B35 Tryd.f95 seq2 seq1 blockC loopC opsOf at hbk;unfold R1617 R15 R18 HB D35 HL B35 Tryd.f95 seq2 seq1 blockC loopC;simp only[Qa,List.append_toArray,List.cons_append,List.nil_append] at hbk ⊢;refine goesI_seq (dt_idle _ _) ?_;refine goesI_region (dt_idle _ _) ?_;simp only[Sz,Sr,Nat.reduceAdd];iterate 2
  (refine goesI_oper rfl rfl (by decide) (λd K hK=>?_)
   go_simp;refine hK _ _ ⟨dt_reads (λe he=>?_),GoesI.at ?_ d⟩
   .have hm:=mem_listed he
    simp[go_sem, *] at hm
    try exact ⟨_,_,hm⟩
   clear hK K)
 refine GoesI.stop λd=>hstop _ _ (hire_at (h:=0) (d:=d49 tb F) 7 (wb+1) rfl rfl (by decide) (λw=>by simp[go_sem,execOp,resolve,Act.eval]) rfl (λw=>by simp[go_sem,execOp,resolve,Act.eval]) ⟨rfl,?_⟩ (Nat.succ_le_of_lt hwbl) (λB hB T hT=>?_))
 .obtain ⟨v',k1,k2⟩:=HF.out
  exact ⟨v',k1.re rfl rfl rfl rfl rfl rfl,k2⟩
 .clear HF hstop hwbl
  refine .inl ⟨6,w',rfl,?_⟩
  k_c stepG_region_end
  k_reg
  iterate 3
   (k_in
    refine goes_oper_k rfl rfl (by decide) (λK hK=>?_);go_simp;refine hK _ _ ⟨⟨rfl,λe he=>by (have hm:=mem_listed he;simp[go_sem, *] at hm)⟩,?_⟩;clear hK K)
  k_in
  have q2:=h₁ ⟨wb,8,none⟩ ⟨rfl,hz⟩;rw[hcont] at q2;refine goes_oper_k rfl rfl (by decide) (λK hK=>?_);go_simp;refine hK _ _ ⟨⟨rfl,λe he=>by (have hm:=mem_listed he;simp[go_sem, *] at hm;subst hm;exact evC_read _ ⟨_,rfl,rfl,hz⟩ (by simp;omega))⟩,?_⟩;clear hK K;refine Goes.stop λw₂ h₂=>⟨_,atIn_of (s:=Seat.one bk (.agg #[]) false Hm) rfl rfl (by decide) (λw=>?_) (λw=>?_) (hH _ hbk)⟩
  .simp[go_sem,execOp,rcase,Act.eval,Seat.one]
  .simp[go_sem,execOp,Act.eval]
def tFr (wb:Nat) (u:Nat->Value):Frame:=(base 95).at ⟨#[Pt wb 0,u 1,u 2,u 3,u 4,u 5,u 6,u 7,u 8,u 9,u 10,u 11,u 12,u 13,u 14,u 15,u 16,u 17,u 18,u 19,u 20,u 21,u 22,u 23,u 24,u 25,u 26,u 27,u 28,u 29,u 30]++#[u 31,u 32,u 33,u 34,u 35,u 36,u 37,u 38,u 39,u 40,u 41,u 42,u 43,u 44,u 45,u 46,u 47,u 48,u 49,u 50,u 51,u 52,u 53,u 54,u 55,u 56,u 57,u 58,u 59,u 60,u 61],[]⟩ [.code TL,.inLoop TL,.inBlock 4]
theorem hire_done {Stop:Goroutine->World->Prop}(bsl:Value) (n:Nat) (u:Nat->Value) (cs:List Frame)
 (hk:∀ u',GoesI Tryd.prog main (DT (ScZ z) Ch) Stop (G (tFr wb u') cs) w):GoesI Tryd.prog main (DT (ScZ z) Ch) Stop (G (hFr wb bsl n n u) cs) w:=by
 have hi':¬ (n:Int)<(n:Int):=by omega
 have hk:=hk (λm=>match m with|1=>bsl|2=>undef|3=>undef|30=>bsl|31=>I n|32=>I n|33=>.bool false|m=>u m);unfold tFr TL D35 B35 Tryd.f95 seq2 blockC loopC at hk;unfold hFr D35 HL B35 Tryd.f95 seq2 seq1 blockC loopC;simp only[Qa,List.append_toArray,List.cons_append,List.nil_append] at hk ⊢;refine goesI_seq (dt_idle _ _) ?_;refine goesI_region (dt_idle _ _) ?_;simp only[Sz,Sr,Nat.reduceAdd];iterate 1
  (refine goesI_oper rfl rfl (by decide) (λd K hK=>?_)
   go_simp;refine hK _ _ ⟨dt_reads (λe he=>?_),GoesI.at ?_ d⟩
   .have hm:=mem_listed he
    simp[go_sem, *] at hm
    try exact ⟨_,_,hm⟩
   clear hK K)
 refine goesI_regionEnd (dt_idle _ _) ?_;refine goesI_seq (dt_idle _ _) ?_;refine goesI_cond (dt_idle _ _) (t:=false) rfl ?_;simp only[if_true,if_false,Qh];refine goesI_exit (dt_idle _ _) rfl ?_;refine goesI_block (dt_idle _ _) ?_;refine goesI_loop (dt_idle _ _) ?_;exact hk
theorem turn_in {Stop:Goroutine->World->Prop}(u:Nat->Value) (cs:List Frame)
 (hk:∀ (bd:Frame) (ad:Act) (od:Array Oper) (qd:Nat) (rd:List Nat) (oe:Oper) (kd:List Item),od[qd]? = some oe ->
   (∀ (z:Nat->Option Nat) (Ch:Nat->Prop) (Stop:Goroutine->World->Prop) (w:World),(∀ u',GoesI Tryd.prog main (DT (ScZ z) Ch) Stop (G (tFr wb u') cs) w)->GoesI Tryd.prog main (DT (ScZ z) Ch) Stop (G (bd.at (ad.put oe.dst (.bool true)) (.inRegion od rd :: kd)) cs) w) ->
   (∀ (z:Nat->Option Nat) (Ch:Nat->Prop) (Stop:Goroutine->World->Prop) (w:World) (bc:Frame) (ac:Act) (ops:Array Oper) (q:Nat) (rest:List Nat) (oc:Oper) (k:List Item) (cs':List Frame),cs=bc.at ac (.inRegion ops (q :: rest) :: k) :: cs'->ops[q]? = some oc->GoesI Tryd.prog main (DT (ScZ z) Ch) Stop (G (bc.at (ac.put oc.dst (.tuple #[])) (.inRegion ops rest :: k)) cs') w ->
     GoesI Tryd.prog main (DT (ScZ z) Ch) Stop (G (bd.at (ad.put oe.dst (.bool false)) (.inRegion od rd :: kd)) cs) w)->∀ code,Tryd.f125.body=some code ->
   GoesI Tryd.prog main (DT (ScZ z) Ch) Stop (G ((base 125).at { tmps:=#[Pt wb 0]++Array.replicate 72 undef,defers:=[] } [.code code]) (bd.at ad (.inRegion od (qd :: rd):: kd):: cs)) w):
 GoesI Tryd.prog main (DT (ScZ z) Ch) Stop (G (tFr wb u) cs) w:=by
 unfold tFr TL D35 B35 Tryd.f95 seq2 blockC loopC;simp only[Qa,List.append_toArray,List.cons_append,List.nil_append];refine goesI_seq (dt_idle _ _) ?_;refine goesI_seq (dt_idle _ _) ?_;refine goesI_region (dt_idle _ _) ?_;simp only[Sz,Sr,Nat.reduceAdd];iterate 1
  (refine goesI_oper rfl rfl (by decide) (λd K hK=>?_)
   go_simp;refine hK _ _ ⟨dt_reads (λe he=>?_),GoesI.at ?_ d⟩
   .have hm:=mem_listed he
    simp[go_sem, *] at hm
    try exact ⟨_,_,hm⟩
   clear hK K)
 refine goesI_into (f:=125) (fn:=Tryd.f125) (args:=#[Pt wb 0]) (dt_idle _ _) rfl rfl (by decide) rfl (by simp[Act.eval]) Tryd.func125 (by decide) rfl ?_;refine hk _ _ _ _ _ _ _ rfl (λz Ch Stop w hg=>?_) (λz Ch Stop w bc ac ops q rest oc k cs' hcs ho hg=>?_) _ rfl
 .have hg:=hg (λm=>match m with|60=>Pt wb 0|61=>.bool true|m=>u m)
  unfold tFr TL D35 B35 Tryd.f95 seq2 blockC loopC at hg;simp only[Qa,List.append_toArray,List.cons_append,List.nil_append] at hg;refine goesI_regionEnd (dt_idle _ _) ?_;refine goesI_cond (dt_idle _ _) (t:=true) rfl ?_;simp only[if_true,if_false,Qh];refine goesI_skip (dt_idle _ _) ?_;refine goesI_block (dt_idle _ _) ?_;refine goesI_skip (dt_idle _ _) ?_;refine goesI_inBlock (dt_idle _ _) ?_;refine goesI_inLoop (dt_idle _ _) ?_;exact hg
 .subst hcs
  refine goesI_regionEnd (dt_idle _ _) ?_;refine goesI_cond (dt_idle _ _) (t:=false) rfl ?_;simp only[if_true,if_false,Qh];refine goesI_exit (dt_idle _ _) rfl ?_;refine goesI_end (dt_idle _ _) ?_;refine goesI_leave (b:=base 95) (fn:=Tryd.f95) rfl ?_ Tryd.func95 (λw=>results_none rfl _ _ _) (λw=>by simp[results,go_sem]) ho (dt_idle _ _) hg;show (Act.put _ _ _).defers=[];unfold Act.put;split<;>rfl
theorem ran_ev (h:Rep z S v):Ev z S v { S with ran:=true } (v.setCell ⟨S.wb,7,none⟩ (.bool true)):=by
 have hst:∀ k b,blk S k=some b->k≠0->(v.setCell ⟨S.wb,7,none⟩ (.bool true)).heap[b]? = v.heap[b]?:=λk b hk h0=>Below.heap_setCell _ _ _ _ (λe=>h0 (h.apart k 0 b hk (by rw[e];rfl)));have hblk:∀ k,blk { S with ran:=true } k=blk S k:=λk=>by match k with|0=>rfl|1=>rfl|2=>rfl|3=>rfl|4=>rfl|k+5=>rfl
 refine ⟨⟨?_,λi t ht=>?_,own_stay (λb hb=>hst 3 b hb (by omega)) h.own,own_stay (λb hb=>hst 1 b hb (by omega)) h.chg,own_stay (λb hb=>hst 2 b hb (by omega)) h.ths,own_stay (λb hb=>hst 4 b hb (by omega)) h.sch,?_,λj k b hj hk=>?_,h.kept⟩,⟨rfl,rfl,by simp[World.setCell],λb hb hs=>Below.heap_setCell _ _ _ _ (λe=>hs ⟨0,by rw[e];rfl⟩)⟩,λb ⟨k,hk⟩=>.inl ⟨k,by rw[<-hblk];exact hk⟩⟩
 .have:=heap_setCell_same (o:=7) h.wor (.bool true)
  simpa using this
 .rw[hst (i+5) t.tb (by simp only[blk];rw[show S.thr[i]? = some t from ht];rfl) (by omega)]
  exact h.thr i t ht
 .show S.base<=_
  simpa [World.setCell] using h.bs
 exact h.apart j k b (by rw[<-hblk];exact hj) (by rw[<-hblk];exact hk)
theorem run35_in {Stop:Goroutine->World->Prop}(p:Option Addr) (n cap:Nat) (cs:List Frame)
 (hvw:Rel z v w) (hn:NoRow Ch v) (hm:Mem z S K v) (hr:S.ran=false)
 (hk:∀ v' w' u,Rel z v' w'->NoRow Ch v'->Evo z S K v { S with ran:=true } K v'->GoesI Tryd.prog main (DT (ScZ z) Ch) Stop (G (hFr S.wb (.slice p n cap) n 0 u) cs) w') (code:Code) (hc:Tryd.f95.body=some code):
 GoesI Tryd.prog main (DT (ScZ z) Ch) Stop (G ((base 95).at { tmps:=#[Pt S.wb 0,.slice p n cap]++Array.replicate 60 undef,defers:=[] } [.code code]) cs) w:=by
 have hc0:code=B35:=by unfold B35;rw[hc];rfl
 subst hc0;clear hc;have e7:w.cell? ⟨S.wb,7,none⟩=some (.bool false):=by rw[hvw.cell?,hm.rep.wcell.2.2.2.2.2.2.2.1,hr]
 have c7:v.cell? ⟨S.wb,7,none⟩=some (.bool false):=by rw[hm.rep.wcell.2.2.2.2.2.2.2.1,hr]
 have f7:v.frozen? ⟨S.wb,7,none⟩=false:=fz_off hm.rep 7 (by omega);have HE:Hid (Evo z S K v { S with ran:=true } K (v.setCell ⟨S.wb,7,none⟩ (.bool true))):=⟨Evo.of_ev hm (ran_ev hm.rep) rfl⟩
 clear hm hr;unfold B35 Tryd.f95;simp only[Qa,Sy];refine goesI_seq (dt_idle _ _) ?_;refine goesI_seq (dt_idle _ _) ?_;refine goesI_region (dt_idle _ _) ?_;simp only[Sz,Sr,Nat.reduceAdd];iterate 1
  (refine goesI_oper rfl rfl (by decide) (λd K hK=>?_)
   go_simp;refine hK _ _ ⟨dt_reads (λe he=>?_),GoesI.at ?_ d⟩
   .have hm:=mem_listed he
    simp[go_sem, *] at hm
    try exact ⟨_,_,hm⟩
   clear hK K)
 refine goesI_opZ (L:=LT) rfl rfl (by decide) (fineOp_ask callT extT (by kernel_rfl)) hvw hn (x:=.bool false) (v':=v) (by go_simp) rfl (λw1 hvw1 _=>?_);replace e7:w1.cell? ⟨S.wb,7,none⟩=some (.bool false):=by rw[hvw1.cell?];exact c7
 clear hvw
 rename Rel z v w1=>hvw
 refine goesI_regionEnd (dt_idle _ _) ?_;refine goesI_cond (dt_idle _ _) (t:=false) rfl ?_;simp only[if_true,if_false,Qh];refine goesI_skip (dt_idle _ _) ?_;refine goesI_seq (dt_idle _ _) ?_;refine goesI_seq (dt_idle _ _) ?_;refine goesI_region (dt_idle _ _) ?_;simp only[Sz,Sr,Nat.reduceAdd];iterate 4
  (refine goesI_oper rfl rfl (by decide) (λd K hK=>?_)
   go_simp;refine hK _ _ ⟨dt_reads (λe he=>?_),GoesI.at ?_ d⟩
   .have hm:=mem_listed he
    simp[go_sem, *] at hm
    try exact ⟨_,_,hm⟩
   clear hK K)
 refine goesI_regionEnd (dt_idle _ _) ?_;refine goesI_cond (dt_idle _ _) (t:=false) rfl ?_;simp only[if_true,if_false,Qh];refine goesI_skip (dt_idle _ _) ?_;refine goesI_seq (dt_idle _ _) ?_;refine goesI_region (dt_idle _ _) ?_;simp only[Sz,Sr,Nat.reduceAdd];iterate 3
  (refine goesI_oper rfl rfl (by decide) (λd K hK=>?_)
   go_simp;refine hK _ _ ⟨dt_reads (λe he=>?_),GoesI.at ?_ d⟩
   .have hm:=mem_listed he
    simp[go_sem, *] at hm
    try exact ⟨_,_,hm⟩
   clear hK K)
 clear e7;refine goesI_doZ (L:=LT) rfl rfl (by decide) (fineOp_ask callT extT (by kernel_rfl)) hvw hn (v':=v.setCell ⟨S.wb,7,none⟩ (.bool true)) (by go_simp) rfl (λw2 hr2 hn2=>?_);refine goesI_regionEnd (dt_idle _ _) ?_;refine goesI_seq (dt_idle _ _) ?_;refine goesI_seq (dt_idle _ _) ?_;refine goesI_region (dt_idle _ _) ?_;simp only[Sz,Sr,Nat.reduceAdd];iterate 3
  (refine goesI_oper rfl rfl (by decide) (λd K hK=>?_)
   go_simp;refine hK _ _ ⟨dt_reads (λe he=>?_),GoesI.at ?_ d⟩
   .have hm:=mem_listed he
    simp[go_sem, *] at hm
    try exact ⟨_,_,hm⟩
   clear hK K)
 refine goesI_regionEnd (dt_idle _ _) ?_;refine goesI_block (dt_idle _ _) ?_;refine goesI_loop (dt_idle _ _) ?_;have hk:=hk _ w2 (λm=>match m with|10=>Pt S.wb 0|11=>.bool false|23=>Pt S.wb 0|24=>Pt S.wb 0|25=>Pt S.wb 7|26=>.bool false|27=>Pt S.wb 0|28=>Pt S.wb 0|29=>Pt S.wb 7|_=>undef) hr2 hn2 HE.out;unfold hFr D35 HL B35 Tryd.f95 seq2 seq1 blockC loopC at hk;simp only[Qa,List.append_toArray,List.cons_append,List.nil_append] at hk;exact hk
structure Alone (gs:Array Goroutine) (w:World) (T:Trace) (q:Nat->Nat):Prop where
 left:Leavers Tryd.prog T gs q
 past:∃ B,B<=w.heap.size∧Past (λ_=>False) B T
theorem alone_goes {gs:Array Goroutine}{T:Trace}{q:Nat->Nat}(A:Alone gs w T q) {a:Goroutine}{Stop:Goroutine->World->Prop}(hg:gs[0]? = some a) (sl:Option (Nat×Nat)) (hG:GoesI Tryd.prog true (DT (ScZ zn) (λ_=>False)) Stop a w):
 ∃ (N':Nat) (gs':Array Goroutine) (a':Goroutine) (w':World) (sl':Option (Nat×Nat)) (T':Trace) (q':Nat->Nat),runNT Tryd.prog N' (crowd gs w sl) T=(.next (crowd gs' w' sl'),T')∧gs'.size=gs.size∧gs'[0]? = some a'∧Stop a' w'∧Alone gs' w' T' q':=by
 obtain ⟨B,hB,hP⟩:=A.past;have hno:∀ a,¬ ScZ zn a:=λa ha=>by have:=ha.2;cases this
 have C0:Ring Tryd.prog (KC (ScZ zn) (λ_=>undef)) (StillC (ScZ zn)) B (λg=>g=0) (λ_=>none) 0 T gs w q:=ring_begin (λx hx=>by obtain ⟨a,_,h⟩:=hx;exact absurd h (hno a)) A.left hP (λa ha=>absurd ha (hno a));obtain ⟨N1,gs1,a1,w1,sl1,T1,q1,B1,r1,z1,h1,hs1,⟨hB1,hB1b,hB1c⟩,C1⟩:=hold_goes (Inb:=λ_=>none) (Mem:=λg=>g=0) (h:=0) (λw d h=>kc_at w d h) (dh_of_dt (λi s c e=>by cases e)) hG gs sl T q B hg C0;obtain ⟨hL,hP'⟩:=ring_end C1 rfl (λ_ _=>rfl);exact ⟨N1,gs1,a1,w1,sl1,T1,q1,r1,z1,h1,hs1,hL,B1,by omega,hP'⟩
def B20:Code:=Tryd.f60.body.getD .skip
def a200:Code:=seq1 B20
def a201:Code:=seq1 (seq2 B20)
def a202:Code:=seq1 (seq2 (seq2 B20))
def a203:Code:=seq1 (seq2 (seq2 (seq2 B20)))
theorem fine200:fineCode Tryd.prog true LT a200:=fineCode_ask callT extT (by kernel_rfl)
theorem fine201:fineCode Tryd.prog true LT a201:=fineCode_ask callT extT (by kernel_rfl)
theorem fine202:fineCode Tryd.prog true LT a202:=fineCode_ask callT extT (by kernel_rfl)
theorem fine203:fineCode Tryd.prog true LT a203:=fineCode_ask callT extT (by kernel_rfl)
theorem info40:(Tryd.prog.info? 31).map (λi=>(i.zero,i.size,i.bytes))=some (some (.slice none 0 0),1,24):=by kernel_rfl
theorem info42:(Tryd.prog.info? 38).map (λi=>(i.zero,i.size,i.bytes))=some (some (.agg #[I 0,I 0]),2,16):=by kernel_rfl
theorem mk27 (n:Nat) (hn:n<=8) (w:World):
 (Instr.makeSlice 27 (.int .i64 (n:Int)) (.int .i64 (n:Int))).run Tryd.prog w=.ok (.slice (some ⟨w.heap.size,0,none⟩) n n) (w.alloc (.cells (madeCells #[.slice none 0 0] n) 31)):=by
 obtain ⟨i,hq,hz,hs,hb⟩:=info_parts info40;have:=run_make (P:=Tryd.prog) w 27 31 i _ Tryd.underlying27 hq hz .i64 .i64 (n:Int) (n:Int) (by omega) (by omega) (by rw[hb];omega) (by omega);rw[hs] at this;rw[this];simp[Value.cells]
theorem mk40 (n:Nat) (hn:n<=64) (w:World):
 (Instr.makeSlice 31 (.int .i64 (n:Int)) (.int .i64 (n:Int))).run Tryd.prog w=.ok (.slice (some ⟨w.heap.size,0,none⟩) n n) (w.alloc (.cells (madeCells #[I 0,I 0] (n*2)) 38)):=by
 obtain ⟨i,hq,hz,hs,hb⟩:=info_parts info42;have:=run_make (P:=Tryd.prog) w 31 38 i _ Tryd.underlying31 hq hz .i64 .i64 (n:Int) (n:Int) (by omega) (by omega) (by rw[hb];omega) (by omega);rw[hs] at this;rw[this];simp[Value.cells]
theorem a201_wp (v:World) (wb p2 n:Nat) (p:Option Addr) (cap:Nat) (F:Value) (hn:n<=8):
 a201.wp Tryd.prog (λe a w'=>e=.normal∧a={ tmps:=#[Pt wb 0,.slice p n cap,F,undef,undef,Pt p2 0,.slice none 0 0,Pt (v.heap.size+1) 0,undef,undef,undef,.slice p n cap,I n,.slice (some ⟨v.heap.size,0,none⟩) n n]++Array.replicate 25 undef,defers:=[] }∧w'.heap=(v.heap.push (.cells (madeCells #[.slice none 0 0] n) 31)).push (.cells #[.slice (some ⟨v.heap.size,0,none⟩) n n] 27)∧w'.os=v.os∧w'.output=v.output)
  { tmps:=#[Pt wb 0,.slice p n cap,F,undef,undef,Pt p2 0,.slice none 0 0]++Array.replicate 32 undef,defers:=[] } v:=by
 have hmk:=mk27 n hn;show Code.wp Tryd.prog (seq1 (seq2 (Tryd.f60.body.getD .skip))) _ _ _;unfold Tryd.f60 seq1 seq2;simp only[Qa,Sy];go_wp2_with fail;exact ⟨rfl,rfl,rfl⟩
theorem info80:(Tryd.prog.info? 143).map (λi=>(i.zero,i.size,i.bytes))=some (some .nilFunc,1,8):=by kernel_rfl
theorem mk78 (n:Nat) (hn:n<=8) (w:World):
 (Instr.makeSlice 141 (.int .i64 (n:Int)) (.int .i64 (n:Int))).run Tryd.prog w=.ok (.slice (some ⟨w.heap.size,0,none⟩) n n) (w.alloc (.cells (madeCells #[.nilFunc] n) 143)):=by
 obtain ⟨i,hq,hz,hs,hb⟩:=info_parts info80;have:=run_make (P:=Tryd.prog) w 141 143 i _ Tryd.underlying141 hq hz .i64 .i64 (n:Int) (n:Int) (by omega) (by omega) (by rw[hb];omega) (by omega);rw[hs] at this;rw[this];simp[Value.cells]
theorem a200_wp (v:World) (wb n:Nat) (p:Option Addr) (cap:Nat) (fx:Nat):
 a200.wp Tryd.prog (λe a w'=>e=.normal∧a={ tmps:=#[Pt wb 0,.slice p n cap,.func (.func 0) #[] #[Pt fx 0],undef,undef,Pt v.heap.size 0,.slice none 0 0]++Array.replicate 32 undef,defers:=[] }∧w'.heap=v.heap.push (.cells #[.func (.func 0) #[] #[Pt fx 0]] 101)∧w'.os=v.os∧w'.output=v.output)
  { tmps:=#[Pt wb 0,.slice p n cap,.func (.func 0) #[] #[Pt fx 0]]++Array.replicate 36 undef,defers:=[] } v:=by
 show Code.wp Tryd.prog (seq1 (Tryd.f60.body.getD .skip)) _ _ _;unfold Tryd.f60 seq1;simp only[Qa,Sy];go_wp2_with fail;exact ⟨rfl,rfl,rfl⟩
theorem a202_wp (v:World) (wb p2 p3 rr n:Nat) (p:Option Addr) (cap:Nat) (F:Value) (hn:n<=8):
 a202.wp Tryd.prog (λe a w'=>e=.normal∧a={ tmps:=#[Pt wb 0,.slice p n cap,F,undef,undef,Pt p2 0,.slice none 0 0,Pt p3 0,.slice (some ⟨v.heap.size,0,none⟩) n n,undef,undef,.slice p n cap,I n,.slice (some ⟨rr,0,none⟩) n n,.slice p n cap,I n,.slice (some ⟨v.heap.size,0,none⟩) n n]++Array.replicate 22 undef,defers:=[] }∧w'.heap=v.heap.push (.cells (madeCells #[.nilFunc] n) 143)∧w'.os=v.os∧w'.output=v.output)
  { tmps:=#[Pt wb 0,.slice p n cap,F,undef,undef,Pt p2 0,.slice none 0 0,Pt p3 0,undef,undef,undef,.slice p n cap,I n,.slice (some ⟨rr,0,none⟩) n n]++Array.replicate 25 undef,defers:=[] } v:=by
 have hmk:=mk78 n hn;show Code.wp Tryd.prog (seq1 (seq2 (seq2 (Tryd.f60.body.getD .skip)))) _ _ _;unfold Tryd.f60 seq1 seq2;simp only[Qa,Sy];go_wp2_with fail;exact ⟨rfl,rfl,rfl⟩
structure Laid (v:World) (n p2 p3 rr bb:Nat) (pc:Nat->Option Addr) (ln cp:Nat->Nat) (k:Nat) (u:World):Prop where
 size:u.heap.size=v.heap.size+3*k
 rrow:u.rowIs rr 31 n (λj=>if j<k then .slice (some ⟨v.heap.size+3*j+2,0,none⟩) (ln j) (ln j) else .slice none 0 0)
 brow:u.rowIs bb 143 n (λj=>if j<k then .func (.func 93) #[] #[Pt (v.heap.size+3*j+1) 0,Pt p2 0,Pt p3 0,Pt (v.heap.size+3*j) 0] else .nilFunc)
 blk:∀ j,j<k->u.heap[v.heap.size+3*j]? = some (.cells #[I j] 3)∧u.heap[v.heap.size+3*j+1]? = some (.cells #[.slice (pc j) (ln j) (cp j)] 33)∧u.heap[v.heap.size+3*j+2]? = some (.cells (madeCells #[I 0,I 0] (ln j*2)) 38)
 old:∀ b,b<v.heap.size->b≠rr->b≠bb->u.heap[b]? = v.heap[b]?
 os:u.os=v.os
 out:u.output=v.output
theorem laid_next {wr W U:World}{n p2 p3 rr bb k:Nat}{pc:Nat->Option Addr}{ln cp:Nat->Nat}(h:Laid v n p2 p3 rr bb pc ln cp k wr) (hk:k<n) (hne:rr≠bb) (hW:W.heap=(wr.heap.push (.cells #[I k] 3)).push (.cells #[.slice (pc k) (ln k) (cp k)] 33)) (ho:W.os=wr.os) (hu:W.output=wr.output)
 (hU:U.heap=((((W.alloc (.cells (madeCells #[I 0,I 0] (ln k*2)) 38)).setCell ⟨rr,k,none⟩ (.slice (some ⟨W.heap.size,0,none⟩) (ln k) (ln k)))).setCell ⟨bb,k,none⟩ (.func (.func 93) #[] #[Pt (wr.heap.size+1) 0,Pt p2 0,Pt p3 0,Pt wr.heap.size 0])).heap) (hUo:U.os=W.os) (hUu:U.output=W.output):Laid v n p2 p3 rr bb pc ln cp (k+1) U:=by
 have hs:=h.size;have lr:=h.rrow.lt;have lb:=h.brow.lt;have hWs:W.heap.size=wr.heap.size+2:=by rw[hW];simp
 have hold:∀ b,b<wr.heap.size->W.heap[b]? = wr.heap[b]?:=λb hb=>by rw[hW,Qg,if_neg (by simp;omega),Qg,if_neg (by omega)]
 have hA:∀ b,b<W.heap.size->(W.alloc (.cells (madeCells #[I 0,I 0] (ln k*2)) 38)).heap[b]? = W.heap[b]?:=λb hb=>by show (W.heap.push _)[b]? = _;rw[Qg,if_neg (by omega)]
 have hUb:∀ b,b≠rr->b≠bb->U.heap[b]? = (W.alloc (.cells (madeCells #[I 0,I 0] (ln k*2)) 38)).heap[b]?:=λb h1 h2=>by rw[hU,Below.heap_setCell _ _ _ _ h2,Below.heap_setCell _ _ _ _ h1]
 refine ⟨?_,?_,?_,λj hj=>?_,λb hb h1 h2=>?_,hUo.trans (ho.trans h.os),hUu.trans (hu.trans h.out)⟩
 .rw[hU]
  show ((((W.alloc (.cells (madeCells #[I 0,I 0] (ln k*2)) 38)).setCell _ _).setCell _ _).heap).size=_;simp only[World.setCell,Array.size_modify];show (W.heap.push _).size=_;rw[Array.size_push];omega
 .have r1:=((h.rrow.of_block (w':=(W.alloc (.cells (madeCells #[I 0,I 0] (ln k*2)) 38))) (by rw[hA rr (by omega),hold rr lr])).set k (.slice (some ⟨W.heap.size,0,none⟩) (ln k) (ln k))).setOther (a:=⟨bb,k,none⟩) hne (.func (.func 93) #[] #[Pt (wr.heap.size+1) 0,Pt p2 0,Pt p3 0,Pt wr.heap.size 0])
  refine (r1.of_block (by rw[hU])).congr λi hi=>?_;by_cases e:i=k
  .subst e
   rw[if_pos rfl,if_pos (by omega),show v.heap.size+3*i+2=W.heap.size by omega]
  .rw[if_neg e]
   by_cases hlt:i<k;rw[if_pos hlt,if_pos (by omega)];rw[if_neg hlt,if_neg (by omega)]
 .have r1:=((h.brow.of_block (w':=(W.alloc (.cells (madeCells #[I 0,I 0] (ln k*2)) 38))) (by rw[hA bb (by omega),hold bb lb])).setOther (a:=⟨rr,k,none⟩) (Ne.symm hne) (.slice (some ⟨W.heap.size,0,none⟩) (ln k) (ln k))).set k (.func (.func 93) #[] #[Pt (wr.heap.size+1) 0,Pt p2 0,Pt p3 0,Pt wr.heap.size 0])
  refine (r1.of_block (by rw[hU])).congr λi hi=>?_;by_cases e:i=k
  .subst e
   rw[if_pos rfl,if_pos (by omega),hs]
  .rw[if_neg e]
   by_cases hlt:i<k;rw[if_pos hlt,if_pos (by omega)];rw[if_neg hlt,if_neg (by omega)]
 .by_cases e:j=k
  .subst e
   rw[<-hs];refine ⟨?_,?_,?_⟩;rw[hUb _ (by omega) (by omega),hA _ (by omega),hW,Qg,if_neg (by simp),Qg,if_pos rfl];rw[hUb _ (by omega) (by omega),hA _ (by omega),hW,Qg,if_pos (by simp)]
   .rw[hUb _ (by omega) (by omega)]
    show (W.heap.push _)[wr.heap.size+2]? = _;rw[<-hWs];exact Qo
  .have hj':j<k:=by omega
   obtain ⟨q1,q2,q3⟩:=h.blk j hj';have hne1:∀ b x,wr.heap[b]? = some x->(∃ c,x=.cells c 3 (0,0))∨(∃ c,x=.cells c 33 (0,0))∨(∃ c,x=.cells c 38 (0,0))->b≠rr∧b≠bb:=λb x hb hx=>by obtain ⟨c1,r1,_⟩:=h.rrow;obtain ⟨c2,r2,_⟩:=h.brow;refine ⟨λe=>?_,λe=>?_⟩<;>subst e;rw[r1] at hb;cases hb;rcases hx with ⟨c,hx⟩|⟨c,hx⟩|⟨c,hx⟩<;>cases hx;rw[r2] at hb;cases hb;rcases hx with ⟨c,hx⟩|⟨c,hx⟩|⟨c,hx⟩<;>cases hx
   have n1:=hne1 _ _ q1 (.inl ⟨_,rfl⟩);have n2:=hne1 _ _ q2 (.inr (.inl ⟨_,rfl⟩));have n3:=hne1 _ _ q3 (.inr (.inr ⟨_,rfl⟩));refine ⟨?_,?_,?_⟩;rw[hUb _ n1.1 n1.2,hA _ (by omega),hold _ (by omega)];exact q1;rw[hUb _ n2.1 n2.2,hA _ (by omega),hold _ (by omega)];exact q2;rw[hUb _ n3.1 n3.2,hA _ (by omega),hold _ (by omega)];exact q3
 .rw[hUb b h1 h2,hA b (by omega),hold b (by omega)]
  exact h.old b hb h1 h2
theorem a203_wp (v:World) (wb p2 p3 rr bb sb so n:Nat) (cap:Nat) (F:Value) (hn:n<=8) (pc:Nat->Option Addr) (ln cp:Nat->Nat) (hln:∀ k,k<n->ln k<=64) (hs:∀ k,k<n->v.cell? ⟨sb,so+k,none⟩=some (.slice (pc k) (ln k) (cp k)))
 (hrr:v.rowIs rr 31 n (λ_=>.slice none 0 0)) (hbb:v.rowIs bb 143 n (λ_=>.nilFunc)) (h3:v.cell? ⟨p3,0,none⟩=some (.slice (some ⟨rr,0,none⟩) n n)) (hne:rr≠bb∧rr≠sb∧bb≠sb∧p3≠rr∧p3≠bb):
 a203.wp Tryd.prog (λe a w'=>e=.normal∧(∃ u:Nat->Value,a={ tmps:=#[Pt wb 0,.slice (some ⟨sb,so,none⟩) n cap,F,undef,undef,Pt p2 0,.slice none 0 0,Pt p3 0,.slice (some ⟨bb,0,none⟩) n n,u 9,u 10,u 11,u 12,u 13,u 14,u 15,u 16,u 17,u 18,u 19,u 20,u 21,u 22,u 23,u 24,u 25,u 26,u 27,u 28,u 29,u 30,u 31,u 32,u 33,u 34,u 35,u 36,u 37,u 38],defers:=[] })∧Laid v n p2 p3 rr bb pc ln cp n w')
  { tmps:=#[Pt wb 0,.slice (some ⟨sb,so,none⟩) n cap,F,undef,undef,Pt p2 0,.slice none 0 0,Pt p3 0,.slice (some ⟨bb,0,none⟩) n n,undef,undef,.slice (some ⟨sb,so,none⟩) n cap,I n,.slice (some ⟨rr,0,none⟩) n n,.slice (some ⟨sb,so,none⟩) n cap,I n,.slice (some ⟨bb,0,none⟩) n n]++Array.replicate 22 undef,defers:=[] } v:=by
 show Code.wp Tryd.prog (seq1 (seq2 (seq2 (seq2 (Tryd.f60.body.getD .skip))))) _ _ _;unfold Tryd.f60 seq1 seq2;simp only[Qa,Sy];have HS:Hid (∀ k,k<n->v.cell? ⟨sb,so+k,none⟩=some (.slice (pc k) (ln k) (cp k))):=⟨hs⟩
 have HLn:Hid (∀ k,k<n->ln k<=64):=⟨hln⟩
 have H0:Hid (Laid v n p2 p3 rr bb pc ln cp 0 v):=⟨⟨rfl,hrr.congr λi _=>by simp,hbb.congr λi _=>by simp,λj hj=>by omega,λ_ _ _ _=>rfl,rfl,rfl⟩⟩
 have H3:Hid (v.cell? ⟨p3,0,none⟩=some (.slice (some ⟨rr,0,none⟩) n n)):=⟨h3⟩
 clear hs hln hrr hbb h3;go_wp2_with fail
 go_loopw [19] (λi u=>∃ k:Nat,k<=n∧i=.int .i64 k∧Laid v n p2 p3 rr bb pc ln cp k u) (λi _=>n - (intOf i).toNat)
 case atStart=>exact ⟨0,Nat.zero_le _,rfl,H0.out⟩
 case round =>
  obtain ⟨k,hk,rfl,hL⟩:=hrel;have HL:Hid (Laid v n p2 p3 rr bb pc ln cp k wr):=⟨hL⟩
  by_cases hlt:k<n
  .have hsk:wr.cell? ⟨sb,so+k,none⟩=some (.slice (pc k) (ln k) (cp k)):=by have:=HS.out k hlt;rw[World.cell?_of_block (hL.old sb (World.block_lt_of_cell? _ _ this) (Ne.symm hne.2.1) (Ne.symm hne.2.2.1))];exact this
   have h3k:wr.cell? ⟨p3,0,none⟩=some (.slice (some ⟨rr,0,none⟩) n n):=by rw[World.cell?_of_block (hL.old p3 (World.block_lt_of_cell? _ _ H3.out) hne.2.2.2.1 hne.2.2.2.2)];exact H3.out
   have hmk:=mk40 (ln k) (HLn.out k hlt);have hlt':(k:Int)<(n:Int):=by omega
   have r0:wr.cell? ⟨rr,k,none⟩=some (.slice none 0 0):=by rw[hL.rrow.cell hlt];simp
   have r1:wr.frozen? ⟨rr,k,none⟩=false:=hL.rrow.frozen k;have b0:wr.cell? ⟨bb,k,none⟩=some .nilFunc:=by rw[hL.brow.cell hlt];simp
   have b1:wr.frozen? ⟨bb,k,none⟩=false:=hL.brow.frozen k;have lr:=hL.rrow.lt;have lb:=hL.brow.lt;have l3:p3<wr.heap.size:=World.block_lt_of_cell? _ _ h3k;have HW:Hid ((λW:World=>W.heap=(wr.heap.push (.cells #[I k] 3)).push (.cells #[.slice (pc k) (ln k) (cp k)] 33)∧W.os=wr.os∧W.output=wr.output∧W.cell? ⟨p3,0,none⟩=some (.slice (some ⟨rr,0,none⟩) n n)∧W.cell? ⟨wr.heap.size,0,none⟩=some (I k)∧W.cell? ⟨wr.heap.size+1,0,none⟩=some (.slice (pc k) (ln k) (cp k))∧W.cell? ⟨rr,k,none⟩=some (.slice none 0 0)∧W.frozen? ⟨rr,k,none⟩=false∧W.cell? ⟨bb,k,none⟩=some .nilFunc∧W.frozen? ⟨bb,k,none⟩=false∧W.heap.size=wr.heap.size+2) ((wr.alloc (.cells #[I k] 3)).alloc (.cells #[.slice (pc k) (ln k) (cp k)] 33))):=⟨by
    have ho:∀ b,b<wr.heap.size->((wr.alloc (.cells #[I k] 3)).alloc (.cells #[.slice (pc k) (ln k) (cp k)] 33)).heap[b]? = wr.heap[b]?:=λb hb=>by show ((wr.heap.push _).push _)[b]? = _;rw[Qg,if_neg (by simp;omega),Qg,if_neg (by omega)]
    have hN:((wr.alloc (.cells #[I k] 3)).alloc (.cells #[.slice (pc k) (ln k) (cp k)] 33)).heap[wr.heap.size]? = some (.cells #[I k] 3):=by show ((wr.heap.push _).push _)[wr.heap.size]? = _;rw[Qg,if_neg (by simp),Qg,if_pos rfl]
    have hN1:((wr.alloc (.cells #[I k] 3)).alloc (.cells #[.slice (pc k) (ln k) (cp k)] 33)).heap[wr.heap.size+1]? = some (.cells #[.slice (pc k) (ln k) (cp k)] 33):=by show ((wr.heap.push _).push _)[wr.heap.size+1]? = _;rw[Qg,if_pos (by simp)]
    refine ⟨rfl,rfl,rfl,?_,by unfold World.cell?;rw[hN];rfl,by unfold World.cell?;rw[hN1];rfl,?_,?_,?_,?_,by show ((wr.heap.push _).push _).size=_;simp⟩;rw[World.cell?_of_block (ho p3 l3)];exact h3k;rw[World.cell?_of_block (ho rr lr)];exact r0;rw[World.frozen?_of_block (ho rr lr)];exact r1;rw[World.cell?_of_block (ho bb lb)];exact b0;rw[World.frozen?_of_block (ho bb lb)];exact b1⟩
   have e9:rr≠bb:=hne.1;have e10:bb≠rr:=λe=>hne.1 e.symm;have Hl:Hid (rr<wr.heap.size∧bb<wr.heap.size∧p3<wr.heap.size):=⟨⟨lr,lb,l3⟩⟩
   clear hL lr lb l3 r0 r1 b0 b1 h3k;go_wp2_with fail;refine (show ∀ W:World,(W.heap=(wr.heap.push (.cells #[I k] 3)).push (.cells #[.slice (pc k) (ln k) (cp k)] 33)∧W.os=wr.os∧W.output=wr.output∧W.cell? ⟨p3,0,none⟩=some (.slice (some ⟨rr,0,none⟩) n n)∧W.cell? ⟨wr.heap.size,0,none⟩=some (I k)∧W.cell? ⟨wr.heap.size+1,0,none⟩=some (.slice (pc k) (ln k) (cp k))∧W.cell? ⟨rr,k,none⟩=some (.slice none 0 0)∧W.frozen? ⟨rr,k,none⟩=false∧W.cell? ⟨bb,k,none⟩=some .nilFunc∧W.frozen? ⟨bb,k,none⟩=false∧W.heap.size=wr.heap.size+2)->Code.wp Tryd.prog _ _ _ W from λW hW=>?_) _ HW.out;clear hsk;obtain ⟨hWh,hWo,hWu,g3,g0,g1,gr,gf,gb,gbf,hWs⟩:=hW;have HH:Hid (W.heap=(wr.heap.push (.cells #[I k] 3)).push (.cells #[.slice (pc k) (ln k) (cp k)] 33)∧W.os=wr.os∧W.output=wr.output∧W.heap.size=wr.heap.size+2):=⟨⟨hWh,hWo,hWu,hWs⟩⟩
   have x1:p3≠W.heap.size:=by have:=Hl.out;omega
   have x2:rr≠W.heap.size:=by have:=Hl.out;omega
   have x3:bb≠W.heap.size:=by have:=Hl.out;omega
   have x4:wr.heap.size≠W.heap.size:=by omega
   have x5:wr.heap.size+1≠W.heap.size:=by omega
   have hA:∀ b,b<W.heap.size->(W.alloc (.cells (madeCells #[I 0,I 0] (ln k*2)) 38)).heap[b]? = W.heap[b]?:=λb hb=>by show (W.heap.push _)[b]? = _;rw[Qg,if_neg (by omega)]
   have lA:p3<W.heap.size∧rr<W.heap.size∧bb<W.heap.size:=by have:=Hl.out;omega
   have a3:(W.alloc (.cells (madeCells #[I 0,I 0] (ln k*2)) 38)).cell? ⟨p3,0,none⟩=some (.slice (some ⟨rr,0,none⟩) n n):=by rw[World.cell?_of_block (hA p3 lA.1)];exact g3
   have a0:(W.alloc (.cells (madeCells #[I 0,I 0] (ln k*2)) 38)).cell? ⟨wr.heap.size,0,none⟩=some (I k):=by rw[World.cell?_of_block (hA wr.heap.size (by omega))];exact g0
   have a1:(W.alloc (.cells (madeCells #[I 0,I 0] (ln k*2)) 38)).cell? ⟨wr.heap.size+1,0,none⟩=some (.slice (pc k) (ln k) (cp k)):=by rw[World.cell?_of_block (hA (wr.heap.size+1) (by omega))];exact g1
   have ar:(W.alloc (.cells (madeCells #[I 0,I 0] (ln k*2)) 38)).cell? ⟨rr,k,none⟩=some (.slice none 0 0):=by rw[World.cell?_of_block (hA rr lA.2.1)];exact gr
   have af:(W.alloc (.cells (madeCells #[I 0,I 0] (ln k*2)) 38)).frozen? ⟨rr,k,none⟩=false:=by rw[World.frozen?_of_block (hA rr lA.2.1)];exact gf
   have hZ:∀ b,b<W.heap.size->b≠rr->((W.alloc (.cells (madeCells #[I 0,I 0] (ln k*2)) 38)).setCell ⟨rr,k,none⟩ (.slice (some ⟨W.heap.size,0,none⟩) (ln k) (ln k))).heap[b]? = W.heap[b]?:=λb hb hb2=>by rw[Below.heap_setCell _ _ _ _ hb2,hA b hb]
   have z0:((W.alloc (.cells (madeCells #[I 0,I 0] (ln k*2)) 38)).setCell ⟨rr,k,none⟩ (.slice (some ⟨W.heap.size,0,none⟩) (ln k) (ln k))).cell? ⟨wr.heap.size,0,none⟩=some (I k):=by rw[World.cell?_of_block (hZ wr.heap.size (by omega) (by have:=Hl.out;omega))];exact g0
   have zb:((W.alloc (.cells (madeCells #[I 0,I 0] (ln k*2)) 38)).setCell ⟨rr,k,none⟩ (.slice (some ⟨W.heap.size,0,none⟩) (ln k) (ln k))).cell? ⟨bb,k,none⟩=some .nilFunc:=by rw[World.cell?_of_block (hZ bb lA.2.2 e10)];exact gb
   have zf:((W.alloc (.cells (madeCells #[I 0,I 0] (ln k*2)) 38)).setCell ⟨rr,k,none⟩ (.slice (some ⟨W.heap.size,0,none⟩) (ln k) (ln k))).frozen? ⟨bb,k,none⟩=false:=by rw[World.frozen?_of_block (hZ bb lA.2.2 e10)];exact gbf
   have hst:(store ⟨bb,k,none⟩ (.func (.func 93) #[] #[Pt (wr.heap.size+1) 0,Pt p2 0,Pt p3 0,Pt wr.heap.size 0])).run Tryd.prog ((W.alloc (.cells (madeCells #[I 0,I 0] (ln k*2)) 38)).setCell ⟨rr,k,none⟩ (.slice (some ⟨W.heap.size,0,none⟩) (ln k) (ln k))).drew=.ok () (((W.alloc (.cells (madeCells #[I 0,I 0] (ln k*2)) 38)).setCell ⟨rr,k,none⟩ (.slice (some ⟨W.heap.size,0,none⟩) (ln k) (ln k))).setCell ⟨bb,k,none⟩ (.func (.func 93) #[] #[Pt (wr.heap.size+1) 0,Pt p2 0,Pt p3 0,Pt wr.heap.size 0])).drew:=by have zb':((W.alloc (.cells (madeCells #[I 0,I 0] (ln k*2)) 38)).setCell ⟨rr,k,none⟩ (.slice (some ⟨W.heap.size,0,none⟩) (ln k) (ln k))).drew.cell? ⟨bb,k,none⟩=some .nilFunc:=zb;have zf':((W.alloc (.cells (madeCells #[I 0,I 0] (ln k*2)) 38)).setCell ⟨rr,k,none⟩ (.slice (some ⟨W.heap.size,0,none⟩) (ln k) (ln k))).drew.frozen? ⟨bb,k,none⟩=false:=zf;show Sem.run Tryd.prog (Sem.store .plain _ _ (Sem.pure ())) _=_;simp only[Sem.run,zb',zf',Qh,if_false];rfl
   clear hWh hWo hWu hWs hA lA hZ
   go_region
   go_wp2_with fail
   go_roundw
   case rel =>refine ⟨k+1,by omega,by go_num,?_⟩;exact laid_next HL.out hlt e9 HH.out.1 HH.out.2.1 HH.out.2.2.1 rfl rfl rfl
   case measure=>simp[intOf];omega
  .have hkk:k=n:=by omega
   subst hkk;clear hL;go_wp2_with fail;exact ⟨⟨λm=>match m with|9=>u9|10=>u10|11=>.slice (some ⟨sb,so,none⟩) k cap|12=>I k|13=>.slice (some ⟨rr,0,none⟩) k k|14=>.slice (some ⟨sb,so,none⟩) k cap|15=>I k|16=>.slice (some ⟨bb,0,none⟩) k k|17=>.slice (some ⟨sb,so,none⟩) k cap|18=>I k|19=>I k|20=>.bool false|21=>u21|22=>u22|23=>u23|24=>u24|25=>u25|26=>u26|27=>u27|28=>u28|29=>u29|30=>u30|31=>u31|32=>u32|33=>u33|34=>u34|_=>undef,by simp⟩,HL.out⟩
structure Set20 (v:World) (xb n:Nat) (pc:Nat->Option Addr) (ln cp:Nat->Nat) (u:World):Prop where
 size:u.heap.size=v.heap.size+4+3*n
 p2:u.heap[v.heap.size]? = some (.cells #[.func (.func 0) #[] #[Pt xb 0]] 101)
 rrow:u.rowIs (v.heap.size+1) 31 n (λj=>.slice (some ⟨v.heap.size+4+3*j+2,0,none⟩) (ln j) (ln j))
 p3:u.heap[v.heap.size+2]? = some (.cells #[.slice (some ⟨v.heap.size+1,0,none⟩) n n] 27)
 brow:u.rowIs (v.heap.size+3) 143 n (λj=>.func (.func 93) #[] #[Pt (v.heap.size+4+3*j+1) 0,Pt v.heap.size 0,Pt (v.heap.size+2) 0,Pt (v.heap.size+4+3*j) 0])
 blk:∀ j,j<n->u.heap[v.heap.size+4+3*j]? = some (.cells #[I j] 3)∧u.heap[v.heap.size+4+3*j+1]? = some (.cells #[.slice (pc j) (ln j) (cp j)] 33)∧u.heap[v.heap.size+4+3*j+2]? = some (.cells (madeCells #[I 0,I 0] (ln j*2)) 38)
 old:∀ b,b<v.heap.size->u.heap[b]? = v.heap[b]?
 os:u.os=v.os
 out:u.output=v.output
def R20:Code:=seq2 (seq2 (seq2 (seq2 B20)))
theorem eB20:B20=.seq a200 (.seq a201 (.seq a202 (.seq a203 R20))):=by kernel_rfl
theorem run20_in {Stop:Goroutine->World->Prop}(wb xb sb so n cap:Nat) (hn8:n<=8) (pc:Nat->Option Addr) (ln cp:Nat->Nat) (hln:∀ k,k<n->ln k<=64) (hs:∀ k,k<n->v.cell? ⟨sb,so+k,none⟩=some (.slice (pc k) (ln k) (cp k))) (cs:List Frame) {bc:Frame}{ac:Act}{ops:Array Oper}{q:Nat}{rest:List Nat}{oc:Oper}{k:List Item}(hoc:ops[q]? = some oc)
 (hsb:sb<v.heap.size) (hvw:Rel zn v w) (hn:NoRow Ch v)
 (hk:∀ v' w' (bd:Frame) (ad:Act) (od:Array Oper) (qd:Nat) (rd:List Nat) (oe:Oper) (kd:List Item),Rel zn v' w'->NoRow Ch v'->Set20 v xb n pc ln cp v'->od[qd]? = some oe ->
   (∀ (Ch:Nat->Prop) (Stop:Goroutine->World->Prop) (w:World) (x:Value),w.cell? ⟨v.heap.size+2,0,none⟩=some x->(∀ d,GoesI Tryd.prog main (DT (ScZ zn) Ch) Stop (G (bc.at (ac.put oc.dst x) (.inRegion ops rest :: k)) cs) (w.at d))->GoesI Tryd.prog main (DT (ScZ zn) Ch) Stop (G (bd.at (ad.put oe.dst (.tuple #[])) (.inRegion od rd :: kd)) (bc.at ac (.inRegion ops (q :: rest) :: k) :: cs)) w) ->
   GoesI Tryd.prog main (DT (ScZ zn) Ch) Stop (G ((base 95).at { tmps:=#[Pt wb 0,.slice (some ⟨v.heap.size+3,0,none⟩) n n]++Array.replicate 60 undef,defers:=[] } [.code B35]) (bd.at ad (.inRegion od (qd :: rd):: kd):: bc.at ac (.inRegion ops (q :: rest):: k):: cs)) w'):
 GoesI Tryd.prog main (DT (ScZ zn) Ch) Stop (G ((base 60).at { tmps:=#[Pt wb 0,.slice (some ⟨sb,so,none⟩) n cap,.func (.func 0) #[] #[Pt xb 0]]++Array.replicate 36 undef,defers:=[] } [.code B20]) (bc.at ac (.inRegion ops (q :: rest) :: k) :: cs)) w:=by
 rw[eB20];refine goesI_seq (dt_idle _ _) ?_;refine goesI_plain (z:=zn) (wr:=true) (L:=LT) (I:=NoRow Ch) hE fineT noRow_keeps (λv v' w w' es hi hr ho he=>dt_of_z v v' w w' es hi hr ho he) hvw fine200 rfl (by simp[base]) hn
  (Q:=λa w'=>a={ tmps:=#[Pt wb 0,.slice (some ⟨sb,so,none⟩) n cap,.func (.func 0) #[] #[Pt xb 0],undef,undef,Pt v.heap.size 0,.slice none 0 0]++Array.replicate 32 undef,defers:=[] }∧w'.heap=v.heap.push (.cells #[.func (.func 0) #[] #[Pt xb 0]] 101)∧w'.os=v.os∧w'.output=v.output) (λτ=>a200_wp (onTape v τ 0) wb n (some ⟨sb,so,none⟩) cap xb) ?_
 rintro a1 v1 w1 ⟨rfl,e1,o1,u1⟩ hr1 hn1 -;have s1:v1.heap.size=v.heap.size+1:=by rw[e1];simp
 refine goesI_seq (dt_idle _ _) ?_;refine goesI_plain (z:=zn) (wr:=true) (L:=LT) (I:=NoRow Ch) hE fineT noRow_keeps (λv v' w w' es hi hr ho he=>dt_of_z v v' w w' es hi hr ho he) hr1 fine201 rfl (by simp[base]) hn1
  (Q:=λa w'=>a={ tmps:=#[Pt wb 0,.slice (some ⟨sb,so,none⟩) n cap,.func (.func 0) #[] #[Pt xb 0],undef,undef,Pt v.heap.size 0,.slice none 0 0,Pt (v1.heap.size+1) 0,undef,undef,undef,.slice (some ⟨sb,so,none⟩) n cap,I n,.slice (some ⟨v1.heap.size,0,none⟩) n n]++Array.replicate 25 undef,defers:=[] }∧w'.heap=(v1.heap.push (.cells (madeCells #[.slice none 0 0] n) 31)).push (.cells #[.slice (some ⟨v1.heap.size,0,none⟩) n n] 27)∧w'.os=v1.os∧w'.output=v1.output) (λτ=>a201_wp (onTape v1 τ 0) wb v.heap.size n (some ⟨sb,so,none⟩) cap _ hn8) ?_
 rintro a2 v2 w2 ⟨rfl,e2,o2,u2⟩ hr2 hn2 -;have s2:v2.heap.size=v.heap.size+3:=by rw[e2];simp;omega
 refine goesI_seq (dt_idle _ _) ?_;refine goesI_plain (z:=zn) (wr:=true) (L:=LT) (I:=NoRow Ch) hE fineT noRow_keeps (λv v' w w' es hi hr ho he=>dt_of_z v v' w w' es hi hr ho he) hr2 fine202 rfl (by simp[base]) hn2
  (Q:=λa w'=>a={ tmps:=#[Pt wb 0,.slice (some ⟨sb,so,none⟩) n cap,.func (.func 0) #[] #[Pt xb 0],undef,undef,Pt v.heap.size 0,.slice none 0 0,Pt (v1.heap.size+1) 0,.slice (some ⟨v2.heap.size,0,none⟩) n n,undef,undef,.slice (some ⟨sb,so,none⟩) n cap,I n,.slice (some ⟨v1.heap.size,0,none⟩) n n,.slice (some ⟨sb,so,none⟩) n cap,I n,.slice (some ⟨v2.heap.size,0,none⟩) n n]++Array.replicate 22 undef,defers:=[] }∧w'.heap=v2.heap.push (.cells (madeCells #[.nilFunc] n) 143)∧w'.os=v2.os∧w'.output=v2.output) (λτ=>a202_wp (onTape v2 τ 0) wb v.heap.size (v1.heap.size+1) v1.heap.size n (some ⟨sb,so,none⟩) cap _ hn8) ?_
 rintro a3 v3 w3 ⟨rfl,e3,o3,u3⟩ hr3 hn3 -;have s3:v3.heap.size=v.heap.size+4:=by rw[e3];simp;omega
 have k1:∀ b,b<v.heap.size->v1.heap[b]? = v.heap[b]?:=λb hb=>by rw[e1,Qg,if_neg (by omega)]
 have k2:∀ b,b<v.heap.size+1->v2.heap[b]? = v1.heap[b]?:=λb hb=>by rw[e2,Qg,if_neg (by simp;omega),Qg,if_neg (by omega)]
 have k3:∀ b,b<v.heap.size+3->v3.heap[b]? = v2.heap[b]?:=λb hb=>by rw[e3,Qg,if_neg (by omega)]
 have f0:v3.heap[v.heap.size]? = some (.cells #[.func (.func 0) #[] #[Pt xb 0]] 101):=by rw[k3 _ (by omega),k2 _ (by omega),e1];exact Qo
 have f1:v3.heap[v.heap.size+1]? = some (.cells (madeCells #[.slice none 0 0] n) 31):=by rw[k3 _ (by omega),e2,Qg,if_neg (by simp;omega),Qg,if_pos (by omega)]
 have f2:v3.heap[v.heap.size+2]? = some (.cells #[.slice (some ⟨v.heap.size+1,0,none⟩) n n] 27):=by rw[k3 _ (by omega),e2,Qg,if_pos (by simp;omega),s1]
 have f3:v3.heap[v.heap.size+3]? = some (.cells (madeCells #[.nilFunc] n) 143):=by rw[e3,Qg,if_pos (by omega)]
 have ko:∀ b,b<v.heap.size->v3.heap[b]? = v.heap[b]?:=λb hb=>by rw[k3 b (by omega),k2 b (by omega),k1 b hb]
 refine goesI_seq (dt_idle _ _) ?_;rw[s1,s2];refine goesI_plain (z:=zn) (wr:=true) (L:=LT) (I:=NoRow Ch) hE fineT noRow_keeps (λv v' w w' es hi hr ho he=>dt_of_z v v' w w' es hi hr ho he) hr3 fine203 rfl (by simp[base]) hn3
  (Q:=λa w'=>(∃ u:Nat->Value,a={ tmps:=#[Pt wb 0,.slice (some ⟨sb,so,none⟩) n cap,.func (.func 0) #[] #[Pt xb 0],undef,undef,Pt v.heap.size 0,.slice none 0 0,Pt (v.heap.size+1+1) 0,.slice (some ⟨v.heap.size+3,0,none⟩) n n,u 9,u 10,u 11,u 12,u 13,u 14,u 15,u 16,u 17,u 18,u 19,u 20,u 21,u 22,u 23,u 24,u 25,u 26,u 27,u 28,u 29,u 30,u 31,u 32,u 33,u 34,u 35,u 36,u 37,u 38],defers:=[] })∧Laid v3 n v.heap.size (v.heap.size+1+1) (v.heap.size+1) (v.heap.size+3) pc ln cp n w') (λτ=>?_) ?_
 .refine wp_mono (a203_wp (onTape v3 τ 0) wb v.heap.size (v.heap.size+1+1) (v.heap.size+1) (v.heap.size+3) sb so n cap _ hn8 pc ln cp hln (λk hk=>?_) ?_ ?_ ?_ ⟨by omega,by omega,by omega,by omega,by omega⟩) (λe a w' hq=>⟨hq.1,hq.2.1,?_⟩)
  .show v3.cell? _=_
   rw[World.cell?_of_block (w:=v) (w':=v3) (ko sb hsb)];exact hs k hk
  exact ⟨_,f1,size_madeCells _ _,λi hi=>by simp[madeCells,hi,Nat.mod_one]⟩;exact ⟨_,f3,size_madeCells _ _,λi hi=>by simp[madeCells,hi,Nat.mod_one]⟩
  .show v3.cell? _=_
   unfold World.cell?;rw[show (⟨v.heap.size+1+1,0,none⟩:Addr).block=v.heap.size+2 from rfl,f2];rfl
  .have:=hq.2.2
   exact ⟨this.size,this.rrow,this.brow,this.blk,this.old,this.os,this.out⟩
 rintro a4 v4 w4 ⟨⟨u,rfl⟩,hL⟩ hr4 hn4 -;have hset:Set20 v xb n pc ln cp v4:=by refine ⟨by rw[hL.size,s3],by rw[hL.old _ (by omega) (by omega) (by omega)];exact f0,hL.rrow.congr λi hi=>by rw[if_pos hi,s3],by rw[hL.old _ (by omega) (by omega) (by omega)];exact f2,hL.brow.congr λi hi=>by rw[if_pos hi,s3],λj hj=>by have:=hL.blk j hj;rw[s3] at this;exact this,λb hb=>by rw[hL.old b (by omega) (by omega) (by omega)];exact ko b hb,by rw[hL.os,o3,o2,o1],by rw[hL.out,u3,u2,u1]⟩
 clear hL hr1 hr2 hr3 hn1 hn2 hn3 e1 e2 e3 o1 o2 o3 u1 u2 u3 k1 k2 k3 f0 f1 f2 f3 ko hvw hn hs hln s1 s2 s3;unfold R20 B20 Tryd.f60 seq2;simp only[Qa];refine goesI_seq (dt_idle _ _) ?_;refine goesI_region (dt_idle _ _) ?_;simp only[Sz,Sr,Nat.reduceAdd];iterate 2
  (refine goesI_oper rfl rfl (by decide) (λd K hK=>?_)
   go_simp;refine hK _ _ ⟨dt_reads (λe he=>?_),GoesI.at ?_ d⟩
   .have hm:=mem_listed he
    simp[go_sem, *] at hm
    try exact ⟨_,_,hm⟩
   clear hK K)
 refine goesI_into (f:=95) (fn:=Tryd.f95) (args:=#[Pt wb 0,.slice (some ⟨v.heap.size+3,0,none⟩) n n]) (dt_idle _ _) rfl rfl (by decide) rfl (by simp[Act.eval]) Tryd.func95 (by decide) rfl ?_;refine hk v4 w4 _ _ _ _ _ _ _ hr4 hn4 hset rfl (λCh Stop w x hx hg=>?_);clear hk hset hr4 hn4;refine goesI_regionEnd (dt_idle _ _) ?_;refine goesI_seq (dt_idle _ _) ?_;refine goesI_region (dt_idle _ _) ?_;simp only[Sz,Sr,Nat.reduceAdd];have hx':w.cell? ⟨v.heap.size+1+1,0,none⟩=some x:=hx;iterate 2
  (refine goesI_oper rfl rfl (by decide) (λd K hK=>?_)
   go_simp;refine hK _ _ ⟨dt_reads (λe he=>?_),GoesI.at ?_ d⟩
   .have hm:=mem_listed he
    simp[go_sem, *] at hm
    try exact ⟨_,_,hm⟩
   clear hK K)
 refine goesI_regionEnd (dt_idle _ _) ?_;refine GoesI.ctl rfl (λ_=>stepG_ret') (dt_idle _ _) ?_;refine goesI_leave (b:=base 60) (fn:=Tryd.f60) (v:=x) rfl rfl Tryd.func60 (λw=>?_) (λw=>by simp[results,go_sem,Tryd.f60]) hoc (dt_idle _ _) ?_
 .rw[results_tmp (t:=6) rfl]
  simp
 .have:=hg w.drawn
  exact this
def Celled (wb:Nat) (tv:Value) (n base:Nat) (xs:List Value) (x:Value) (w w':World):Prop :=
 ∃ g cap,(∀ c t f,w.heap[wb]? = some (.cells c t f)->w'.heap[wb]? = some (.cells (c.setIfInBounds 3 (.slice (some ⟨g,0,none⟩) (n+1) cap)) t f)) ∧
   w'.ownsRow base 3 1 (.slice (some ⟨g,0,none⟩) (n+1) cap) (n+1) (xs++[x])∧(tv.ownBlock=some g∨w.heap.size<=g)∧Fr (λb=>b=wb∨some b=tv.ownBlock) w w'
theorem celled_of {tv x:Value}{n base:Nat}{xs:List Value}{u w6:World}{g cap:Nat}(hb:Below w.heap.size w u) (hw:wb<w.heap.size) (hg:u.grownBy w6 tv.ownBlock) (hown:w6.ownsRow base 3 1 (.slice (some ⟨g,0,none⟩) (n+1) cap) (n+1) (xs++[x]))
 (hat:tv.ownBlock=some g∨g=u.heap.size) (hne:tv.ownBlock≠some wb):Celled wb tv n base xs x w (w6.setCell ⟨wb,3,none⟩ (.slice (some ⟨g,0,none⟩) (n+1) cap)):=by
 have hgw:g≠wb:=by rcases hat with h|h;exact λe=>hne (by rw[h,e]);have:=hb.size;omega
 have e6:w6.heap[wb]? = w.heap[wb]?:=(hg.block wb (Qp hw hb.size) (Ne.symm hne)).trans (hb.block wb hw);refine ⟨g,cap,λc t f h=>heap_setCell_same (by rw[e6];exact h) _,own_set hown _ _ (λe=>hgw (Qd e)),?_,?_⟩
 .rcases hat with h|h
  exact .inl h;exact .inr (by have:=hb.size;omega)
 .refine ⟨by show w6.os=_;rw[hg.os,hb.os],by show w6.output=_;rw[hg.output,hb.output],?_,λb hlt hs=>?_⟩
  .have:=hb.size
   have:=hg.size;simp only[World.setCell,Array.size_modify];omega
  rw[Below.heap_setCell _ _ _ _ (λe=>hs (.inl e)),hg.block b (Qp hlt hb.size) (λe=>hs (.inr e)),hb.block b hlt]
def celledS (S:TS) (cv:Value):TS:={ S with cv:=cv,chg:=S.chg++[0] }
theorem celled_ev {v':World}(h:Rep z S v) (hN:Celled S.wb S.cv S.chg.length S.base (S.chg.map I) (I 0) v v'):∃ cv',Ev z S v (celledS S cv') v':=by
 obtain ⟨g,cap,hw,hown,hat,hfr⟩:=hN;have hst:∀ k b,blk S k=some b->k≠0->k≠1->v'.heap[b]? = v.heap[b]?:=λk b hk h0 h3=>hfr.block b (h.lt hk) (λhS=>by rcases hS with rfl|hS;exact h0 (h.apart k 0 _ hk rfl);exact h3 (h.apart k 1 b hk hS.symm))
 have hnew:∀ k b,blk (celledS S (.slice (some ⟨g,0,none⟩) (S.chg.length+1) cap)) k=some b->(blk S k=some b)∨(k=1∧b=g):=λk b hk=>by
  match k,hk with
  |0,hk=>exact .inl hk
  |1,hk=>cases hk;exact .inr ⟨rfl,rfl⟩
  |2,hk=>exact .inl hk
  |3,hk=>exact .inl hk
  |4,hk=>exact .inl hk
  |k+5,hk=>exact .inl hk
 refine ⟨.slice (some ⟨g,0,none⟩) (S.chg.length+1) cap,⟨?_,λj t' ht'=>?_,own_stay (λb hb=>hst 3 b hb (by omega) (by omega)) h.own,?_,own_stay (λb hb=>hst 2 b hb (by omega) (by omega)) h.ths,own_stay (λb hb=>hst 4 b hb (by omega) (by omega)) h.sch,Qk h.bs hfr.size,λj k b hj hk=>?_,h.kept⟩,hfr.mono (λx _ hx=>?_),λb ⟨k,hk⟩=>?_⟩
 .have:=hw _ _ _ h.wor
  simpa [celledS] using this
 .rw[hst (j+5) t'.tb (by simp only[blk];rw[show S.thr[j]? = some t' from ht'];rfl) (by omega) (by omega)]
  exact h.thr j t' ht'
 .show v'.ownsRow S.base 3 1 _ (S.chg++[0]).length ((S.chg++[0]).map I)
  rw[Qj,List.map_append];exact hown
 .rcases hnew j b hj with e1|⟨rfl,rfl⟩<;>rcases hnew k b hk with e2|⟨rfl,e2⟩
  exact h.apart j k b e1 e2
  .subst e2
   rcases hat with ha|ha;exact h.apart j 1 b e1 ha;have:=h.lt e1;omega
  .rcases hat with ha|ha
   exact h.apart 1 k b ha e2;have:=h.lt e2;omega
  rfl
 .rcases hx with rfl|hx
  exact ⟨0,rfl⟩;exact ⟨1,hx.symm⟩
 .rcases hnew k b hk with e1|⟨_,rfl⟩
  exact .inl ⟨k,e1⟩
  .rcases hat with ha|ha
   exact .inl ⟨1,ha⟩;exact .inr ha
theorem info3:(Tryd.prog.info? 3).map (λi=>(i.zero,i.size,i.bytes))=some (some (I 0),1,8):=by kernel_rfl
theorem newsI (w:World) (x:Int) (t:TypeId):∀ j u,[I x][j]? = some u->(w.alloc (.cells #[I x] t)).cell? ((⟨w.heap.size,0,none⟩:Addr).add j)=some u:=by intro j u hj;have hb:(w.alloc (.cells #[I x] t)).heap[w.heap.size]? = some (.cells #[I x] t):=Qo;exact World.news_of_block hb j u hj
theorem oneI (x:Int):∀ u∈[I x],u.oneCell'=true:=by intro u hu;simp at hu;subst hu;rfl
theorem body24 (h:Rep z S v) (hn:S.chg.length<=17592186043904):Body Tryd.f103 #[Pt S.wb 0] v (λr v'=>r=I S.chg.length∧∃ cv,Ev z S v (celledS S cv) v'):=by
 intro code hb;obtain rfl:=Qd hb;clear hb;have c3:=h.wcell.2.2.2.1;have f3:=fz_off h 3 (by omega);have HR:Hid (Rep z S v):=⟨h⟩
 have q3:S.wb<v.heap.size:=World.block_lt_of_cell? _ _ c3;have qb:S.base<=v.heap.size:=h.bs;obtain ⟨tp,tc,htv⟩:=own_form h.chg;have HO:Hid (v.ownsRow S.base 3 1 (.slice tp S.chg.length tc) S.chg.length (S.chg.map I)):=⟨by rw[<-htv];exact h.chg⟩
 have n1:(Value.slice tp S.chg.length tc).ownBlock≠some S.wb:=by rw[<-htv];exact λe=>by have:=h.apart 1 0 S.wb e rfl;omega
 have HT:Hid (S.cv=.slice tp S.chg.length tc):=⟨htv⟩
 rw[htv] at c3;obtain ⟨j0,hj,hj0,hj1,hj2⟩:=info_parts info3;have hne:S.wb≠v.heap.size:=by omega
 have hne':v.heap.size≠S.wb:=by omega
 have K3:Hid (v.cell? ⟨S.wb,3,none⟩=some (.slice tp S.chg.length tc)∧v.frozen? ⟨S.wb,3,none⟩=false):=⟨⟨c3,f3⟩⟩
 clear h htv;simp only[Tryd.ntmps103,Sz,Nat.reduceAdd,Nat.reduceSub,Sy]
 go_wp2_with (first
  |(refine wpList_append_lies _ rfl (.tmp 9) (.tmp 10) 22 rfl S.base 3 j0 _ 1 8 Tryd.underlying22 hj hj0 hj1 hj2 rfl (by decide) (.slice tp S.chg.length tc) S.chg.length (S.chg.map I) rfl (own_later (below_alloc (Below.refl _ _) _) HO.out) ⟨_,0,none⟩ 1 1 [I 0] rfl rfl (newsI _ _ _) (oneI _) (by decide) (by unfold maxLen;omega) (by omega) (by simp;omega) _ rfl ?_
    intro g cpg w6 hown6 hgrow6 hat6 hlt6;obtain ⟨k5,k6⟩:=keep2g ⟨kcell (below_alloc (Below.refl _ _) _) K3.out.1,by rw[(below_alloc (Below.refl _ _) _).frozen q3];exact K3.out.2⟩ hgrow6 n1))
 go_ret;exact ⟨_,rfl,rfl,celled_ev HR.out (by rw[HT.out];exact celled_of (below_alloc (Below.refl _ _) _) q3 hgrow6 hown6 hat6 n1)⟩
theorem mem_newcell {v1 v3:World}{cv:Value}{x:Int}(hm:Mem z S K v) (he:Ev z S v (celledS S cv) v1) (hh:v3.heap=v1.heap.push (.cells #[I S.chg.length,I x] 158)) (ho:v3.os=v1.os) (hu:v3.output=v1.output):
 Mem z (celledS S cv) (K++[(v1.heap.size,x)]) v3∧Fr (Own S K) v v3∧∀ b,Own (celledS S cv) (K++[(v1.heap.size,x)]) b->Own S K b∨v.heap.size<=b:=by
 have hold:∀ b,b<v1.heap.size->v3.heap[b]? = v1.heap[b]?:=λb hb=>by rw[hh,Qg,if_neg (by omega)]
 have hs3:v3.heap.size=v1.heap.size+1:=by rw[hh];simp
 have hrep:Rep z (celledS S cv) v3:=he.rep.grows (by omega) hold;have hKl:K.length=S.chg.length:=hm.len.symm;have hget:∀ (j:Nat) (c:Nat×Int),(K++[(v1.heap.size,x)])[j]? = some c->(j<K.length∧K[j]? = some c)∨(j=K.length∧c=(v1.heap.size,x)):=λj c hj=>by
  rcases Nat.lt_trichotomy j K.length with h1|h1|h1;rw[Qn h1] at hj;exact .inl ⟨h1,hj⟩
  .subst h1
   rw[List.getElem?_append_right (Qi _)] at hj;simp at hj;exact .inr ⟨rfl,hj.symm⟩
  .rw[List.getElem?_append_right (by omega)] at hj
   have:j - K.length≠0:=by omega
   simp[this] at hj
 have hKlt:∀ (j:Nat) (c:Nat×Int),K[j]? = some c->c.1<v.heap.size:=λj c hc=>hm.lt (.inr ⟨j,c,hc,rfl⟩);have hits:∀ b,Its (celledS S cv) b->b<v1.heap.size:=λb ⟨k,hk⟩=>he.rep.lt hk;refine ⟨⟨hrep,λj c hj=>?_,λj c hj hi=>?_,λi j c d hi hj e=>?_,?_⟩,⟨ho.trans he.fr.os,hu.trans he.fr.output,by have:=he.fr.size;omega,λb hb hs=>?_⟩,λb hb=>?_⟩
 .rcases hget j c hj with ⟨h1,h2⟩|⟨rfl,rfl⟩
  .have hlt:=hKlt j c h2
   rw[hold c.1 (by have:=he.fr.size;omega),he.fr.block c.1 hlt (hm.far j c h2)];exact hm.cel j c h2
  .show v3.heap[v1.heap.size]? = _
   rw[hh,hKl];exact Qo
 .rcases hget j c hj with ⟨h1,h2⟩|⟨rfl,rfl⟩
  .rcases he.new _ hi with h3|h3
   exact hm.far j c h2 h3;have:=hKlt j c h2;omega
  .have h9:=hits _ hi
   exact Nat.lt_irrefl _ h9
 .rcases hget i c hi with ⟨h1,h2⟩|⟨rfl,rfl⟩<;>rcases hget j d hj with ⟨h3,h4⟩|⟨rfl,rfl⟩
  exact hm.inj i j c d h2 h4 e
  .have:=hKlt i c h2
   have:=he.fr.size;have e':c.1=v1.heap.size:=e;omega
  .have:=hKlt j d h4
   have:=he.fr.size;have e':v1.heap.size=d.1:=e;omega
  rfl
 .show (S.chg++[0]).length=(K++[_]).length
  simp[hKl]
 rw[hold b (by have:=he.fr.size;omega),he.fr.block b hb (λhi=>hs (.inl hi))]
 .rcases hb with hb|⟨j,c,hj,rfl⟩
  exact (he.new b hb).imp .inl id
  .rcases hget j c hj with ⟨h1,h2⟩|⟨rfl,rfl⟩
   exact .inl (.inr ⟨j,c,h2,rfl⟩);right;exact he.fr.size
theorem body10 (hm:Mem z S K v) (x:Int) (hn:S.chg.length<=17592186043904):Body Tryd.f70 #[Pt S.wb 0,I x] v (λr v'=>∃ cb cv,r=Pt cb 0∧Mem z (celledS S cv) (K++[(cb,x)]) v'∧Fr (Own S K) v v'∧∀ b,Own (celledS S cv) (K++[(cb,x)]) b->Own S K b∨v.heap.size<=b):=by
 intro code hb;obtain rfl:=Qd hb;clear hb;have HM:Hid (Mem z S K v):=⟨hm⟩
 have h24:=(body24 hm.rep hn).calls Tryd.func103 rfl;have H24:Hid _:=⟨h24⟩
 clear hm h24;simp only[Tryd.ntmps70,Sz,Nat.reduceAdd,Nat.reduceSub,Sy]
 go_wp2_with (first
  |(go_at_call 103;refine H24.out.mono ?_;rintro e w1 ⟨r1,rfl,rfl,cv,hev⟩;have HEV:Hid (Ev z S v (celledS S cv) w1):=⟨hev⟩;clear hev)
  |(go_at_call 104
    have hb:(w1.alloc (.cells #[I S.chg.length,I 0] 158)).heap[w1.heap.size]? = some (.cells #[I S.chg.length,I 0] 158):=Qo;refine ((body25 w1.heap.size 0 x _ (by unfold World.cell?;rw[hb];rfl) (by unfold World.frozen?;rw[hb];rfl)).calls Tryd.func104 rfl).mono ?_;rintro e w2 ⟨r2,rfl,rfl,rfl⟩))
 go_ret;exact ⟨_,rfl,w1.heap.size,cv,rfl,mem_newcell HM.out HEV.out rfl rfl rfl⟩
theorem body32 (h:Rep z S v):Body Tryd.f92 #[Pt S.wb 0] v (λr v'=>r=.bool S.ran∧v'=v):=by
 intro code hb;obtain rfl:=Qd hb;clear hb;have c7:=h.wcell.2.2.2.2.2.2.2.1;clear h;simp only[Tryd.ntmps92,Sz,Nat.reduceAdd,Nat.reduceSub,Sy]
 go_wp2
 go_ret;exact ⟨_,rfl,rfl,rfl⟩
def checkE (n:Nat) (ran:Bool):Int:=if n=0∨8<n∨ran=true then 1 else 0
def checkS (n:Nat):Int:=if n=0∨8<n then 1 else 0
theorem body57 (p:Option Addr) (n cap:Nat) (hn:n<=17592186043904) (pc:Nat->Option Addr) (ln cp:Nat->Nat) (hs:∀ k,k<n->∃ sb so,p=some ⟨sb,so,none⟩∧v.cell? ⟨sb,so+k,none⟩=some (.slice (pc k) (ln k) (cp k))):
 Body Tryd.f91 #[.slice p n cap] v (λr v'=>v'=v∧(((∃ k,k<n∧64<ln k)∧r=I 2)∨((∀ k,k<n->ln k<=64)∧r=I (checkS n)))):=by
 intro code hb;obtain rfl:=Qd hb;clear hb;have HS:Hid (∀ k,k<n->∃ sb so,p=some ⟨sb,so,none⟩∧v.cell? ⟨sb,so+k,none⟩=some (.slice (pc k) (ln k) (cp k))):=⟨hs⟩
 clear hs;simp only[Tryd.ntmps91,Sz,Nat.reduceAdd,Nat.reduceSub,Sy];go_wp2_with fail
 go_loopw [7] (λi u=>u=v∧∃ k:Nat,k<=n∧i=.int .i64 k∧∀ j,j<k->ln j<=64) (λi _=>n - (intOf i).toNat)
 case atStart=>exact ⟨rfl,0,Nat.zero_le _,rfl,λj hj=>by omega⟩
 case round =>
  obtain ⟨rfl,k,hk,rfl,hL⟩:=hrel;have HL:Hid (∀ j,j<k->ln j<=64):=⟨hL⟩
  clear hL;by_cases hlt:k<n
  .obtain ⟨sb,so,rfl,hc⟩:=HS.out k hlt
   have hlt':(k:Int)<(n:Int):=by omega
   by_cases hb:(64:Int)<(ln k:Int)
   .go_wp2_with fail
    go_ret;exact ⟨_,rfl,rfl,.inl ⟨⟨k,hlt,by omega⟩,rfl⟩⟩
   .go_wp2_with fail
    go_roundw
    case rel =>
     refine ⟨trivial,k+1,by omega,by go_num,λj hj=>?_⟩;rcases Nat.lt_or_ge j k with h1|h1;exact HL.out j h1
     .have:j=k:=by omega
      subst this;omega
    case measure=>simp[intOf];omega
  .have hkk:k=n:=by omega
   subst hkk;have hb0:(I (k:Int):Value)=.int .i64 (k:Int):=rfl;by_cases e0:(k:Int)=0
   .go_wp2_with fail
    go_ret;exact ⟨_,rfl,rfl,.inr ⟨HL.out,by unfold checkS;rw[if_pos (.inl (by omega))];rfl⟩⟩
   .by_cases e8:(8:Int)<(k:Int)
    .go_wp2_with fail
     go_ret;exact ⟨_,rfl,rfl,.inr ⟨HL.out,by unfold checkS;rw[if_pos (.inr (by omega))];rfl⟩⟩
    .go_wp2_with fail
     go_ret;exact ⟨_,rfl,rfl,.inr ⟨HL.out,by unfold checkS;rw[if_neg (by omega)];rfl⟩⟩
theorem body19 (h:Rep z S v) (p:Option Addr) (n cap:Nat) (hn:n<=17592186043904) (pc:Nat->Option Addr) (ln cp:Nat->Nat) (hs:∀ k,k<n->∃ sb so,p=some ⟨sb,so,none⟩∧v.cell? ⟨sb,so+k,none⟩=some (.slice (pc k) (ln k) (cp k))):
 Body Tryd.f59 #[Pt S.wb 0,.slice p n cap] v (λr v'=>v'=v∧(((∃ k,k<n∧64<ln k)∧r=I 2)∨((∀ k,k<n->ln k<=64)∧r=I (checkE n S.ran)))):=by
 intro code hb;obtain rfl:=Qd hb;clear hb;have h57:=(body57 (v:=v) p n cap hn pc ln cp hs).calls Tryd.func91 rfl;have H57:Hid _:=⟨h57⟩
 have h32:=(body32 h).calls Tryd.func92 rfl;have H32:Hid _:=⟨h32⟩
 clear h hs h32 h57;simp only[Tryd.ntmps59,Sz,Nat.reduceAdd,Nat.reduceSub,Sy];go_wp2_with fail
 go_at_call 91
 refine H57.out.mono ?_;rintro e w1 ⟨r1,rfl,rfl,hq⟩;rcases hq with ⟨hq,rfl⟩|⟨hq,rfl⟩
 .have HQ:Hid _:=⟨hq⟩
  clear hq;go_wp2_with fail;go_ret;exact ⟨_,rfl,rfl,.inl ⟨HQ.out,rfl⟩⟩
 .have HQ:Hid _:=⟨hq⟩
  clear hq;by_cases hc:n=0∨8<n
  .have e1:checkS n=1:=by unfold checkS;rw[if_pos hc]
   rw[e1];go_wp2_with fail;go_ret;exact ⟨_,rfl,rfl,.inr ⟨HQ.out,by unfold checkE;rw[if_pos (by omega)];rfl⟩⟩
  .have e1:checkS n=0:=by unfold checkS;rw[if_neg hc]
   rw[e1]
   go_wp2_with (first
    |(go_at_call 92;refine H32.out.mono ?_;rintro e w1 ⟨r1,rfl,rfl,rfl⟩))
   .rename_i hq
    go_ret;refine ⟨_,rfl,rfl,.inr ⟨HQ.out,?_⟩⟩;unfold checkE;rw[if_pos (.inr (.inr hq))];rfl
   .rename_i hq
    go_ret;refine ⟨_,rfl,rfl,.inr ⟨HQ.out,?_⟩⟩;unfold checkE;rw[if_neg (by rintro (h1|h1|h1)<;>first|omega|(rw[hq] at h1;cases h1))];rfl
end Go.Proofs.YtfjjoohflcchnaaDoor
