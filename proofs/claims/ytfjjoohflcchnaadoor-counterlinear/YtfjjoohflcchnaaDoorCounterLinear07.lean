/- CounterLinear, part 7 of 24: Carry2, Carry3, Carry4, Body33, MainN, GPure, GHome, GDrive1, GDrive2. -/
import Derived.Test.YtfjjoohflcchnaaDoorCounterLinear01
import Derived.Test.YtfjjoohflcchnaaDoorCounterLinear05
import Derived.Test.YtfjjoohflcchnaaDoorCounterLinear06
set_option linter.unusedSimpArgs false
set_option linter.unusedVariables false
set_option maxHeartbeats 4000000
set_option maxRecDepth 100000
noncomputable section
namespace Go.Proofs.YtfjjoohflcchnaaDoor
open Go Go.Lift Go.Conc Go.RowKit
variable {z:Nat->Option Nat} {Ch:Nat->Prop} {Stop:Goroutine->World->Prop} {main:Bool} {S:TS} {K:List (Nat×Int)} {v w:World} {i q:Nat} {bc:Frame} {ac:Act} {ops:Array Oper} {rest:List Nat} {oc:Oper} {k:List Item}
def ops347:Array Oper:=opsOf (seq1 (seq2 (seq2 (seq2 (blockC (seq1 (seq2 (seq2 L34))))))))
def R89:Code:=seq2 (seq2 (seq2 (seq2 (blockC (seq1 (seq2 (seq2 L34)))))))
def R10:Code:=seq2 (seq2 (seq2 L34))
def cAct (tb:Nat) (csl F asl:Value) (rb ro n ii N:Nat) (x:Value) (u:Nat->Value):Act :=
 ⟨#[Pt tb 0,csl,F,asl,undef,undef,undef,undef,.bool false,I ii,Pt N 0,csl,I n,I ii,.bool true,I ii,Pt rb (ro+ii*4),x,.bool false,u 19,u 20,u 21,u 22,Pt tb 0]++#[I ii,.tuple #[],asl,I ii,F,Pt tb 0,x,u 31,u 32,u 33,u 34,u 35,u 36,u 37,u 38,u 39,u 40,u 41,u 42,u 43,u 44,u 45,u 46,u 47],[]⟩
theorem carry_step {z : Nat → Option Nat} {Ch : Nat → Prop} {Stop : Goroutine → World → Prop} {K : List (Nat × Int)} {t : Thr} (asl : Value) (f : FuncId) (fn : Func) (bn cp : Array Value) (hf : Tryd.prog.funcs[f]? = some fn) (hname : (fn.name == "runtime.NumGoroutine") = false) (cf : Code) (hcf : fn.body = some cf) (rb ro n cap ii : Nat) (po ca cb cc : Int) (u : Nat → Value) (cs : List Frame) (hi : ii < n)
 (h0:v.cell? ⟨rb,ro+ii*4,none⟩=some (I po)) (h1:v.cell? ⟨rb,ro+ii*4+1,none⟩=some (I ca)) (h2:v.cell? ⟨rb,ro+ii*4+2,none⟩=some (I cb)) (h3:v.cell? ⟨rb,ro+ii*4+3,none⟩=some (I cc))
 (hvw:Rel z v w) (hn:NoRow Ch v) (hm:Mem z S K v) (ht:S.thr[i]? = some t) (hl:(S.n+1)*40<=140737488355328)
 (hk:∀ v' w' tv,Rel z v' w'->NoRow Ch v'->Evo z S K v (noted S tv i 9 (-1) ii 0) K v'->v'.heap[v.heap.size]? = some (.cells #[I po,I ca,I cb,I cc] 35 (0,0)) ->
   GoesI Tryd.prog main (DT (ScZ z) Ch) Stop (G ((base f).at { tmps:=(bn++#[Pt t.tb 0,.agg #[I po,I ca,I cb,I cc]]++cp)++Array.replicate (fn.ntmps - (bn++#[Pt t.tb 0,.agg #[I po,I ca,I cb,I cc]]++cp).size) undef,defers:=[] } [.code cf])
    ((base 94).at (cAct t.tb (.slice (some ⟨rb,ro,none⟩) n cap) (.func (.func f) bn cp) asl rb ro n ii v.heap.size (.agg #[I po,I ca,I cb,I cc]) u) [.inRegion ops347 [5,6,7],.code R89,.inBlock 1,.code R10,.inLoop L34,.inBlock 0] :: cs)) w'):
 GoesI Tryd.prog main (DT (ScZ z) Ch) Stop (G (cFr t.tb (.slice (some ⟨rb,ro,none⟩) n cap) (.func (.func f) bn cp) asl n ii false u) cs) w:=by
 have hi':(ii:Int)<(n:Int):=by omega
 have hq : ¬ fn.name = "runtime.NumGoroutine" := by simpa using hname
 have HM:Hid (Mem z S K v):=⟨hm⟩
 clear hm;unfold cAct ops347 R89 R10 L34 Tryd.f94 seq2 seq1 blockC loopC opsOf at hk;simp only[Qa,List.append_toArray,List.cons_append,List.nil_append] at hk;unfold cFr L34 Tryd.f94 seq2 blockC loopC;simp only[Qa,List.append_toArray,List.cons_append,List.nil_append];refine goesI_seq (dt_idle _ _) ?_;refine goesI_region (dt_idle _ _) ?_;simp only[Sz,Sr,Nat.reduceAdd]
 (refine goesI_oper rfl rfl (by decide) (λd K hK=>?_)
  go_simp;refine hK _ _ ⟨dt_reads (λe he=>?_),GoesI.at ?_ d⟩
  .have hm:=mem_listed he
   simp[go_sem, *] at hm
  clear hK K)
 refine goesI_regionEnd (dt_idle _ _) ?_;refine goesI_seq (dt_idle _ _) ?_;refine goesI_cond (dt_idle _ _) (t:=true) (by simp[Act.eval,hi]) ?_;simp only[if_true,if_false,Qh];refine goesI_skip (dt_idle _ _) ?_;refine goesI_seq (dt_idle _ _) ?_;refine goesI_block (dt_idle _ _) ?_;refine goesI_seq (dt_idle _ _) ?_;refine goesI_region (dt_idle _ _) ?_;simp only[Sz,Sr,Nat.reduceAdd];iterate 2
  (refine goesI_oper rfl rfl (by decide) (λd K hK=>?_)
   go_simp;refine hK _ _ ⟨dt_reads (λe he=>?_),GoesI.at ?_ d⟩
   .have hm:=mem_listed he
    simp[go_sem, *] at hm
    try exact ⟨_,_,hm⟩
    try (rcases hm with rfl|rfl|rfl|rfl<;>exact ⟨_,_,rfl⟩)
   clear hK K)
 refine goesI_opZ (L:=LT) rfl rfl (by decide) (fineOp_ask callT extT (by kernel_rfl)) hvw hn (x:=.agg #[I po,I ca,I cb,I cc]) (v':=v) (by go_simp) rfl (λw1 hvw1 _=>?_);refine goesI_opZ (L:=LT) rfl rfl (by decide) (fineOp_ask callT extT (by kernel_rfl)) hvw1 hn (x:=Pt v.heap.size 0) (v':={ v with heap:=v.heap.push (.cells #[I 0,I 0,I 0,I 0] 35) }) (by go_simp) rfl (λw2 hvw2 hn2=>?_);walk_nrm
 (refine goesI_oper rfl rfl (by decide) (λd K hK=>?_)
  go_simp;refine hK _ _ ⟨dt_reads (λe he=>?_),GoesI.at ?_ d⟩
  .have hm:=mem_listed he
   simp[go_sem, *] at hm
  clear hK K)
 have hB:({ v with heap:=v.heap.push (.cells #[I 0,I 0,I 0,I 0] 35) }:World).heap[v.heap.size]? = some (.cells #[I 0,I 0,I 0,I 0] 35):=Qo;generalize hV:({ v with heap:=v.heap.push (.cells #[I 0,I 0,I 0,I 0] 35) }:World)=V at hvw2 hn2 hB;generalize hN:v.heap.size=N at hk hB ⊢;have g0:V.cell? ⟨N,0,none⟩=some (I 0):=by simp[World.cell?,hB]
 have g1:V.cell? ⟨N,1,none⟩=some (I 0):=by simp[World.cell?,hB]
 have g2:V.cell? ⟨N,2,none⟩=some (I 0):=by simp[World.cell?,hB]
 have g3:V.cell? ⟨N,3,none⟩=some (I 0):=by simp[World.cell?,hB]
 have p0:V.frozen? ⟨N,0,none⟩=false:=by simp[World.frozen?,hB]
 have p1:V.frozen? ⟨N,1,none⟩=false:=by simp[World.frozen?,hB]
 have p2:V.frozen? ⟨N,2,none⟩=false:=by simp[World.frozen?,hB]
 have p3:V.frozen? ⟨N,3,none⟩=false:=by simp[World.frozen?,hB]
 refine goesI_doZ (L:=LT) rfl rfl (by decide) (fineOp_ask callT extT (by kernel_rfl)) hvw2 hn2 (v':=(((V.setCell ⟨N,0,none⟩ (I po)).setCell ⟨N,1,none⟩ (I ca)).setCell ⟨N,2,none⟩ (I cb)).setCell ⟨N,3,none⟩ (I cc)) (by go_simp) rfl (λw3 hvw3 hn3=>?_);have hrow:((((V.setCell ⟨N,0,none⟩ (I po)).setCell ⟨N,1,none⟩ (I ca)).setCell ⟨N,2,none⟩ (I cb)).setCell ⟨N,3,none⟩ (I cc)).heap[N]? = some (.cells #[I po,I ca,I cb,I cc] 35 (0,0)):=by have:=heap_setCell_same (o:=3) (heap_setCell_same (o:=2) (heap_setCell_same (o:=1) (heap_setCell_same (o:=0) hB (I po)) (I ca)) (I cb)) (I cc);simpa using this
 have hg:Grows v ((((V.setCell ⟨N,0,none⟩ (I po)).setCell ⟨N,1,none⟩ (I ca)).setCell ⟨N,2,none⟩ (I cb)).setCell ⟨N,3,none⟩ (I cc)):=by
  refine ⟨by rw[<-hV];simp[World.setCell],λb hb=>?_,by rw[<-hV];rfl,by rw[<-hV];rfl⟩;have hbN:b≠N:=by omega
  rw[Below.heap_setCell _ _ _ _ hbN,Below.heap_setCell _ _ _ _ hbN,Below.heap_setCell _ _ _ _ hbN,Below.heap_setCell _ _ _ _ hbN,<-hV];show (v.heap.push _)[b]? = _;rw[Qg,if_neg (by omega)]
 generalize ((((V.setCell ⟨N,0,none⟩ (I po)).setCell ⟨N,1,none⟩ (I ca)).setCell ⟨N,2,none⟩ (I cb)).setCell ⟨N,3,none⟩ (I cc))=V3 at hvw3 hn3 hrow hg;have HE:Hid (Evo z S K v S K V3):=⟨HM.out.grows hg⟩
 clear hV hB g0 g1 g2 g3 p0 p1 p2 p3 hvw2 hn2 hvw1 hvw;refine goesI_regionEnd (dt_idle _ _) ?_;refine goesI_seq (dt_idle _ _) ?_;refine goesI_seq (dt_idle _ _) ?_;refine goesI_region (dt_idle _ _) ?_;simp only[Sz,Sr,Nat.reduceAdd]
 (refine goesI_oper rfl rfl (by decide) (λd K hK=>?_)
  go_simp;refine hK _ _ ⟨dt_reads (λe he=>?_),GoesI.at ?_ d⟩
  .have hm:=mem_listed he
   simp[go_sem, *] at hm
  clear hK K)
 refine goesI_regionEnd (dt_idle _ _) ?_;refine goesI_cond (dt_idle _ _) (t:=false) rfl ?_;simp only[if_true,if_false,Qh];refine goesI_skip (dt_idle _ _) ?_;refine goesI_seq (dt_idle _ _) ?_;refine goesI_region (dt_idle _ _) ?_;simp only[Sz,Sr,Nat.reduceAdd];iterate 2
  (refine goesI_oper rfl rfl (by decide) (λd K hK=>?_)
   go_simp;refine hK _ _ ⟨dt_reads (λe he=>?_),GoesI.at ?_ d⟩
   .have hm:=mem_listed he
    simp[go_sem, *] at hm
    try exact ⟨_,_,hm⟩
    try (rcases hm with rfl|rfl|rfl|rfl<;>exact ⟨_,_,rfl⟩)
   clear hK K)
 refine goesI_call (f:=118) (fn:=Tryd.f118) (args:=#[Pt t.tb 0,I 9,I ii,I 0]) hE fineT rfl rfl (by decide) rfl (by simp[Act.eval]) Tryd.func118 (by kernel_rfl) rfl (fineFn_body fineT (by simp[LT,plainFs]) Tryd.func118 rfl) (λtmps=>⟨_,λw=>results_none rfl _ _ _,λw=>by simp[results,go_sem]⟩) hvw3 hn3
  (R:=λr v4=>r=.tuple #[]∧∃ tv,Ev z S V3 (noted S tv i 9 (-1) ii 0) v4) (λτ=>?_) (λr v4 w4 hR hvw4 hn4=>?_)
 exact wp_mono (body43 (v:=onTape V3 τ 0) (HE.out.mem.rep.same rfl) ht 9 ii 0 hl _ rfl) (bp_mono λr x hq=>⟨hq.1,hq.2.choose,hq.2.choose_spec.base rfl rfl rfl⟩);obtain ⟨rfl,tv,hev⟩:=hR;have HE4:Hid (Evo z S K v (noted S tv i 9 (-1) ii 0) K v4):=⟨HE.out.trans (Evo.of_ev HE.out.mem hev rfl)⟩
 have hNo:¬ Own S K N:=λhO=>by have:=HM.out.lt hO;omega
 have hrow4:v4.heap[N]? = some (.cells #[I po,I ca,I cb,I cc] 35 (0,0)):=by rw[hev.fr.block N (Qb hrow).1 (λhI=>hNo (.inl hI))];exact hrow
 clear hev hrow hg HE hvw3 hn3;have k0:w4.cell? ⟨N,0,none⟩=some (I po):=by rw[hvw4.cell?];simp[World.cell?,hrow4]
 have k1:w4.cell? ⟨N,1,none⟩=some (I ca):=by rw[hvw4.cell?];simp[World.cell?,hrow4]
 have k2:w4.cell? ⟨N,2,none⟩=some (I cb):=by rw[hvw4.cell?];simp[World.cell?,hrow4]
 have k3:w4.cell? ⟨N,3,none⟩=some (I cc):=by rw[hvw4.cell?];simp[World.cell?,hrow4]
 have hk:=hk v4 w4 tv hvw4 hn4 HE4.out hrow4;walk_nrm
 refine goesI_regionEnd (dt_idle _ _) ?_;refine goesI_seq (dt_idle _ _) ?_;refine goesI_region (dt_idle _ _) ?_;simp only[Sz,Sr,Nat.reduceAdd];iterate 5
  (refine goesI_oper rfl rfl (by decide) (λd K hK=>?_)
   go_simp;refine hK _ _ ⟨dt_reads (λe he=>?_),GoesI.at ?_ d⟩
   .have hm:=mem_listed he
    simp[go_sem, *] at hm
    try exact ⟨_,_,hm⟩
    try (rcases hm with rfl|rfl|rfl|rfl<;>exact ⟨_,_,rfl⟩)
   clear hK K)
 refine goesI_enter (f:=f) (args:=bn++#[Pt t.tb 0,.agg #[I po,I ca,I cb,I cc]]++cp) rfl rfl (by decide) (λw=>?_) (λw=>?_) (dt_idle _ _) hf hcf ?_;simp[execOp,resolve,Deferred.ofValue,Act.eval,invoke,callFunc,hf,hq,hcf]
 .refine listed_none ?_
  simp[go_sem,execOp,resolve,Deferred.ofValue,Act.eval,invoke,callFunc,hf,hq,hcf]
 exact hk
theorem carry_back {t:Thr}(csl F:Value) (rb ro ab n cap2 ii N:Nat) (X:Value) (e x y0 y1:Int) (u:Nat->Value) (cs:List Frame) (hi:ii<n) (hb:(n:Int)<9223372036854775808)
 (a0:v.cell? ⟨ab,ii*2,none⟩=some (I y0)) (a1:v.cell? ⟨ab,ii*2+1,none⟩=some (I y1)) (f0:v.frozen? ⟨ab,ii*2,none⟩=false) (f1:v.frozen? ⟨ab,ii*2+1,none⟩=false) (hbo:¬ Own S K ab)
 (hvw:Rel z v w) (hn:NoRow Ch v) (hm:Mem z S K v) (ht:S.thr[i]? = some t) (hl:(S.n+1)*40<=140737488355328)
 (hk:∀ v' w' tv u',Rel z v' w'->NoRow Ch v'->EvoP (· = ab) z S K v (noted S tv i 10 (-1) ii e) K v'->v'.heap[ab]? = ((v.setCell ⟨ab,ii*2,none⟩ (I e)).setCell ⟨ab,ii*2+1,none⟩ (I x)).heap[ab]? ->
   GoesI Tryd.prog main (DT (ScZ z) Ch) Stop (G (cFr t.tb csl F (.slice (some ⟨ab,0,none⟩) n cap2) n (ii+1) (e==4) u') cs) w'):
 GoesI Tryd.prog main (DT (ScZ z) Ch) Stop (G ((base 94).at ((cAct t.tb csl F (.slice (some ⟨ab,0,none⟩) n cap2) rb ro n ii N X u).put (some 31) (.agg #[I e,I x])) [.inRegion ops347 [6,7],.code R89,.inBlock 1,.code R10,.inLoop L34,.inBlock 0]) cs) w:=by
 have hi':(ii:Int)<(n:Int):=by omega
 have hlt:ab<v.heap.size:=World.block_lt_of_cell? _ _ a0;have HM:Hid (Mem z S K v):=⟨hm⟩
 have HW:Hid (IntKind.i64.wrap ((ii:Int)+1)=((ii+1:Nat):Int)):=⟨by rw[IntKind.wrap_i64];omega⟩
 clear hm hb;unfold cAct ops347 R89 R10 L34 Tryd.f94 seq2 seq1 blockC loopC opsOf;simp only[Qa,List.append_toArray,List.cons_append,List.nil_append];walk_nrm
 (refine goesI_oper rfl rfl (by decide) (λd K hK=>?_)
  go_simp;refine hK _ _ ⟨dt_reads (λe he=>?_),GoesI.at ?_ d⟩
  .have hm:=mem_listed he
   simp[go_sem, *] at hm
  clear hK K)
 refine goesI_doZ (L:=LT) rfl rfl (by decide) (fineOp_ask callT extT (by kernel_rfl)) hvw hn (v':=(v.setCell ⟨ab,ii*2,none⟩ (I e)).setCell ⟨ab,ii*2+1,none⟩ (I x)) (by go_simp) rfl (λw2 hvw2 hn2=>?_);have HE:Hid (EvoP (· = ab) z S K v S K ((v.setCell ⟨ab,ii*2,none⟩ (I e)).setCell ⟨ab,ii*2+1,none⟩ (I x))):=⟨HM.out.other hbo (λb hb=>by rw[Below.heap_setCell _ _ _ _ hb,Below.heap_setCell _ _ _ _ hb]) (by simp[World.setCell]) rfl rfl⟩
 have e0:((v.setCell ⟨ab,ii*2,none⟩ (I e)).setCell ⟨ab,ii*2+1,none⟩ (I x)).cell? ⟨ab,ii*2,none⟩=some (I e):=by rw[World.cell?_setCell_other _ _ _ _ (by simp)];exact World.cell?_setCell_same _ _ _ (by rw[a0])
 have hs2:ab<((v.setCell ⟨ab,ii*2,none⟩ (I e)).setCell ⟨ab,ii*2+1,none⟩ (I x)).heap.size:=by simpa [World.setCell] using hlt
 generalize ((v.setCell ⟨ab,ii*2,none⟩ (I e)).setCell ⟨ab,ii*2+1,none⟩ (I x))=V at hvw2 hn2 HE e0 hs2 hk;have q0:w2.cell? ⟨ab,ii*2,none⟩=some (I e):=by rw[hvw2.cell?];exact e0
 clear a0 a1 f0 f1 hvw;refine goesI_regionEnd (dt_idle _ _) ?_;refine goesI_seq (dt_idle _ _) ?_;refine goesI_region (dt_idle _ _) ?_;simp only[Sz,Sr,Nat.reduceAdd];iterate 7
  (refine goesI_oper rfl rfl (by decide) (λd K hK=>?_)
   go_simp;refine hK _ _ ⟨dt_reads (λe he=>?_),GoesI.at ?_ d⟩
   .have hm:=mem_listed he
    simp[go_sem, *] at hm
    try exact ⟨_,_,hm⟩
    try (rcases hm with rfl|rfl|rfl|rfl<;>exact ⟨_,_,rfl⟩)
   clear hK K)
 refine goesI_call (f:=118) (fn:=Tryd.f118) (args:=#[Pt t.tb 0,I 10,I ii,I e]) hE fineT rfl rfl (by decide) rfl (by simp[Act.eval]) Tryd.func118 (by kernel_rfl) rfl (fineFn_body fineT (by simp[LT,plainFs]) Tryd.func118 rfl) (λtmps=>⟨_,λw=>results_none rfl _ _ _,λw=>by simp[results,go_sem]⟩) hvw2 hn2
  (R:=λr v4=>r=.tuple #[]∧∃ tv,Ev z S V (noted S tv i 10 (-1) ii e) v4) (λτ=>?_) (λr v4 w4 hR hvw4 hn4=>?_)
 exact wp_mono (body43 (v:=onTape V τ 0) (HE.out.mem.rep.same rfl) ht 10 ii e hl _ rfl) (bp_mono λr x hq=>⟨hq.1,hq.2.choose,hq.2.choose_spec.base rfl rfl rfl⟩);obtain ⟨rfl,tv,hev⟩:=hR;have HE4:Hid (EvoP (· = ab) z S K v (noted S tv i 10 (-1) ii e) K v4):=⟨HE.out.trans (Evo.of_ev HE.out.mem hev rfl).toP⟩
 have hsame:v4.heap[ab]? = V.heap[ab]?:=hev.fr.block ab hs2 (λhI=>hbo (.inl hI));have k0:w4.cell? ⟨ab,ii*2,none⟩=some (I e):=by rw[hvw4.cell?,World.cell?_of_block hsame];exact e0
 clear hev HE hvw2 hn2 q0 e0 hs2;have hk:=hk v4 w4 tv (λm=>match m with
  |9=>I ii|10=>Pt N 0|14=>.bool true|15=>I ii|16=>Pt rb (ro+ii*4)|17=>X|18=>.bool false|23=>Pt t.tb 0|24=>I ii|25=>.tuple #[]|26=>.slice (some ⟨ab,0,none⟩) n cap2|27=>I ii|28=>F|29=>Pt t.tb 0|30=>X|31=>.agg #[I e,I x]|32=>Pt ab (ii*2)
  |33=>Pt t.tb 0|34=>I ii|35=>.slice (some ⟨ab,0,none⟩) n cap2|36=>I ii|37=>Pt ab (ii*2)|38=>Pt ab (ii*2)|39=>I e|40=>.tuple #[]|41=>.slice (some ⟨ab,0,none⟩) n cap2|42=>I ii|43=>Pt ab (ii*2)|44=>Pt ab (ii*2)|45=>I e|46=>.bool (e==4)|47=>I ((ii+1:Nat):Int)|m=>u m) hvw4 hn4 HE4.out hsame
 unfold cFr L34 Tryd.f94 seq2 blockC loopC at hk;simp only[Qa,List.append_toArray,List.cons_append,List.nil_append] at hk;rw[<-HW.out] at hk;clear HE4 hvw4 hn4;walk_nrm
 refine goesI_regionEnd (dt_idle _ _) ?_;refine goesI_region (dt_idle _ _) ?_;simp only[Sz,Sr,Nat.reduceAdd];iterate 7
  (refine goesI_oper rfl rfl (by decide) (λd K hK=>?_)
   go_simp;refine hK _ _ ⟨dt_reads (λe he=>?_),GoesI.at ?_ d⟩
   .have hm:=mem_listed he
    simp[go_sem, *] at hm
    try exact ⟨_,_,hm⟩
    try (rcases hm with rfl|rfl|rfl|rfl<;>exact ⟨_,_,rfl⟩)
   clear hK K)
 refine goesI_regionEnd (dt_idle _ _) ?_;refine goesI_inBlock (dt_idle _ _) ?_;refine goesI_region (dt_idle _ _) ?_;simp only[Sz,Sr,Nat.reduceAdd];iterate 2
  (refine goesI_oper rfl rfl (by decide) (λd K hK=>?_)
   go_simp;refine hK _ _ ⟨dt_reads (λe he=>?_),GoesI.at ?_ d⟩
   .have hm:=mem_listed he
    simp[go_sem, *] at hm
    try exact ⟨_,_,hm⟩
    try (rcases hm with rfl|rfl|rfl|rfl<;>exact ⟨_,_,rfl⟩)
   clear hK K)
 refine goesI_regionEnd (dt_idle _ _) ?_;refine goesI_inLoop (dt_idle _ _) ?_;exact hk
theorem carry_skip {tb:Nat}(F:Value) (rb ro ab n cap cap2 ii:Nat) (po ca cb cc y0 y1:Int) (u:Nat->Value) (cs:List Frame) (hi:ii<n) (hb:(n:Int)<9223372036854775808)
 (h0:v.cell? ⟨rb,ro+ii*4,none⟩=some (I po)) (h1:v.cell? ⟨rb,ro+ii*4+1,none⟩=some (I ca)) (h2:v.cell? ⟨rb,ro+ii*4+2,none⟩=some (I cb)) (h3:v.cell? ⟨rb,ro+ii*4+3,none⟩=some (I cc))
 (a0:v.cell? ⟨ab,ii*2,none⟩=some (I y0)) (a1:v.cell? ⟨ab,ii*2+1,none⟩=some (I y1)) (f0:v.frozen? ⟨ab,ii*2,none⟩=false) (f1:v.frozen? ⟨ab,ii*2+1,none⟩=false) (hbo:¬ Own S K ab)
 (hvw:Rel z v w) (hn:NoRow Ch v) (hm:Mem z S K v)
 (hk:∀ v' w' u',Rel z v' w'->NoRow Ch v'->EvoP (· = ab) z S K v S K v'->v'.heap[ab]? = ((v.setCell ⟨ab,ii*2,none⟩ (I 4)).setCell ⟨ab,ii*2+1,none⟩ (I 0)).heap[ab]? ->
   GoesI Tryd.prog main (DT (ScZ z) Ch) Stop (G (cFr tb (.slice (some ⟨rb,ro,none⟩) n cap) F (.slice (some ⟨ab,0,none⟩) n cap2) n (ii+1) true u') cs) w'):
 GoesI Tryd.prog main (DT (ScZ z) Ch) Stop (G (cFr tb (.slice (some ⟨rb,ro,none⟩) n cap) F (.slice (some ⟨ab,0,none⟩) n cap2) n ii true u) cs) w:=by
 have hi':(ii:Int)<(n:Int):=by omega
 have HM:Hid (Mem z S K v):=⟨hm⟩
 have HW:Hid (IntKind.i64.wrap ((ii:Int)+1)=((ii+1:Nat):Int)):=⟨by rw[IntKind.wrap_i64];omega⟩
 have hNa:ab<v.heap.size:=World.block_lt_of_cell? _ _ a0;clear hm hb;unfold cFr L34 Tryd.f94 seq2 blockC loopC;simp only[Qa,List.append_toArray,List.cons_append,List.nil_append];refine goesI_seq (dt_idle _ _) ?_;refine goesI_region (dt_idle _ _) ?_;simp only[Sz,Sr,Nat.reduceAdd]
 (refine goesI_oper rfl rfl (by decide) (λd K hK=>?_)
  go_simp;refine hK _ _ ⟨dt_reads (λe he=>?_),GoesI.at ?_ d⟩
  .have hm:=mem_listed he
   simp[go_sem, *] at hm
  clear hK K)
 refine goesI_regionEnd (dt_idle _ _) ?_;refine goesI_seq (dt_idle _ _) ?_;refine goesI_cond (dt_idle _ _) (t:=true) (by simp[Act.eval,hi]) ?_;simp only[if_true,if_false,Qh];refine goesI_skip (dt_idle _ _) ?_;refine goesI_seq (dt_idle _ _) ?_;refine goesI_block (dt_idle _ _) ?_;refine goesI_seq (dt_idle _ _) ?_;refine goesI_region (dt_idle _ _) ?_;simp only[Sz,Sr,Nat.reduceAdd];iterate 2
  (refine goesI_oper rfl rfl (by decide) (λd K hK=>?_)
   go_simp;refine hK _ _ ⟨dt_reads (λe he=>?_),GoesI.at ?_ d⟩
   .have hm:=mem_listed he
    simp[go_sem, *] at hm
    try exact ⟨_,_,hm⟩
    try (rcases hm with rfl|rfl|rfl|rfl<;>exact ⟨_,_,rfl⟩)
   clear hK K)
 refine goesI_opZ (L:=LT) rfl rfl (by decide) (fineOp_ask callT extT (by kernel_rfl)) hvw hn (x:=.agg #[I po,I ca,I cb,I cc]) (v':=v) (by go_simp) rfl (λw1 hvw1 _=>?_);refine goesI_opZ (L:=LT) rfl rfl (by decide) (fineOp_ask callT extT (by kernel_rfl)) hvw1 hn (x:=Pt v.heap.size 0) (v':={ v with heap:=v.heap.push (.cells #[I 0,I 0,I 0,I 0] 35) }) (by go_simp) rfl (λw2 hvw2 hn2=>?_);walk_nrm
 (refine goesI_oper rfl rfl (by decide) (λd K hK=>?_)
  go_simp;refine hK _ _ ⟨dt_reads (λe he=>?_),GoesI.at ?_ d⟩
  .have hm:=mem_listed he
   simp[go_sem, *] at hm
  clear hK K)
 have hB:({ v with heap:=v.heap.push (.cells #[I 0,I 0,I 0,I 0] 35) }:World).heap[v.heap.size]? = some (.cells #[I 0,I 0,I 0,I 0] 35):=Qo;generalize hV:({ v with heap:=v.heap.push (.cells #[I 0,I 0,I 0,I 0] 35) }:World)=V at hvw2 hn2 hB;generalize hN:v.heap.size=N at hB hNa ⊢;have g0:V.cell? ⟨N,0,none⟩=some (I 0):=by simp[World.cell?,hB]
 have g1:V.cell? ⟨N,1,none⟩=some (I 0):=by simp[World.cell?,hB]
 have g2:V.cell? ⟨N,2,none⟩=some (I 0):=by simp[World.cell?,hB]
 have g3:V.cell? ⟨N,3,none⟩=some (I 0):=by simp[World.cell?,hB]
 have p0:V.frozen? ⟨N,0,none⟩=false:=by simp[World.frozen?,hB]
 have p1:V.frozen? ⟨N,1,none⟩=false:=by simp[World.frozen?,hB]
 have p2:V.frozen? ⟨N,2,none⟩=false:=by simp[World.frozen?,hB]
 have p3:V.frozen? ⟨N,3,none⟩=false:=by simp[World.frozen?,hB]
 refine goesI_doZ (L:=LT) rfl rfl (by decide) (fineOp_ask callT extT (by kernel_rfl)) hvw2 hn2 (v':=(((V.setCell ⟨N,0,none⟩ (I po)).setCell ⟨N,1,none⟩ (I ca)).setCell ⟨N,2,none⟩ (I cb)).setCell ⟨N,3,none⟩ (I cc)) (by go_simp) rfl (λw3 hvw3 hn3=>?_);have hrow:((((V.setCell ⟨N,0,none⟩ (I po)).setCell ⟨N,1,none⟩ (I ca)).setCell ⟨N,2,none⟩ (I cb)).setCell ⟨N,3,none⟩ (I cc)).heap[N]? = some (.cells #[I po,I ca,I cb,I cc] 35 (0,0)):=by have:=heap_setCell_same (o:=3) (heap_setCell_same (o:=2) (heap_setCell_same (o:=1) (heap_setCell_same (o:=0) hB (I po)) (I ca)) (I cb)) (I cc);simpa using this
 have hg:Grows v ((((V.setCell ⟨N,0,none⟩ (I po)).setCell ⟨N,1,none⟩ (I ca)).setCell ⟨N,2,none⟩ (I cb)).setCell ⟨N,3,none⟩ (I cc)):=by
  refine ⟨by rw[<-hV];simp[World.setCell],λb hb=>?_,by rw[<-hV];rfl,by rw[<-hV];rfl⟩;have hbN:b≠N:=by omega
  rw[Below.heap_setCell _ _ _ _ hbN,Below.heap_setCell _ _ _ _ hbN,Below.heap_setCell _ _ _ _ hbN,Below.heap_setCell _ _ _ _ hbN,<-hV];show (v.heap.push _)[b]? = _;rw[Qg,if_neg (by omega)]
 generalize ((((V.setCell ⟨N,0,none⟩ (I po)).setCell ⟨N,1,none⟩ (I ca)).setCell ⟨N,2,none⟩ (I cb)).setCell ⟨N,3,none⟩ (I cc))=V3 at hvw3 hn3 hrow hg;have HE:Hid (Evo z S K v S K V3):=⟨HM.out.grows hg⟩
 have b0:V3.cell? ⟨ab,ii*2,none⟩=some (I y0):=hg.cell a0;have b1:V3.cell? ⟨ab,ii*2+1,none⟩=some (I y1):=hg.cell a1;have hold:V3.heap[ab]? = v.heap[ab]?:=hg.old ab (by omega);have g0:V3.frozen? ⟨ab,ii*2,none⟩=false:=by rw[<-f0];unfold World.frozen?;rw[hold]
 have g1:V3.frozen? ⟨ab,ii*2+1,none⟩=false:=by rw[<-f1];unfold World.frozen?;rw[hold]
 clear hV hB hvw2 hn2 hvw1 hvw h0 h1 h2 h3 a0 a1 f0 f1;refine goesI_regionEnd (dt_idle _ _) ?_;refine goesI_seq (dt_idle _ _) ?_;refine goesI_seq (dt_idle _ _) ?_;refine goesI_region (dt_idle _ _) ?_;simp only[Sz,Sr,Nat.reduceAdd]
 (refine goesI_oper rfl rfl (by decide) (λd K hK=>?_)
  go_simp;refine hK _ _ ⟨dt_reads (λe he=>?_),GoesI.at ?_ d⟩
  .have hm:=mem_listed he
   simp[go_sem, *] at hm
  clear hK K)
 refine goesI_regionEnd (dt_idle _ _) ?_;refine goesI_cond (dt_idle _ _) (t:=true) rfl ?_;simp only[if_true,if_false,Qh];refine goesI_seq (dt_idle _ _) ?_;refine goesI_region (dt_idle _ _) ?_;simp only[Sz,Sr,Nat.reduceAdd];iterate 4
  (refine goesI_oper rfl rfl (by decide) (λd K hK=>?_)
   go_simp;refine hK _ _ ⟨dt_reads (λe he=>?_),GoesI.at ?_ d⟩
   .have hm:=mem_listed he
    simp[go_sem, *] at hm
    try exact ⟨_,_,hm⟩
    try (rcases hm with rfl|rfl|rfl|rfl<;>exact ⟨_,_,rfl⟩)
   clear hK K)
 refine goesI_doZ (L:=LT) rfl rfl (by decide) (fineOp_ask callT extT (by kernel_rfl)) hvw3 hn3 (v':=(V3.setCell ⟨ab,ii*2,none⟩ (I 4)).setCell ⟨ab,ii*2+1,none⟩ (I 0)) (by go_simp) rfl (λw4 hvw4 hn4=>?_);have HE4:EvoP (· = ab) z S K v S K ((V3.setCell ⟨ab,ii*2,none⟩ (I 4)).setCell ⟨ab,ii*2+1,none⟩ (I 0)):=HE.out.toP.trans (HE.out.mem.other hbo (λb hb=>by rw[Below.heap_setCell _ _ _ _ hb,Below.heap_setCell _ _ _ _ hb]) (by simp[World.setCell]) rfl rfl);have hsame:((V3.setCell ⟨ab,ii*2,none⟩ (I 4)).setCell ⟨ab,ii*2+1,none⟩ (I 0)).heap[ab]? = ((v.setCell ⟨ab,ii*2,none⟩ (I 4)).setCell ⟨ab,ii*2+1,none⟩ (I 0)).heap[ab]?:=by simp only[World.setCell,Array.getElem?_modify];simp[hold]
 have hk:=hk _ w4 (λm=>match m with
  |9=>I ii|10=>Pt N 0|14=>.bool true|15=>I ii|16=>Pt rb (ro+ii*4)|17=>.agg #[I po,I ca,I cb,I cc]|18=>.bool true|19=>.slice (some ⟨ab,0,none⟩) n cap2|20=>I ii|21=>.agg #[I 4,I 0]|22=>Pt ab (ii*2)|47=>I ((ii+1:Nat):Int)|m=>u m) hvw4 hn4 HE4 hsame
 unfold cFr L34 Tryd.f94 seq2 blockC loopC at hk;simp only[Qa,List.append_toArray,List.cons_append,List.nil_append] at hk;rw[<-HW.out] at hk;clear HE4 hsame;walk_nrm
 refine goesI_regionEnd (dt_idle _ _) ?_;refine goesI_exit (dt_idle _ _) rfl ?_;refine goesI_region (dt_idle _ _) ?_;simp only[Sz,Sr,Nat.reduceAdd];iterate 2
  (refine goesI_oper rfl rfl (by decide) (λd K hK=>?_)
   go_simp;refine hK _ _ ⟨dt_reads (λe he=>?_),GoesI.at ?_ d⟩
   .have hm:=mem_listed he
    simp[go_sem, *] at hm
    try exact ⟨_,_,hm⟩
    try (rcases hm with rfl|rfl|rfl|rfl<;>exact ⟨_,_,rfl⟩)
   clear hK K)
 refine goesI_regionEnd (dt_idle _ _) ?_;refine goesI_inLoop (dt_idle _ _) ?_;exact hk
def ops33:Array Oper:=opsOf (Tryd.f93.body.getD .skip)
def val33 (csl F rsl asl:Value) (tb rb ix:Nat):Nat->Value
 |0=>Pt tb 0
 |1=>csl
 |2=>F
 |3=>rsl
 |4=>I ix
 |5=>Pt rb ix
 |6=>asl
 |_=>undef
theorem lead33:leadsOn .any ops33 7=true:=by kernel_rfl
theorem text33:inText .any ops33 7=true:=by kernel_rfl
theorem fineOps33 (i:Nat) (hi:i<7) (o:Oper) (ho:ops33[i]? = some o):fineOp Tryd.prog true LT o:=by
 have h:((ops33.extract 0 7).all λo=>plainOp Tryd.prog true o.op||askCall plainFs plainXs o.op)=true:=by kernel_rfl
 refine fineOp_ask callT extT ((Array.all_eq_true_iff_forall_mem.1 h) o ?_);have:(ops33.extract 0 7)[i]? = some o:=by have hs:=(Qb ho).1;rw[Array.getElem?_extract,if_pos (by omega)];simpa using ho
 exact Array.mem_of_getElem? this
theorem rest33 (t:Nat):Region.linearise.go .any ops33 (ops33.size - 7) t (listedN ops33.size 7) []=[7]:=by
 have e1:((List.range ops33.size).filter λi=>!(listedN ops33.size 7).getD i true&&((ops33[i]?).map (·.after.all λe=>!Region.binds .any e||(listedN ops33.size 7).getD e.on false)).getD false)=[7]:=by kernel_rfl
 have e0:ops33.size - 7=1:=by kernel_rfl
 rw[e0];unfold Region.linearise.go;simp only[e1,List.length_cons,List.length_nil,Nat.zero_add,Nat.mod_one,List.getElem?_cons_zero];rfl
theorem dst33 (i:Nat) (hi:i<7) (o:Oper) (ho:ops33[i]? = some o):o.dst=some (6+i):=by
 have h:((List.range 7).all λi=>(ops33[i]?).map (·.dst)==some (some (6+i)))=true:=by kernel_rfl
 have:=(List.all_eq_true.1 h) i (by simpa using hi);rw[ho] at this;simpa using this
theorem guard33 (i:Nat) (hi:i<8) (o:Oper) (ho:ops33[i]? = some o):o.guard=none:=by
 have h:((List.range 8).all λi=>((ops33[i]?).map (·.guard.isNone))==some true)=true:=by kernel_rfl
 have:=(List.all_eq_true.1 h) i (by simpa using hi);rw[ho] at this;simpa using this
theorem op33 {o:Oper}{p:Op}(h:(ops33[i]?).map (·.op)=some p) (ho:ops33[i]? = some o):o.op=p:=by rw[ho] at h;exact Qd h
theorem after33 {j:Nat}{o:Oper}(h:((ops33[i]?).map (λo=>o.after.toList.any λe=>e.on==j&&Region.binds .any e))=some true) (ho:ops33[i]? = some o) {l:Array Bool}(hd:∀ e∈o.after.toList,Region.binds .any e=true->l.getD e.on false=true):l.getD j false=true:=by rw[ho] at h;simp only[Option.map_some,Option.some.injEq,List.any_eq_true,Bool.and_eq_true,beq_iff_eq] at h;obtain ⟨e,he,rfl,hb⟩:=h;exact hd e he hb
theorem body33_goes {tb p1 p2 p3 p4:Nat}(csl F asl:Value) (rb m cap ix:Nat) (hix:ix<m)
 (h1:v.cell? ⟨p1,0,none⟩=some csl) (h2:v.cell? ⟨p2,0,none⟩=some F) (h3:v.cell? ⟨p3,0,none⟩=some (.slice (some ⟨rb,0,none⟩) m cap)) (h4:v.cell? ⟨p4,0,none⟩=some (I ix)) (h5:v.cell? ⟨rb,ix,none⟩=some asl) (cs:List Frame) (hoc:ops[q]? = some oc)
 (hvw:Rel z v w) (hn:NoRow Ch v)
 (hk:∀ w' (bd:Frame) (ad:Act) (od:Array Oper) (qd:Nat) (rd:List Nat) (oe:Oper) (kd:List Item),Rel z v w'->od[qd]? = some oe ->
   (∀ (z:Nat->Option Nat) (Ch:Nat->Prop) (Stop:Goroutine->World->Prop) (w:World),GoesI Tryd.prog main (DT (ScZ z) Ch) Stop (G (bc.at (ac.put oc.dst (.tuple #[])) (.inRegion ops rest :: k)) cs) w->GoesI Tryd.prog main (DT (ScZ z) Ch) Stop (G (bd.at (ad.put oe.dst (.tuple #[])) (.inRegion od rd :: kd)) (bc.at ac (.inRegion ops (q :: rest) :: k) :: cs)) w)->∀ code,Tryd.f94.body=some code ->
   GoesI Tryd.prog main (DT (ScZ z) Ch) Stop (G ((base 94).at { tmps:=#[Pt tb 0,csl,F,asl]++Array.replicate 44 undef,defers:=[] } [.code code]) (bd.at ad (.inRegion od (qd :: rd):: kd):: bc.at ac (.inRegion ops (q :: rest):: k):: cs)) w') (code:Code) (hc:Tryd.f93.body=some code):
 GoesI Tryd.prog main (DT (ScZ z) Ch) Stop (G ((base 93).at { tmps:=#[Pt tb 0,Pt p1 0,Pt p2 0,Pt p3 0,Pt p4 0]++Array.replicate 9 undef,defers:=[] } [.code code]) (bc.at ac (.inRegion ops (q :: rest) :: k) :: cs)) w:=by
 have hc0:code=.region 0 ops33 true:=by have:Tryd.f93.body=some (.region 0 ops33 true):=rfl;rw[this] at hc;exact (Qd hc).symm
 subst hc0;clear hc;simp only[Sy];refine goesI_region_quiet (n:=7) (val:=val33 csl F (.slice (some ⟨rb,0,none⟩) m cap) asl tb rb ix) (J:=λw=>Rel z v w) mix21 (λw d hJ=>hJ.re rfl rfl rfl rfl rfl rfl) (λw=>dt_draw _ _ w) lead33 text33 (on:=ops33[7]'(by decide)) rfl ?_ ?_ ?_
  { tmps:=#[Pt tb 0,Pt p1 0,Pt p2 0,Pt p3 0,Pt p4 0,undef,Pt tb 0,csl,F,.slice (some ⟨rb,0,none⟩) m cap,I ix,Pt rb ix,asl,undef],defers:=[] } ?_ ?_ hvw
 .intro i1 j1 oi oj t1 h1 h2 h3 h4 h5 h6
  rw[dst33 i1 h1 oi h3] at h5;rw[dst33 j1 h2 oj h4] at h6;have:=Qd (h5.trans h6.symm);omega
 .intro i1 o1 t1 h1 h2 h3
  rw[dst33 i1 h1 o1 h2] at h3;have:=Qd h3;subst this;show (6+i1:Nat)<14;omega
 .intro i' o rest' listed a w1 hi ho hdep hagr hJ hgo
  have ev:∀ j,j<7->listed.getD j false=true->a.eval (.tmp (6+j))=val33 csl F (.slice (some ⟨rb,0,none⟩) m cap) asl tb rb ix j:=λj hj hl =>hagr.eval hj (o:=ops33[j]'(by have:ops33.size=8:=rfl;omega)) (Qm _) hl (dst33 j hj _ (Qm _))
  have ev0:∀ t':Nat,t'<6->a.eval (.tmp t')=_:=λt' ht'=>hagr.eval0 (t:=t') (λj o hj ho e=>by rw[dst33 j hj o ho] at e;have:(6+j:Nat)=t':=Qd e;omega)
  have e0:a.eval (.tmp 0)=Pt tb 0:=ev0 0 (by omega);have e1:a.eval (.tmp 1)=Pt p1 0:=ev0 1 (by omega);have e2:a.eval (.tmp 2)=Pt p2 0:=ev0 2 (by omega);have e3:a.eval (.tmp 3)=Pt p3 0:=ev0 3 (by omega);have e4:a.eval (.tmp 4)=Pt p4 0:=ev0 4 (by omega);have hw:Region.wanted o (yielded ops33 a.tmps)=true:=by simp[Region.wanted,guard33 i' (by omega) o ho]
  have hrun:(execOp a.eval o).run Tryd.prog v=.ok (.value (val33 csl F (.slice (some ⟨rb,0,none⟩) m cap) asl tb rb ix i')) v:=by
   have hjl:(ix:Int)<(m:Int):=by omega
   match i',hi,ho with
   |0,_,ho=>have hop:=op33 (p:=.move (.tmp 0)) rfl ho;unfold execOp;rw[hop];simp only[e0];simp[go_sem,val33]
   |1,_,ho=>have hop:=op33 (p:=.load 33 (.tmp 1)) rfl ho;unfold execOp;rw[hop];simp only[e1];simp[go_sem,h1,val33]
   |2,_,ho=>have hop:=op33 (p:=.load 101 (.tmp 2)) rfl ho;unfold execOp;rw[hop];simp only[e2];simp[go_sem,h2,val33]
   |3,_,ho=>have hop:=op33 (p:=.load 27 (.tmp 3)) rfl ho;unfold execOp;rw[hop];simp only[e3];simp[go_sem,h3,val33]
   |4,_,ho=>have hop:=op33 (p:=.load 3 (.tmp 4)) rfl ho;unfold execOp;rw[hop];simp only[e4];simp[go_sem,h4,val33]
   |5,_,ho=>have hop:=op33 (p:=.indexAddr 27 (.tmp 9) (.tmp 10)) rfl ho;have l:a.eval (.tmp 9)=.slice (some ⟨rb,0,none⟩) m cap:=ev 3 (by omega) (after33 (by kernel_rfl) ho hdep);have l':a.eval (.tmp 10)=I ix:=ev 4 (by omega) (after33 (by kernel_rfl) ho hdep);unfold execOp;rw[hop];simp only[l,l'];simp[go_sem,val33,hjl]
   |6,_,ho=>have hop:=op33 (p:=.load 31 (.tmp 11)) rfl ho;have l:a.eval (.tmp 11)=Pt rb ix:=ev 5 (by omega) (after33 (by kernel_rfl) ho hdep);unfold execOp;rw[hop];simp only[l];simp[go_sem,h5,val33]
  exact goesI_opZ ho hw (by simp[base]) (fineOps33 i' hi o ho) hJ hn hrun rfl (λw2 hr2 _=>hgo w2 hr2)
 .refine ⟨rfl,rfl,λj o t' hj ho _ hd=>?_,λt' hne=>?_⟩
  .rw[dst33 j hj o ho] at hd
   have:(6+j:Nat)=t':=Qd hd;subst this
   match j,hj with
   |0,_=>rfl
   |1,_=>rfl
   |2,_=>rfl
   |3,_=>rfl
   |4,_=>rfl
   |5,_=>rfl
   |6,_=>rfl
  .have hcase:∀ m:Nat,m<7->t'≠6+m:=λm hm e=>by
    have hs:m<ops33.size:=by have:ops33.size=8:=rfl;omega
    refine hne m (ops33[m]'hs) hm (Qm hs) ?_ ((dst33 m hm _ (Qm hs)).trans (by rw[e]));rw[Qe,listedN_get hs];simp[hm]
   match t',hcase with
   |0,_=>rfl
   |1,_=>rfl
   |2,_=>rfl
   |3,_=>rfl
   |4,_=>rfl
   |5,_=>rfl
   |6,h=>exact absurd rfl (h 0 (by omega))
   |7,h=>exact absurd rfl (h 1 (by omega))
   |8,h=>exact absurd rfl (h 2 (by omega))
   |9,h=>exact absurd rfl (h 3 (by omega))
   |10,h=>exact absurd rfl (h 4 (by omega))
   |11,h=>exact absurd rfl (h 5 (by omega))
   |12,h=>exact absurd rfl (h 6 (by omega))
   |13,_=>rfl
   |m+14,_=>rfl
 .intro tt w1 hJ
  rw[rest33];refine goesI_into (f:=94) (fn:=Tryd.f94) (args:=#[Pt tb 0,csl,F,asl]) (dt_idle _ _) (o:=ops33[7]'(by decide)) rfl rfl (by decide) rfl (by simp[Act.eval]) Tryd.func94 (by decide) rfl ?_;refine hk w1 _ _ _ _ _ _ _ hJ rfl (λz Ch Stop w hg=>?_) _ rfl;refine goesI_regionEnd (dt_idle _ _) ?_;refine goesI_end (dt_idle _ _) ?_;refine goesI_leave (b:=base 93) (fn:=Tryd.f93) rfl ?_ Tryd.func93 (λw=>results_none rfl _ _ _) (λw=>by simp[results,go_sem]) hoc (dt_idle _ _) hg;show (Act.put _ _ _).defers=[];unfold Act.put;split<;>rfl
theorem turn50_stuck (cs:List Frame) (hoc:ops[q]? = some oc)
 (hvw:Rel z v w) (hn:NoRow Ch v) (hm:Mem z S K v) (h8:S.thr.length<=8) (h0:rdyIds S S.thr.length=[]) (hw:waits2 S S.thr.length=true) (hnn:(S.n+1)*40<=140737488355328)
 (hk:∀ v' w' tv,Rel z v' w'->NoRow Ch v'->Evo z S K v (stuckS S tv) K v'->GoesI Tryd.prog true (DT (ScZ z) Ch) Stop (G (bc.at (ac.put oc.dst (.bool true)) (.inRegion ops rest :: k)) cs) w') (code:Code) (hc:Tryd.f125.body=some code):
 GoesI Tryd.prog true (DT (ScZ z) Ch) Stop (G ((base 125).at { tmps:=#[Pt S.wb 0]++Array.replicate 72 undef,defers:=[] } [.code code]) (bc.at ac (.inRegion ops (q :: rest) :: k) :: cs)) w:=by
 have hw0:code=.seq c500 (.seq c501 (.seq c502 (.seq scan c504))):=by obtain rfl:=Qd hc;rfl
 subst hw0;clear hc;simp only[Sy];refine goesI_seq (dt_idle _ _) ?_;refine goesI_look hE fineM hvw hn fine500 rfl (by simp[base]) (a':={ tmps:=#[Pt S.wb 0,undef,.bool false]++Array.replicate 70 undef,defers:=[] }) (λτ=>?_) (λw hvw=>?_)
 .show Code.wp Tryd.prog (c500) _ _ _
  unfold c500 Tryd.f125 seq1;simp only[Qa,Sy];go_wp2_with fail;exact ⟨rfl,rfl,rfl⟩
 simp only[Sy];refine goesI_seq (dt_idle _ _) ?_;refine goesI_look hE fineM hvw hn fine501 rfl (by simp[base]) (a':={ tmps:=#[Pt S.wb 0,undef,.bool false,.slice none 0 0]++Array.replicate 69 undef,defers:=[] }) (λτ=>?_) (λw hvw=>?_)
 .show Code.wp Tryd.prog (c501) _ _ _
  unfold c501 Tryd.f125 seq1 seq2;simp only[Qa,Sy];go_wp2_with fail;exact ⟨rfl,rfl,rfl⟩
 simp only[Sy];refine goesI_seq (dt_idle _ _) ?_;refine goesI_look hE fineM hvw hn fine502 rfl (by simp[base]) (a':={ tmps:=#[Pt S.wb 0,undef,.bool false,.slice none 0 0,.bool false]++Array.replicate 68 undef,defers:=[] }) (λτ=>?_) (λw hvw=>?_)
 .show Code.wp Tryd.prog (c502) _ _ _
  unfold c502 Tryd.f125 seq1 seq2;simp only[Qa,Sy];go_wp2_with fail;exact ⟨rfl,rfl,rfl⟩
 simp only[Sy];refine goesI_seq (dt_idle _ _) ?_;have hscan:∀ τ,scan.wp Tryd.prog (λe a w'=>e=.normal∧ScanQ S v a w') { tmps:=#[Pt S.wb 0,undef,.bool false,.slice none 0 0,.bool false]++Array.replicate 68 undef,defers:=[] } (onTape v τ 0):=λτ=>scan_wp (hm.rep.same (v':=onTape v τ 0) rfl) h8;simp only[Sy] at hscan;refine goesI_plain (c:=scan) (z:=z) (wr:=true) (L:=LM) (I:=NoRow Ch) hE fineM noRow_keeps (λv v' w w' es hi hr ho he=>dt_of_z v v' w w' es hi hr ho he) hvw fineScan rfl (by simp[base]) hn hscan ?_;rintro a' v1 w1 ⟨⟨lv,⟨u6,u8,u9,u10,u11,u12,u13,u14,u15,u16,u17,u18,u19,u20,u21,u22,u23,u24,u25,u26,u27,u28,u29,u30,u31,rfl⟩,hown⟩,hsz,hbl,hos,hou⟩ hr1 hn1 -;have hg:Grows v v1:=⟨hsz,hbl,hos,hou⟩
 have he1:=hm.grows hg;obtain ⟨p,cap,rfl⟩:=own_form hown;have hc504:c504=.seq c510 (.seq pick15 (.seq last16 (.seq state17 c518))):=rfl;rw[hc504];clear hscan;rw[h0,hw];simp only[List.length_nil];refine goesI_seq (dt_idle _ _) ?_;have hst:=λτ=>stuck_wp (he1.mem.rep.same (v':=onTape v1 τ 0) rfl) hnn p cap u6 u8 u9 u10 u11 u12 u13 u14 u15 u16 u17 u18 u19 u20 u21 u22 u23 u24 u25 u26 u27 u28 u29 u30 u31;refine goesI_outZ (f:=125) (fn:=Tryd.f125) (c:=c510) hE fineM hr1 hn1 Tryd.func125 fine510 rfl hoc (R:=λx w'=>x=.bool true∧∃ tv,Ev z S v1 (stuckS S tv) w') (λτ=>wp_mono (hst τ) (λe a w' hq=>by obtain ⟨h1,x,h2,h3,tv,h4⟩:=hq;exact ⟨h1,x,h2,h3,tv,h4.base rfl rfl rfl⟩)) ?_;rintro x v2 w2 ⟨rfl,tv,hev⟩ hr2 hn2;exact hk v2 w2 tv hr2 hn2 (he1.trans (Evo.of_ev he1.mem hev rfl))
theorem turn50_end (cs:List Frame) (hoc:ops[q]? = some oc)
 (hvw:Rel z v w) (hn:NoRow Ch v) (hm:Mem z S K v) (h8:S.thr.length<=8) (h0:rdyIds S S.thr.length=[]) (hw:waits2 S S.thr.length=false)
 (hk:∀ v' w',Rel z v' w'->NoRow Ch v'->Evo z S K v S K v'->GoesI Tryd.prog true (DT (ScZ z) Ch) Stop (G (bc.at (ac.put oc.dst (.bool false)) (.inRegion ops rest :: k)) cs) w') (code:Code) (hc:Tryd.f125.body=some code):
 GoesI Tryd.prog true (DT (ScZ z) Ch) Stop (G ((base 125).at { tmps:=#[Pt S.wb 0]++Array.replicate 72 undef,defers:=[] } [.code code]) (bc.at ac (.inRegion ops (q :: rest) :: k) :: cs)) w:=by
 have hw0:code=.seq c500 (.seq c501 (.seq c502 (.seq scan c504))):=by obtain rfl:=Qd hc;rfl
 subst hw0;clear hc;simp only[Sy];refine goesI_seq (dt_idle _ _) ?_;refine goesI_look hE fineM hvw hn fine500 rfl (by simp[base]) (a':={ tmps:=#[Pt S.wb 0,undef,.bool false]++Array.replicate 70 undef,defers:=[] }) (λτ=>?_) (λw hvw=>?_)
 .show Code.wp Tryd.prog (c500) _ _ _
  unfold c500 Tryd.f125 seq1;simp only[Qa,Sy];go_wp2_with fail;exact ⟨rfl,rfl,rfl⟩
 simp only[Sy];refine goesI_seq (dt_idle _ _) ?_;refine goesI_look hE fineM hvw hn fine501 rfl (by simp[base]) (a':={ tmps:=#[Pt S.wb 0,undef,.bool false,.slice none 0 0]++Array.replicate 69 undef,defers:=[] }) (λτ=>?_) (λw hvw=>?_)
 .show Code.wp Tryd.prog (c501) _ _ _
  unfold c501 Tryd.f125 seq1 seq2;simp only[Qa,Sy];go_wp2_with fail;exact ⟨rfl,rfl,rfl⟩
 simp only[Sy];refine goesI_seq (dt_idle _ _) ?_;refine goesI_look hE fineM hvw hn fine502 rfl (by simp[base]) (a':={ tmps:=#[Pt S.wb 0,undef,.bool false,.slice none 0 0,.bool false]++Array.replicate 68 undef,defers:=[] }) (λτ=>?_) (λw hvw=>?_)
 .show Code.wp Tryd.prog (c502) _ _ _
  unfold c502 Tryd.f125 seq1 seq2;simp only[Qa,Sy];go_wp2_with fail;exact ⟨rfl,rfl,rfl⟩
 simp only[Sy];refine goesI_seq (dt_idle _ _) ?_;have hscan:∀ τ,scan.wp Tryd.prog (λe a w'=>e=.normal∧ScanQ S v a w') { tmps:=#[Pt S.wb 0,undef,.bool false,.slice none 0 0,.bool false]++Array.replicate 68 undef,defers:=[] } (onTape v τ 0):=λτ=>scan_wp (hm.rep.same (v':=onTape v τ 0) rfl) h8;simp only[Sy] at hscan;refine goesI_plain (c:=scan) (z:=z) (wr:=true) (L:=LM) (I:=NoRow Ch) hE fineM noRow_keeps (λv v' w w' es hi hr ho he=>dt_of_z v v' w w' es hi hr ho he) hvw fineScan rfl (by simp[base]) hn hscan ?_;rintro a' v1 w1 ⟨⟨lv,⟨u6,u8,u9,u10,u11,u12,u13,u14,u15,u16,u17,u18,u19,u20,u21,u22,u23,u24,u25,u26,u27,u28,u29,u30,u31,rfl⟩,hown⟩,hsz,hbl,hos,hou⟩ hr1 hn1 -;have hg:Grows v v1:=⟨hsz,hbl,hos,hou⟩
 have he1:=hm.grows hg;obtain ⟨p,cap,rfl⟩:=own_form hown;have hc504:c504=.seq c510 (.seq pick15 (.seq last16 (.seq state17 c518))):=rfl;rw[hc504];clear hscan;rw[h0,hw];simp only[List.length_nil];refine goesI_seq (dt_idle _ _) ?_;have hst:=λτ=>end_wp (S:=S) (v:=onTape v1 τ 0) p cap u6 u8 u9 u10 u11 u12 u13 u14 u15 u16 u17 u18 u19 u20 u21 u22 u23 u24 u25 u26 u27 u28 u29 u30 u31;refine goesI_outZ (f:=125) (fn:=Tryd.f125) (c:=c510) hE fineM hr1 hn1 Tryd.func125 fine510 rfl hoc (R:=λx w'=>x=.bool false∧w'.heap=v1.heap∧w'.os=v1.os∧w'.output=v1.output) (λτ=>wp_mono (hst τ) (λe a w' hq=>by obtain ⟨h1,x,h2,h3,h4⟩:=hq;subst h4;exact ⟨h1,x,h2,h3,rfl,rfl,rfl⟩)) ?_;rintro x v2 w2 ⟨rfl,q1,q2,q3⟩ hr2 hn2;exact hk v2 w2 hr2 hn2 (he1.same q1 q2 q3)
end Go.Proofs.YtfjjoohflcchnaaDoor
namespace Go.Proofs.YtfjjoohflcchnaaDoor.Gen
open Go Go.Lift Go.Conc Go.RowKit
variable {b:Nat}
structure Cl where
 po:Int
 ca:Int
 cb:Int
 cc:Int
abbrev Q:=Nat×List Int
inductive Nx where
 |ans (e x:Int)
 |turn (op:Int) (j:Nat) (q:Q)
 |wait (j:Nat) (q:Q)
structure Mc where
 start:Nat->Cl->Nx
 turn:Q->Int->(Int×Int)×Int×Nx
 woke:Q->Nx
 stuck:Q->Int×Int
 bnd:Bool:=false
def Mc.bn (m:Mc) (caps:Array Value):Array Value:=if m.bnd then caps else #[]
def Mc.fr (m:Mc) (caps:Array Value):Array Value:=if m.bnd then #[] else caps
inductive Ph where
 |turn (op:Int) (j:Nat) (q:Q) (rest:List Cl) (ii:Nat) (ans:List (Int×Int))
 |wait (j:Nat) (q:Q) (rest:List Cl) (ii:Nat) (ans:List (Int×Int))
 |done (ans:List (Int×Int))
def Ph.ans:Ph->List (Int×Int)
 |.turn _ _ _ _ _ a=>a
 |.wait _ _ _ _ a=>a
 |.done a=>a
def nv (S:TS):TS:={ S with tv:=undef }
def thrI (S:TS) (i:Nat):Thr:=(S.thr[i]?).getD ⟨0,0,0,0,0,0⟩
def cellAt (K:List (Nat×Int)) (j:Nat):Nat×Int:=(K[j]?).getD (0,0)
def flow (i:Nat) (m:Mc):List Cl->Nat->Bool->List (Int×Int)->TS->TS×Ph
 | [],_,_,ans,S=>(ended S i (thrI S i),.done ans)
 |_ :: rest,ii,true,ans,S=>flow i m rest (ii+1) true (ans.set ii (4,0)) S
 |c :: rest,ii,false,ans,S =>
  match m.start i c with
  |.ans e x=>flow i m rest (ii+1) (e==4) (ans.set ii (e,x)) (noted (noted S undef i 9 (-1) ii 0) undef i 10 (-1) ii e)
  |.turn op j q=>(waiting (noted S undef i 9 (-1) ii 0) i (thrI S i) 1 op j,.turn op j q rest ii ans)
  |.wait j q =>
   if S.stk then flow i m rest (ii+1) ((m.stuck q).1==4) (ans.set ii (m.stuck q)) (noted (noted S undef i 9 (-1) ii 0) undef i 10 (-1) ii (m.stuck q).1)
   else (waiting (noted S undef i 9 (-1) ii 0) i (thrI S i) 2 6 j,.wait j q rest ii ans)
def back (i:Nat) (m:Mc) (rest:List Cl) (ii:Nat) (ans:List (Int×Int)) (a:Int×Int) (S:TS) (K:List (Nat×Int)):TS×List (Nat×Int)×Ph :=
 ((flow i m rest (ii+1) (a.1==4) (ans.set ii a) (noted S undef i 10 (-1) ii a.1)).1,K,(flow i m rest (ii+1) (a.1==4) (ans.set ii a) (noted S undef i 10 (-1) ii a.1)).2)
def on (i:Nat) (m:Mc) (rest:List Cl) (ii:Nat) (ans:List (Int×Int)) (S:TS) (K:List (Nat×Int)):Nx->TS×List (Nat×Int)×Ph
 |.ans e x=>back i m rest ii ans (e,x) S K
 |.turn op j q=>(waiting S i (thrI S i) 1 op j,K,.turn op j q rest ii ans)
 |.wait j q=>if S.stk then back i m rest ii ans (m.stuck q) S K else (waiting S i (thrI S i) 2 6 j,K,.wait j q rest ii ans)
def resume (i:Nat) (m:Mc):Ph->TS->List (Nat×Int)->TS×List (Nat×Int)×Ph
 |.turn _ j q rest ii ans,S,K=>on i m rest ii ans (didS S undef i (thrI S i) (m.turn q (cellAt K j).2).1.1 (m.turn q (cellAt K j).2).1.2) (K.set j ((cellAt K j).1,(m.turn q (cellAt K j).2).2.1)) (m.turn q (cellAt K j).2).2.2
 |.wait j q rest ii ans,S,K=>if S.stk then back i m rest ii ans (m.stuck q) S K else on i m rest ii ans (noted S undef i 6 j 0 0) K (m.woke q)
 |p,S,K=>(S,K,p)
theorem flow_cons (i:Nat) (m:Mc) (c:Cl) (rest:List Cl) (ii:Nat) (ans:List (Int×Int)) (S:TS) (K:List (Nat×Int)):flow i m (c :: rest) ii false ans S=((on i m rest ii ans (noted S undef i 9 (-1) ii 0) K (m.start i c)).1,(on i m rest ii ans (noted S undef i 9 (-1) ii 0) K (m.start i c)).2.2):=by
 unfold flow;cases h:m.start i c with
 |ans e x=>rfl
 |turn op j q=>rfl
 |wait j q =>show (if S.stk then _ else _)=((if S.stk then _ else _:TS×List (Nat×Int)×Ph).1,(if S.stk then _ else _:TS×List (Nat×Int)×Ph).2.2);split<;>rfl
theorem resume_turn (i:Nat) (m:Mc) (op:Int) (j:Nat) (q:Q) (rest:List Cl) (ii:Nat) (ans:List (Int×Int)) (S:TS) (K:List (Nat×Int)):resume i m (.turn op j q rest ii ans) S K=on i m rest ii ans (didS S undef i (thrI S i) (m.turn q (cellAt K j).2).1.1 (m.turn q (cellAt K j).2).1.2) (K.set j ((cellAt K j).1,(m.turn q (cellAt K j).2).2.1)) (m.turn q (cellAt K j).2).2.2:=rfl
theorem resume_wait (i:Nat) (m:Mc) (j:Nat) (q:Q) (rest:List Cl) (ii:Nat) (ans:List (Int×Int)) (S:TS) (K:List (Nat×Int)):resume i m (.wait j q rest ii ans) S K=if S.stk then back i m rest ii ans (m.stuck q) S K else on i m rest ii ans (noted S undef i 6 j 0 0) K (m.woke q):=rfl
theorem on_wait (i:Nat) (m:Mc) (j:Nat) (q:Q) (rest:List Cl) (ii:Nat) (ans:List (Int×Int)) (S:TS) (K:List (Nat×Int)):on i m rest ii ans S K (.wait j q)=if S.stk then back i m rest ii ans (m.stuck q) S K else (waiting S i (thrI S i) 2 6 j,K,.wait j q rest ii ans):=rfl
section
variable {S:TS}{i:Nat}{m:Mc}
theorem thrI_of {t:Thr}(h:S.thr[i]? = some t):thrI S i=t:=by unfold thrI;rw[h];rfl
theorem nv_did (tv:Value) (t:Thr) (b a:Int):nv (didS S tv i t b a)=didS (nv S) undef i t b a:=by
 show nv (if b≠a∧0<=t.ce∧t.ce<S.chg.length then _ else _)=if b≠a∧0<=t.ce∧t.ce<S.chg.length then _ else _
 split<;>rfl
structure Sta (i:Nat) (S S':TS):Prop where
 wb:S'.wb=S.wb
 bk:S'.bk=S.bk
 base:S'.base=S.base
 us:S'.us=S.us
 la:S'.la=S.la
 sc:S'.sc=S.sc
 cv:S'.cv=S.cv
 ths:S'.ths=S.ths
 sched:S'.sched=S.sched
 stk:S'.stk=S.stk
 ran:S'.ran=S.ran
 n:S.n<=S'.n
 chg:S'.chg.length=S.chg.length
 len:S'.thr.length=S.thr.length
 oth:∀ j,j≠i->S'.thr[j]? = S.thr[j]?
 own:∀ t,S.thr[i]? = some t->∃ t',S'.thr[i]? = some t'∧t'.tb=t.tb∧t'.gc=t.gc
theorem Sta.refl (i:Nat) (S:TS):Sta i S S:=⟨rfl,rfl,rfl,rfl,rfl,rfl,rfl,rfl,rfl,rfl,rfl,Qi _,rfl,rfl,λ_ _=>rfl,λt h=>⟨t,h,rfl,rfl⟩⟩
theorem Sta.trans {S S' S'':TS}(h:Sta i S S') (k:Sta i S' S''):Sta i S S'':=by refine ⟨k.wb.trans h.wb,k.bk.trans h.bk,k.base.trans h.base,k.us.trans h.us,k.la.trans h.la,k.sc.trans h.sc,k.cv.trans h.cv,k.ths.trans h.ths,k.sched.trans h.sched,k.stk.trans h.stk,k.ran.trans h.ran,Qk h.n k.n,k.chg.trans h.chg,k.len.trans h.len,λj hj=>(k.oth j hj).trans (h.oth j hj),λt ht=>?_⟩;obtain ⟨t1,h1,h2,h3⟩:=h.own t ht;obtain ⟨t2,k1,k2,k3⟩:=k.own t1 h1;exact ⟨t2,k1,k2.trans h2,k3.trans h3⟩
theorem sta_noted (S:TS) (tv:Value) (op ce ol ne:Int):Sta i S (noted S tv i op ce ol ne):=⟨rfl,rfl,rfl,rfl,rfl,rfl,rfl,rfl,rfl,rfl,rfl,Nat.le_succ _,rfl,rfl,λ_ _=>rfl,λt h=>⟨t,h,rfl,rfl⟩⟩
theorem sta_set (S:TS) (t':Thr) (h1:∀ t,S.thr[i]? = some t->t'.tb=t.tb∧t'.gc=t.gc):Sta i S { S with thr:=S.thr.set i t' }:=by
 refine ⟨rfl,rfl,rfl,rfl,rfl,rfl,rfl,rfl,rfl,rfl,rfl,Qi _,rfl,by simp,λj hj=>?_,λt h=>⟨t',?_,h1 t h⟩⟩
 .show (S.thr.set i t')[j]? = _
  rw[Qq,if_neg (λe=>hj e.symm)]
 .have hi:i<S.thr.length:=(Qc h).1
  show (S.thr.set i t')[i]? = _;rw[Qq,if_pos rfl,if_pos hi]
theorem sta_wait (S:TS) (s o c:Int):Sta i S (waiting S i (thrI S i) s o c):=sta_set S _ (λt h=>by rw[thrI_of h];exact ⟨rfl,rfl⟩)
theorem sta_ended (S:TS):Sta i S (ended S i (thrI S i)):=sta_set S _ (λt h=>by rw[thrI_of h];exact ⟨rfl,rfl⟩)
theorem sta_did (S:TS) (tv:Value) (t:Thr) (b a:Int):Sta i S (didS S tv i t b a):=by unfold didS;split;exact ⟨rfl,rfl,rfl,rfl,rfl,rfl,rfl,rfl,rfl,rfl,rfl,Nat.le_succ _,by simp[counted,noted],rfl,λ_ _=>rfl,λt h=>⟨t,h,rfl,rfl⟩⟩;exact sta_noted _ _ _ _ _ _
theorem flow_sta (i:Nat) (m:Mc):∀ (rest:List Cl) (ii:Nat) (sk:Bool) (ans:List (Int×Int)) (S:TS),Sta i S (flow i m rest ii sk ans S).1
 | [],ii,sk,ans,S=>by cases sk<;>exact sta_ended S
 |c :: rest,ii,true,ans,S=>flow_sta i m rest (ii+1) true _ S
 |c :: rest,ii,false,ans,S=>by
  unfold flow;split;exact ((sta_noted S _ _ _ _ _).trans (sta_noted _ _ _ _ _ _)).trans (flow_sta i m rest (ii+1) _ _ _);exact (sta_noted S _ _ _ _ _).trans (sta_wait (noted S undef i 9 (-1) ii 0) _ _ _)
  .split
   exact ((sta_noted S _ _ _ _ _).trans (sta_noted _ _ _ _ _ _)).trans (flow_sta i m rest (ii+1) _ _ _);exact (sta_noted S _ _ _ _ _).trans (sta_wait (noted S undef i 9 (-1) ii 0) _ _ _)
theorem back_sta (rest:List Cl) (ii:Nat) (ans:List (Int×Int)) (a:Int×Int) (K:List (Nat×Int)) (S:TS):Sta i S (back i m rest ii ans a S K).1 :=
 (sta_noted S _ _ _ _ _).trans (flow_sta i m rest (ii+1) _ _ _)
theorem on_sta (rest:List Cl) (ii:Nat) (ans:List (Int×Int)) (K:List (Nat×Int)) (S:TS) (x:Nx):Sta i S (on i m rest ii ans S K x).1:=by
 cases x with
 |ans e x=>exact back_sta _ _ _ _ _ _
 |turn op j q=>exact sta_wait S _ _ _
 |wait j q =>rw[on_wait];split;exact back_sta _ _ _ _ _ _;exact sta_wait S _ _ _
theorem resume_sta (i:Nat) (m:Mc) (l:Ph) (S:TS) (K:List (Nat×Int)):Sta i S (resume i m l S K).1:=by
 match l with
 |.done ans=>exact Sta.refl _ _
 |.turn op j q rest ii ans=>exact (sta_did S _ _ _ _).trans (on_sta _ _ _ _ _ _)
 |.wait j q rest ii ans =>rw[resume_wait];split;exact back_sta _ _ _ _ _ _;exact (sta_noted S _ _ _ _ _).trans (on_sta _ _ _ _ _ _)
end
def arow (ans:List (Int×Int)):List Value:=ans.flatMap λa=>[I a.1,I a.2]
theorem arow_len (ans:List (Int×Int)):(arow ans).length=ans.length*2:=by
 induction ans with
 |nil=>rfl
 |cons a l ih=>simp only[arow,List.flatMap_cons,Qj,List.length_cons,List.length_nil] at ih ⊢;omega
theorem arow_get:∀ (ans:List (Int×Int)) (k:Nat) (a:Int×Int),ans[k]? = some a->(arow ans)[k*2]? = some (I a.1)∧(arow ans)[k*2+1]? = some (I a.2)
 |b :: l,0,a,h=>by obtain rfl:b=a:=by simpa using h
                   exact ⟨rfl,rfl⟩
 |b :: l,k+1,a,h=>by have:=arow_get l k a (by simpa using h);have e:arow (b :: l)=I b.1 :: I b.2 :: arow l:=rfl;rw[e,show (k+1)*2=(k*2+1)+1 by omega,show (k*2+1)+1+1=(k*2+1+1)+1 by omega];simpa using this
theorem arow_set:∀ (ans:List (Int×Int)) (k:Nat) (e x:Int),k<ans.length->arow (ans.set k (e,x))=((arow ans).set (k*2) (I e)).set (k*2+1) (I x)
 |b :: l,0,e,x,_=>rfl
 |b :: l,k+1,e,x,h=>by have:=arow_set l k e x (by simpa using h);have e1:∀ (b:Int×Int) (l:List (Int×Int)),arow (b :: l)=I b.1 :: I b.2 :: arow l:=λ_ _=>rfl;rw[List.set_cons_succ,e1,this,e1,show (k+1)*2=(k*2+1)+1 by omega,show (k*2+1)+1+1=(k*2+1+1)+1 by omega];simp only[List.set_cons_succ]
variable {mc:Mc}
def roOf:Option Addr->Nat
 |some a=>a.off
 |none=>0
structure Fix (mc:Mc) where
 h:Nat
 i:Nat
 tb:Nat
 gc:Nat
 bb:Nat
 calls:List Cl
 pc:Option Addr
 rb:Nat
 cap:Nat
 asl:Value
 ab:Nat
 cap2:Nat
 aty:TypeId
 fid:FuncId
 caps:Array Value
 pk:Nat->Option Obj
 kb:List Nat
namespace Fix
def csl (X:Fix mc):Value:=.slice X.pc X.calls.length X.cap
abbrev ro (X:Fix mc):Nat:=roOf X.pc
abbrev F (X:Fix mc):Value:=.func (.func X.fid) (mc.bn X.caps) (mc.fr X.caps)
abbrev Pr (X:Fix mc) (b:Nat):Prop:=b=X.bb∨b=X.rb∨b=X.ab∨X.pk b≠none
structure Ok (X:Fix mc):Prop where
 h:0<X.h
 n:(X.calls.length:Int)<9223372036854775808
 ca:∀ c∈X.calls,-9223372036854775808<=c.ca∧c.ca<9223372036854775808
 pc:0<X.calls.length->X.pc=some ⟨X.rb,X.ro,none⟩
 asl:0<X.calls.length->X.asl=.slice (some ⟨X.ab,0,none⟩) X.calls.length X.cap2
 e0:X.calls.length=0->X.rb=X.bb∧X.ab=X.bb
 ne:0<X.calls.length->X.ab≠X.bb∧X.ab≠X.rb∧X.pk X.ab=none
 pk:∀ b o,X.pk b=some o->∃ c e f,o=.cells c e f
end Fix
def Has (M:Nat->Option Obj) (v:World):Prop:=∀ b o,M b=some o->v.heap[b]? = some o
structure PM (X:Fix mc) (ans:List (Int×Int)) (v:World):Prop where
 box:v.cell? ⟨X.bb,0,none⟩=some (Pt X.tb 0)
 call:∀ (k:Nat) (c:Cl),X.calls[k]? = some c->v.cell? ⟨X.rb,X.ro+k*4,none⟩=some (I c.po)∧v.cell? ⟨X.rb,X.ro+k*4+1,none⟩=some (I c.ca)∧v.cell? ⟨X.rb,X.ro+k*4+2,none⟩=some (I c.cb)∧v.cell? ⟨X.rb,X.ro+k*4+3,none⟩=some (I c.cc)
 row:0<X.calls.length->v.heap[X.ab]? = some (.cells (arow ans).toArray X.aty (0,0))
 len:ans.length=X.calls.length
 pk:Has X.pk v
theorem PM.stay {X:Fix mc}{ans:List (Int×Int)}{v v':World}(h:PM X ans v) (hs:∀ b,X.Pr b->v'.heap[b]? = v.heap[b]?):PM X ans v':=by
 have hc:∀ (a:Addr) (x:Value),X.Pr a.block->v.cell? a=some x->v'.cell? a=some x:=λa x hb ha=>by rw[World.cell?_of_block (hs a.block hb)];exact ha
 refine ⟨hc _ _ (.inl rfl) h.box,λk c hk=>?_,λh0=>by rw[hs X.ab (.inr (.inr (.inl rfl)))];exact h.row h0,h.len,λb o hb=>by rw[hs b (.inr (.inr (.inr (by rw[hb];simp))))];exact h.pk b o hb⟩;have:=h.call k c hk;exact ⟨hc _ _ (.inr (.inl rfl)) this.1,hc _ _ (.inr (.inl rfl)) this.2.1,hc _ _ (.inr (.inl rfl)) this.2.2.1,hc _ _ (.inr (.inl rfl)) this.2.2.2⟩
structure Sees (X:Fix mc) (E:Nat->Prop) (M:Nat->Option Obj) (ans:List (Int×Int)):Prop where
 ex:∀ b,E b->M b≠none
 dom:∀ b,M b≠none->X.Pr b∨E b
 apart:∀ b,E b->¬ X.Pr b
 pm:∀ v,Has M v->PM X ans v
 pr:∀ b,X.Pr b->M b≠none
 row:∀ b o,M b=some o->∃ c e f,o=.cells c e f
def Gv (X:Fix mc) (z:Nat->Option Nat) (Ch:Nat->Prop) (S:TS) (K:List (Nat×Int)) (v:World) (E:Nat->Prop) (σ:TS) (κ:List (Nat×Int)) (M':Nat->Option Obj) (w':World):Prop :=
 ∃ v' S',Rel z v' w'∧NoRow Ch v'∧nv S'=σ∧EvoP (λb=>b=X.ab∨E b) z S K v S' κ v'∧Has M' v'∧∀ b,M' b≠none->¬ Own S' κ b
def seatOf (X:Fix mc) (Hm:Ph->(Nat->Prop)->(Nat->Option Obj)->Goroutine->Prop):Ph->(Nat->Prop)->(Nat->Option Obj)->Option Seat
 |.done _,_,_=>none
 |l,E,M=>some (seatT X.gc (Hm l E M))
def Gives (X:Fix mc) (Hm:Ph->(Nat->Prop)->(Nat->Option Obj)->Goroutine->Prop) (z:Nat->Option Nat) (cont:Addr->Value) (Ch:Nat->Prop) (S:TS) (K:List (Nat×Int)) (v:World) (E:Nat->Prop) (σ:TS) (κ:List (Nat×Int)) (l':Ph) (E':Nat->Prop) (M':Nat->Option Obj) (g':Goroutine) (w':World):Prop :=
 Sees X E' M' l'.ans∧(∀ b,E' b->E b∨v.heap.size<=b)∧Lift.AtGive Tryd.prog (KC (ScZ z) cont) (StillC (ScZ z)) X.h S.bk (.agg #[]) (seatOf X Hm l' E' M') (Gv X z Ch S K v E σ κ M') g' w'
def Fits (X:Fix mc):Ph->Thr->Prop
 |.turn op j _ _ _ _,t=>t.op=op∧t.ce=j
 |_,_=>True
def Home (X:Fix mc):Nat->Ph->(Nat->Prop)->(Nat->Option Obj)->Goroutine->Prop
 |0,_,_,_,_=>True
 |n+1,l,E,M,g=>∀ (z:Nat->Option Nat) (Ch:Nat->Prop) (Stop:Goroutine->World->Prop) (cont:Addr->Value) (y:Value) (w v:World) (S:TS) (K:List (Nat×Int)) (t:Thr),Rel z v w->NoRow Ch v->Mem z S K v->S.thr[X.i]? = some t->t.tb=X.tb->t.gc=X.gc->Fits X l t->K.map (·.1)=X.kb->z X.tb=some 2->cont ⟨X.tb,2,none⟩=.chan (some X.gc) ->
    Has M v->(∀ b,M b≠none->¬ Own S K b)->(resume X.i mc l (nv S) K).1.n*40<=140737488355328 ->
    (∀ g' w' E' M',Gives X (Home X n) z cont Ch S K v E (resume X.i mc l (nv S) K).1 (resume X.i mc l (nv S) K).2.1 (resume X.i mc l (nv S) K).2.2 E' M' g' w'->Stop g' w') ->
    GoesI Tryd.prog (X.h==0) (DT (ScZ z) Ch) Stop (Go.Conc.served g y) w
theorem atGive_mono {K:World->Prop}{Still:Loc->Prop}{h c:Nat}{v:Value}{o:Option Seat}{F F':World->Prop}{a:Goroutine}{w:World}(hF:F w->F' w) (hg:Lift.AtGive Tryd.prog K Still h c v o F a w):Lift.AtGive Tryd.prog K Still h c v o F' a w :=
 ⟨hg.1,hF hg.2.1,hg.2.2⟩
section
variable {Pr Pr':Nat->Prop}{z:Nat->Option Nat}{S S' S'':TS}{K K' K'':List (Nat×Int)}{v v' v'':World}
theorem _root_.Go.Proofs.YtfjjoohflcchnaaDoor.EvoP.join (h:EvoP Pr z S K v S' K' v') (k:EvoP Pr' z S' K' v' S'' K'' v'') (hp:∀ b,Pr' b->Pr b∨v.heap.size<=b):EvoP Pr z S K v S'' K'' v'':=by
 refine ⟨k.mem,k.blks.trans h.blks,⟨k.fr.os.trans h.fr.os,k.fr.output.trans h.fr.output,Qk h.fr.size k.fr.size,λx hx hs=>?_⟩,λb hb=>?_⟩
 .rw[k.fr.block x (Qp hx h.fr.size) (λhi=>?_),h.fr.block x hx hs]
  rcases hi with hi|hi;exact (h.new x hi).elim (λh=>hs (.inl h)) (λhle=>by omega);exact (hp x hi).elim (λh=>hs (.inr h)) (λhle=>by omega)
 .rcases k.new b hb with h1|h1
  exact h.new b h1;exact .inr (Qk h.fr.size h1)
theorem _root_.Go.Proofs.YtfjjoohflcchnaaDoor.EvoP.grows (h:EvoP Pr z S K v S' K' v') {u:World}(g:Grows v' u) (k:EvoP Pr' z S' K' u S'' K'' v'') (hp:∀ b,Pr' b->Pr b∨v.heap.size<=b):EvoP Pr z S K v S'' K'' v'':=by
 refine ⟨k.mem,k.blks.trans h.blks,⟨(k.fr.os.trans g.os).trans h.fr.os,(k.fr.output.trans g.output).trans h.fr.output,Qk h.fr.size (Qk g.size k.fr.size),λx hx hs=>?_⟩,λb hb=>?_⟩
 .have hx':=Qp hx h.fr.size
  rw[k.fr.block x (Qp hx' g.size) (λhi=>?_),g.old x hx',h.fr.block x hx hs];rcases hi with hi|hi;exact (h.new x hi).elim (λh=>hs (.inl h)) (λhle=>by omega);exact (hp x hi).elim (λh=>hs (.inr h)) (λhle=>by omega)
 .rcases k.new b hb with h1|h1
  exact h.new b h1;exact .inr (Qk h.fr.size (Qk g.size h1))
theorem _root_.Go.Proofs.YtfjjoohflcchnaaDoor.EvoP.keeps (h:EvoP Pr z S K v S' K' v') {b:Nat}(hb:b<v.heap.size) (ho:¬ Own S K b) (hp:¬ Pr b):v'.heap[b]? = v.heap[b]?∧¬ Own S' K' b :=
 ⟨h.fr.block b hb (λhi=>hi.elim ho hp),λhi=>(h.new b hi).elim ho (λhle=>by omega)⟩
theorem _root_.Go.Proofs.YtfjjoohflcchnaaDoor.Grows.trans' {a b c:World}(h:Grows a b) (k:Grows b c):Grows a c:=⟨Qk h.size k.size,λx hx=>by rw[k.old x (Qp hx h.size),h.old x hx],k.os.trans h.os,k.output.trans h.output⟩
theorem Gives.join {X:Fix mc}{Hm:Ph->(Nat->Prop)->(Nat->Option Obj)->Goroutine->Prop}{cont:Addr->Value}{Ch:Nat->Prop}{E E1 E':Nat->Prop}{M':Nat->Option Obj}{σ:TS}{κ:List (Nat×Int)}{l':Ph}{g':Goroutine}{w':World}
 (h:EvoP (λb=>b=X.ab∨E b) z S K v S' K' v') (hbk:S'.bk=S.bk) (he:∀ b,E1 b->E b∨v.heap.size<=b) (k:Gives X Hm z cont Ch S' K' v' E1 σ κ l' E' M' g' w'):Gives X Hm z cont Ch S K v E σ κ l' E' M' g' w':=by
 obtain ⟨k1,k2,k3⟩:=k;rw[hbk] at k3;refine ⟨k1,λb hb=>?_,atGive_mono (λhF=>?_) k3⟩
 .rcases k2 b hb with h1|h1
  exact he b h1;exact .inr (Qk h.fr.size h1)
 .obtain ⟨v2,S2,q1,q2,q3,q4,q5⟩:=hF
  refine ⟨v2,S2,q1,q2,q3,h.join q4 (λb hb=>?_),q5⟩;rcases hb with rfl|hb;exact .inl (.inl rfl);exact (he b hb).imp .inr id
end
def mind (X:Fix mc) (v:World) (b:Nat):Option Obj:=if X.Pr b then v.heap[b]? else none
def mindO (X:Fix mc) (v:World) (Mo:Nat->Option Obj) (b:Nat):Option Obj:=if Mo b≠none then Mo b else mind X v b
def CarryEnds (X:Fix mc) (cs:List Frame):Prop :=
 ∀ (z:Nat->Option Nat) (Ch:Nat->Prop) (Stop:Goroutine->World->Prop) (cont:Addr->Value) (w v:World) (S:TS) (K:List (Nat×Int)) (t:Thr) (sk:Bool) (u:Nat->Value),Rel z v w->NoRow Ch v->Mem z S K v->S.thr[X.i]? = some t->t.tb=X.tb->v.cell? ⟨X.bb,0,none⟩=some (Pt X.tb 0)->¬ Own S K X.bb ->
   (∀ g w',GiveE z cont X.h S.bk (Then z Ch S K v (ended S X.i t) K) g w'->Stop g w') ->
   GoesI Tryd.prog (X.h==0) (DT (ScZ z) Ch) Stop (G (cFr X.tb X.csl X.F X.asl X.calls.length X.calls.length sk u) cs) w
def Answers (X:Fix mc) (cs:List Frame) (ii:Nat) (ans:List (Int×Int)) (cu:Value->Goroutine):Prop :=
 ∀ (z:Nat->Option Nat) (Ch:Nat->Prop) (Stop:Goroutine->World->Prop) (w v:World) (S:TS) (K:List (Nat×Int)) (t:Thr) (e x:Int),Rel z v w->NoRow Ch v->Mem z S K v->S.thr[X.i]? = some t->t.tb=X.tb->(S.n+1)*40<=140737488355328->PM X ans v->(∀ b,X.Pr b->¬ Own S K b) ->
   (∀ v' w' tv u',Rel z v' w'->NoRow Ch v'->EvoP (λb=>b=X.ab) z S K v (noted S tv X.i 10 (-1) ii e) K v'->PM X (ans.set ii (e,x)) v'->GoesI Tryd.prog (X.h==0) (DT (ScZ z) Ch) Stop (G (cFr X.tb X.csl X.F X.asl X.calls.length (ii+1) (e==4) u') cs) w') ->
   GoesI Tryd.prog (X.h==0) (DT (ScZ z) Ch) Stop (cu (.agg #[I e,I x])) w
section
variable {X:Fix mc}{ans:List (Int×Int)}{v v':World}
theorem row_of_cell {a:Addr}{x:Value}(h:v.cell? a=some x):∃ c e f,v.heap[a.block]? = some (.cells c e f):=by
 unfold World.cell? at h;cases hh:v.heap[a.block]? with
 |none=>rw[hh] at h;cases h
 |some o =>
  rw[hh] at h;cases o with
  |cells c e f=>exact ⟨c,e,f,rfl⟩
  |_=>cases h
theorem PM.isrow (h:PM X ans v) (ok:X.Ok) (hb:X.Pr b):∃ c e f,v.heap[b]? = some (.cells c e f):=by
 have hbb:=row_of_cell h.box;rcases hb with rfl|rfl|rfl|hb;exact hbb
 .by_cases hc:X.calls.length=0
  rw[(ok.e0 hc).1];exact hbb
  .have h0:0<X.calls.length:=by omega
   exact row_of_cell (h.call 0 (X.calls[0]) (by simp[h0])).1
 .by_cases hc:X.calls.length=0
  rw[(ok.e0 hc).2];exact hbb;exact ⟨_,_,_,h.row (by omega)⟩
 .obtain ⟨o,ho⟩:=Option.ne_none_iff_exists'.1 hb
  obtain ⟨c,e,f,rfl⟩:=ok.pk b o ho;exact ⟨c,e,f,h.pk b _ ho⟩
theorem PM.lt (h:PM X ans v) (ok:X.Ok) (hb:X.Pr b):b<v.heap.size:=by obtain ⟨c,e,f,hh⟩:=h.isrow ok hb;exact (Qb hh).1
theorem mind_row (h:PM X ans v) (ok:X.Ok) {o:Obj}(hb:mind X v b=some o):∃ c e f,o=.cells c e f:=by
 unfold mind at hb;split at hb
 .rename_i hp
  obtain ⟨c,e,f,hh⟩:=h.isrow ok hp;rw[hh] at hb;cases hb;exact ⟨c,e,f,rfl⟩
 cases hb
theorem PM.set (h:PM X ans v) {ii:Nat}(hi:ii<X.calls.length) (e x:Int) (hab:v'.heap[X.ab]? = ((v.setCell ⟨X.ab,ii*2,none⟩ (I e)).setCell ⟨X.ab,ii*2+1,none⟩ (I x)).heap[X.ab]?) (hs:∀ b,X.Pr b->b≠X.ab->v'.heap[b]? = v.heap[b]?) (hne:X.ab≠X.bb∧X.ab≠X.rb∧X.pk X.ab=none):PM X (ans.set ii (e,x)) v':=by
 have h0:0<X.calls.length:=by omega
 have hc:∀ (a:Addr) (y:Value),X.Pr a.block->a.block≠X.ab->v.cell? a=some y->v'.cell? a=some y:=λa y hb hn ha=>by rw[World.cell?_of_block (hs a.block hb hn)];exact ha
 refine ⟨hc _ _ (.inl rfl) (Ne.symm hne.1) h.box,λk c hk=>?_,λ_=>?_,by simpa using h.len,λb o hb=>by rw[hs b (.inr (.inr (.inr (by rw[hb];simp)))) (λe=>by rw[e,hne.2.2] at hb;cases hb)];exact h.pk b o hb⟩
 .have:=h.call k c hk
  exact ⟨hc _ _ (.inr (.inl rfl)) (Ne.symm hne.2.1) this.1,hc _ _ (.inr (.inl rfl)) (Ne.symm hne.2.1) this.2.1,hc _ _ (.inr (.inl rfl)) (Ne.symm hne.2.1) this.2.2.1,hc _ _ (.inr (.inl rfl)) (Ne.symm hne.2.1) this.2.2.2⟩
 .rw[hab,heap_setCell_same (heap_setCell_same (h.row h0) (I e)) (I x),arow_set _ _ _ _ (by rw[h.len];exact hi)]
  simp
theorem PM.cells (h:PM X ans v) {ii:Nat}(hi:ii<X.calls.length):∃ y0 y1,v.cell? ⟨X.ab,ii*2,none⟩=some (I y0)∧v.cell? ⟨X.ab,ii*2+1,none⟩=some (I y1)∧v.frozen? ⟨X.ab,ii*2,none⟩=false∧v.frozen? ⟨X.ab,ii*2+1,none⟩=false:=by
 have h0:=h.row (by omega);have hl:ii<ans.length:=by rw[h.len];exact hi
 have:=arow_get ans ii ans[ii] (by simp[hl]);refine ⟨ans[ii].1,ans[ii].2,?_,?_,?_,?_⟩;simp[World.cell?,h0,this.1];simp[World.cell?,h0,this.2];simp[World.frozen?,h0];simp[World.frozen?,h0]
theorem has_mind (hl:∀ b,X.Pr b->b<v.heap.size) {M:Nat->Option Obj}(hM:∀ b o,mind X v b=some o->M b=some o) (h:Has M v'):∀ b,X.Pr b->v'.heap[b]? = v.heap[b]?:=λb hb=>by
 have e:v.heap[b]? = some v.heap[b]!:=by simp[hl b hb]
 rw[e];exact h b _ (hM b _ (by unfold mind;rw[if_pos hb,e]))
theorem sees_mind (h:PM X ans v) (ok:X.Ok):Sees X (λ_=>False) (mind X v) ans:=by
 refine ⟨λ_ h=>h.elim,λb hb=>?_,λ_ h=>h.elim,λv' hM=>h.stay (has_mind (λb hb=>h.lt ok hb) (λ_ _ h=>h) hM),λb hb=>?_,λb o hb=>mind_row h ok hb⟩
 .unfold mind at hb
  split at hb;exact .inl ‹_›;exact absurd rfl hb
 .unfold mind
  rw[if_pos hb];simp[h.lt ok hb]
theorem sees_mindO (h:PM X ans v) (ok:X.Ok) {Mo:Nat->Option Obj}(h1:∀ b,Mo b≠none->¬ X.Pr b) (h2:∀ b o,Mo b=some o->∃ c e f,o=.cells c e f):Sees X (λb=>Mo b≠none) (mindO X v Mo) ans:=by
 refine ⟨λb hb=>?_,λb hb=>?_,λb hb hp=>h1 b hb hp,λv' hM=>h.stay (has_mind (λb hb=>h.lt ok hb) (λb o hb=>?_) hM),λb hb=>?_,λb o hb=>?_⟩;unfold mindO;rw[if_pos hb];exact hb
 .unfold mindO at hb
  split at hb;exact .inr ‹_›
  .unfold mind at hb
   split at hb;exact .inl ‹_›;exact absurd rfl hb
 .unfold mindO
  have hpr:X.Pr b:=by unfold mind at hb;split at hb;assumption;cases hb
  rw[if_neg (λe=>h1 b e hpr)];exact hb
 .unfold mindO mind
  rw[if_neg (λe=>h1 b e hb),if_pos hb];simp[h.lt ok hb]
 .unfold mindO at hb
  split at hb;exact h2 b o hb;exact mind_row h ok hb
end
end Go.Proofs.YtfjjoohflcchnaaDoor.Gen
namespace Go.Proofs.YtfjjoohflcchnaaDoor.Gen
open Go Go.Lift Go.Conc Go.RowKit
open Go.ConcN (upd upd_same upd_ne)
variable {t:Thr} {c i:Nat}
variable {mc:Mc}
def FitsN:Ph->Thr->Prop
 |.turn op j _ _ _ _,t=>t.op=op∧t.ce=j
 |.wait _ _ _ _ _,_=>True
 |.done _,t=>t.st=3
theorem FitsN.fits {X:Fix mc}{l:Ph}(h:FitsN l t):Fits X l t:=by
 match l,h with
 |.turn _ _ _ _ _ _,h=>exact h
 |.wait _ _ _ _ _,_=>trivial
 |.done _,_=>trivial
def StN:Ph->Thr->Prop
 |.turn _ _ _ _ _ _,t=>t.st=1
 |.wait _ _ _ _ _,t=>t.st=2
 |.done _,t=>t.st=3
theorem set_get {S:TS}{t':Thr}(ht:S.thr[i]? = some t):(S.thr.set i t')[i]? = some t':=by have hi:i<S.thr.length:=(Qc ht).1;rw[Qq,if_pos rfl,if_pos hi]
theorem did_thr {S:TS}{tv:Value}{t0:Thr}{b a:Int}(ht:S.thr[i]? = some t0):(didS S tv i t b a).thr[i]? = some t0:=by unfold didS;split<;>exact ht
theorem flow_fs (i:Nat) (m:Mc):∀ (rest:List Cl) (ii:Nat) (sk:Bool) (ans:List (Int×Int)) (S:TS) (t:Thr),S.thr[i]? = some t->∃ t',(flow i m rest ii sk ans S).1.thr[i]? = some t'∧FitsN (flow i m rest ii sk ans S).2 t'∧StN (flow i m rest ii sk ans S).2 t'
 | [],ii,sk,ans,S,t,ht=>⟨{ thrI S i with st:=3 },set_get ht,rfl,rfl⟩
 |c :: rest,ii,true,ans,S,t,ht=>flow_fs i m rest (ii+1) true _ S t ht
 |c :: rest,ii,false,ans,S,t,ht=>by
  unfold flow;split;exact flow_fs i m rest (ii+1) _ _ _ t ht;exact ⟨_,set_get (S:=noted S undef i 9 (-1) ii 0) ht,⟨rfl,rfl⟩,rfl⟩
  .split
   exact flow_fs i m rest (ii+1) _ _ _ t ht;exact ⟨_,set_get (S:=noted S undef i 9 (-1) ii 0) ht,trivial,rfl⟩
theorem on_fs (i:Nat) (m:Mc) (rest:List Cl) (ii:Nat) (ans:List (Int×Int)) (S:TS) (K:List (Nat×Int)) (x:Nx) (t:Thr) (ht:S.thr[i]? = some t):∃ t',(on i m rest ii ans S K x).1.thr[i]? = some t'∧FitsN (on i m rest ii ans S K x).2.2 t'∧StN (on i m rest ii ans S K x).2.2 t':=by
 cases x with
 |ans e x=>exact flow_fs i m rest (ii+1) _ _ (noted S undef i 10 (-1) ii e) t ht
 |turn op j q=>exact ⟨_,set_get ht,⟨rfl,rfl⟩,rfl⟩
 |wait j q =>rw[on_wait];split;exact flow_fs i m rest (ii+1) _ _ (noted S undef i 10 (-1) ii _) t ht;exact ⟨_,set_get ht,trivial,rfl⟩
theorem resume_fs (i:Nat) (m:Mc) (S:TS) (K:List (Nat×Int)) (t:Thr) (ht:S.thr[i]? = some t) (l:Ph) (hl:∀ a,l≠.done a):∃ t',(resume i m l S K).1.thr[i]? = some t'∧FitsN (resume i m l S K).2.2 t'∧StN (resume i m l S K).2.2 t':=by
 match l,hl with
 |.turn op j q rest ii ans,_=>rw[resume_turn];exact on_fs _ _ _ _ _ _ _ _ t (did_thr ht)
 |.wait j q rest ii ans,_ =>rw[resume_wait];split;exact flow_fs i m rest (ii+1) _ _ (noted S undef i 10 (-1) ii _) t ht;exact on_fs _ _ _ _ _ _ _ _ t ht
 |.done a,hl=>exact absurd rfl (hl a)
structure PSt where
 S:TS
 K:List (Nat×Int)
 l:Nat->Ph
def nextI (S:TS):Nat:=((rdyIds S S.thr.length)[pickAt S (rdyIds S S.thr.length)]?).getD 0
def pturn (nk:Mc) (p:PSt):Option PSt :=
 if rdyIds p.S p.S.thr.length=[] then
  if waits2 p.S p.S.thr.length then some ⟨stuckS p.S undef,p.K,p.l⟩ else none
 else
  some ⟨(resume (nextI p.S) nk (p.l (nextI p.S)) (going p.S (nextI p.S) (thrI p.S (nextI p.S))) p.K).1,(resume (nextI p.S) nk (p.l (nextI p.S)) (going p.S (nextI p.S) (thrI p.S (nextI p.S))) p.K).2.1,upd p.l (nextI p.S) (resume (nextI p.S) nk (p.l (nextI p.S)) (going p.S (nextI p.S) (thrI p.S (nextI p.S))) p.K).2.2⟩
section
variable {z:Nat->Option Nat}{Ch:Nat->Prop}{cont:Addr->Value}{v w:World}{c:Nat}
theorem kc_chan (hz:z c=none) (h:KC (ScZ z) cont w) (cap:Nat) (buf:Array Value) (cl:Bool) (a b:Nat) (tm:Bool):KC (ScZ z) cont (w.setChan c cap buf cl a b tm):=λx hx=>by
 have hne:c≠x.block:=λe=>by rw[e,hx.2] at hz;cases hz
 rw[World.cell?_of_block (heap_setChan_ne w cap buf cl a b tm hne)];exact h x hx
theorem rel_chan (hr:Rel z v w) (hz:z c=none) (cap:Nat) (buf:Array Value) (cl:Bool) (a b:Nat) (tm:Bool) (d:Nat):Rel z (v.setChan c cap buf cl a b tm) ((w.at d).setChan c cap buf cl a b tm):=by
 refine ⟨λr=>?_,λr n x e f hzr hh=>?_,λr n hzr=>by simpa [World.setChan] using hr.low r n hzr,hr.os,hr.output⟩
 .by_cases e:c=r
  .subst e
   rw[hz];have hs:=hr.size;by_cases hlt:c<v.heap.size
   .have hlw:c<(w.at d).heap.size:=by show c<w.heap.size;omega
    rw[heap_setChan_self (w.at d) (Qm hlw),heap_setChan_self v (Qm hlt)];rfl
   .have:¬ c<w.heap.size:=by omega
    simp[World.setChan,World.at,hlt,this]
  .rw[heap_setChan_ne _ _ _ _ _ _ _ e,heap_setChan_ne _ _ _ _ _ _ _ e]
   exact hr.heap r
 .have hne:c≠r:=λe=>by rw[e,hzr] at hz;cases hz
  rw[heap_setChan_ne _ _ _ _ _ _ _ hne] at hh;exact hr.kept r n x e f hzr hh
theorem has_chan {M:Nat->Option Obj}(h:Has M v) (hrow:∀ b o,M b=some o->∃ x e f,o=.cells x e f) (hc:∃ o,v.heap[c]? = some o∧∀ x e f,o≠.cells x e f) (cap:Nat) (buf:Array Value) (cl:Bool) (a b:Nat) (tm:Bool):Has M (v.setChan c cap buf cl a b tm):=λy o ho=>by
 have hne:c≠y:=λe=>by subst e;obtain ⟨x,e,f,rfl⟩:=hrow _ o ho;obtain ⟨o',h1,h2⟩:=hc;rw[h _ _ ho] at h1;cases h1;exact h2 _ _ _ rfl
 rw[heap_setChan_ne _ _ _ _ _ _ _ hne];exact h y o ho
end
variable {mc:Mc}
section
variable {Wr:Nat->Prop}{z:Nat->Option Nat}{S S':TS}{K K':List (Nat×Int)}{v v':World}
theorem _root_.Go.Proofs.YtfjjoohflcchnaaDoor.Mem.row (h:Mem z S K v) {b:Nat}(hb:Own S K b):∃ c e f,v.heap[b]? = some (.cells c e f):=by
 have own:∀ {base:Nat} {e:TypeId} {size:Nat} {x:Value} {n:Nat} {xs:List Value},v.ownsRow base e size x n xs->x.ownBlock=some b->∃ c e f,v.heap[b]? = some (.cells c e f):=λ{base e size x n xs} ho hx=>by
  rcases ho.2 with ⟨rfl,_⟩|⟨g,cap,cur,rfl,_,h3,_⟩
  cases hx
  .cases Qd hx
   exact ⟨_,_,_,h3⟩
 rcases hb with ⟨k,hk⟩|⟨j,c,hc,rfl⟩
 .match k,hk with
  |0,hk=>cases hk;exact ⟨_,_,_,h.rep.wor⟩
  |1,hk=>exact own h.rep.chg hk
  |2,hk=>exact own h.rep.ths hk
  |3,hk=>exact own h.rep.own hk
  |4,hk=>exact own h.rep.sch hk
  |k+5,hk =>simp only[blk,Option.map_eq_some_iff] at hk;obtain ⟨t,ht,rfl⟩:=hk;exact ⟨_,_,_,h.rep.thr k t ht⟩
 exact ⟨_,_,_,h.cel j c hc⟩
theorem keepM (he:EvoP Wr z S K v S' K' v') {M:Nat->Option Obj}(hM:Has M v) (hfar:∀ b,M b≠none->¬ Own S K b) (hd:∀ b,M b≠none->¬ Wr b):Has M v'∧∀ b,M b≠none->¬ Own S' K' b:=by have k:∀ b o,M b=some o->v'.heap[b]? = v.heap[b]?∧¬ Own S' K' b:=λb o hb=>he.keeps (Qb (hM b o hb)).1 (hfar b (by rw[hb];simp)) (hd b (by rw[hb];simp));refine ⟨λb o hb=>by rw[(k b o hb).1];exact hM b o hb,λb hb=>?_⟩;obtain ⟨o,ho⟩:=Option.ne_none_iff_exists'.1 hb;exact (k b o ho).2
theorem Has.lt {M:Nat->Option Obj}(hM:Has M v) {b:Nat}(hb:M b≠none):b<v.heap.size:=by obtain ⟨o,ho⟩:=Option.ne_none_iff_exists'.1 hb;exact (Qb (hM b o ho)).1
end
structure Keep where
 M:Nat->Option Obj
 os:Os
 out:Array (Nat×ByteArray)
theorem has_ne {v:World}{M:Nat->Option Obj}(h:Has M v) (hne:∀ b,M b≠none->b≠c) (cap:Nat) (buf:Array Value) (cl:Bool) (a b:Nat) (tm:Bool):Has M (v.setChan c cap buf cl a b tm):=λy o ho=>by rw[heap_setChan_ne _ _ _ _ _ _ _ (λe=>hne y (by rw[ho];simp) e.symm)];exact h y o ho
def Open (v:World) (c:Nat):Prop:=∃ cap n,v.heap[c]? = some (.chan cap #[] false n n false)
structure Crew (k:Nat) (X:Nat->Fix mc) (l:Nat->Ph) (E:Nat->Nat->Prop) (M:Nat->Nat->Option Obj) (Mm:Keep) (z:Nat->Option Nat) (cont:Addr->Value) (Ch:Nat->Prop) (S:TS) (K:List (Nat×Int)) (v:World) (gsz:Nat):Prop where
 len:k<=S.thr.length
 ok:∀ i,i<k->(X i).Ok∧(X i).i=i∧K.map (·.1)=(X i).kb
 thr:∀ i,i<k->∃ t,S.thr[i]? = some t∧t.tb=(X i).tb∧t.gc=(X i).gc∧FitsN (l i) t
 hinj:∀ i j,i<k->j<k->(X i).h=(X j).h->i=j
 ginj:∀ i j,i<k->j<k->(X i).gc=(X j).gc->i=j
 gbk:∀ i,i<k->(X i).gc≠S.bk
 hlt:∀ i,i<k->(X i).h<gsz
 zs:∀ i,i<k->z (X i).tb=some 2∧cont ⟨(X i).tb,2,none⟩=.chan (some (X i).gc)∧Ch (X i).gc
 z0:z S.wb=some 8∧cont ⟨S.wb,8,none⟩=.chan (some S.bk)∧Ch S.bk
 zc:∀ c,Ch c->z c=none
 opn:∀ c,Ch c->Open v c
 sees:∀ i,i<k->Sees (X i) (E i) (M i) (l i).ans∧Has (M i) v∧∀ b,M i b≠none->¬ Own S K b
 apart:∀ i j,i<k->j<k->i≠j->∀ b,M j b≠none->¬ (b=(X i).ab∨E i b)
 mine:Has Mm.M v∧(∀ b,Mm.M b≠none->¬ Own S K b)∧(∀ b,Mm.M b≠none->¬ Ch b)∧(∀ i,i<k->∀ b,Mm.M b≠none->¬ (b=(X i).ab∨E i b))∧v.os=Mm.os∧v.output=Mm.out
section
variable {k:Nat}{X:Nat->Fix mc}{l:Nat->Ph}{E:Nat->Nat->Prop}{M:Nat->Nat->Option Obj}{Mm:Keep}{z:Nat->Option Nat}{cont:Addr->Value}{Ch:Nat->Prop}{S S':TS}{K K':List (Nat×Int)}{v v':World}{gsz:Nat}
theorem Crew.noRow (h:Crew k X l E M Mm z cont Ch S K v gsz):NoRow Ch v:=λc hc=>by obtain ⟨cap,n,hh⟩:=h.opn c hc;exact ⟨_,hh,λ_ _ _ e=>by cases e⟩
theorem Crew.abM (h:Crew k X l E M Mm z cont Ch S K v gsz) (hi:i<k) {b:Nat}(hb:b=(X i).ab∨E i b):M i b≠none:=by rcases hb with rfl|hb;exact (h.sees i hi).1.pr _ (.inr (.inr (.inl rfl)));exact (h.sees i hi).1.ex _ hb
theorem open_stay {Wr:Nat->Prop}(hm:Mem z S K v) (he:EvoP Wr z S K v S' K' v') (ho:Open v c) (hw:∀ b,Wr b->∃ x e f,v.heap[b]? = some (.cells x e f)):Open v' c:=by
 obtain ⟨cap,n,hh⟩:=ho;refine ⟨cap,n,?_⟩;rw[(he.keeps (b:=c) (Qb hh).1 (λh=>?_) (λh=>?_)).1,hh]
 .obtain ⟨x,e,f,h1⟩:=hm.row h
  rw[hh] at h1;cases h1
 .obtain ⟨x,e,f,h1⟩:=hw c h
  rw[hh] at h1;cases h1
theorem Crew.chan (h:Crew k X l E M Mm z cont Ch S K v gsz) (hc:Ch c) (cap n:Nat):Crew k X l E M Mm z cont Ch S K (v.setChan c cap #[] false n n false) gsz:=by
 obtain ⟨o,ho,hno⟩:=h.noRow c hc;refine ⟨h.len,h.ok,h.thr,h.hinj,h.ginj,h.gbk,h.hlt,h.zs,h.z0,h.zc,λc' hc'=>?_,λi hi=>?_,h.apart,?_⟩
 .by_cases e:c=c'
  .subst e
   exact ⟨cap,n,heap_setChan_self v ho cap #[] false n n false⟩
  .obtain ⟨cp,m,hh⟩:=h.opn c' hc'
   exact ⟨cp,m,by rw[heap_setChan_ne _ _ _ _ _ _ _ e];exact hh⟩
 .have:=h.sees i hi
  exact ⟨this.1,has_chan this.2.1 this.1.row ⟨o,ho,hno⟩ cap #[] false n n false,this.2.2⟩
 exact ⟨has_ne h.mine.1 (λb hb e=>h.mine.2.2.1 b hb (e▸hc)) cap #[] false n n false,h.mine.2⟩
theorem Crew.main (h:Crew k X l E M Mm z cont Ch S K v gsz) (hm:Mem z S K v) (he:Evo z S K v S' K v') (hwb:S'.wb=S.wb) (hbk:S'.bk=S.bk) (hlen:S'.thr.length=S.thr.length)
 (ht:∀ (i:Nat) (t:Thr),S.thr[i]? = some t->∃ t':Thr,S'.thr[i]? = some t'∧t'.tb=t.tb∧t'.gc=t.gc∧t'.op=t.op∧t'.ce=t.ce∧(t.st=3->t'.st=3)):Crew k X l E M Mm z cont Ch S' K v' gsz:=by
 have hp:EvoP (λ_=>False) z S K v S' K v':=he.toP;refine ⟨by rw[hlen];exact h.len,h.ok,λi hi=>?_,h.hinj,h.ginj,λi hi=>by rw[hbk];exact h.gbk i hi,h.hlt,h.zs,by rw[hwb,hbk];exact h.z0,h.zc,λc hc=>open_stay hm hp (h.opn c hc) (λ_ h=>h.elim),λi hi=>?_,h.apart,?_⟩
 .obtain ⟨t,h1,h2,h3,h4⟩:=h.thr i hi
  obtain ⟨t',k1,k2,k3,k4,k5,k6⟩:=ht i t h1;refine ⟨t',k1,k2.trans h2,k3.trans h3,?_⟩
  match hl:l i,h4 with
  |.turn _ _ _ _ _ _,h4=>exact ⟨k4.trans h4.1,k5.trans h4.2⟩
  |.wait _ _ _ _ _,h4=>exact h4
  |.done _,h4=>exact k6 h4
 .have:=h.sees i hi
  exact ⟨this.1,keepM hp this.2.1 this.2.2 (λ_ _ h=>h)⟩
 .have:=keepM hp h.mine.1 h.mine.2.1 (λ_ _ h=>h)
  exact ⟨this.1,this.2,h.mine.2.2.1,h.mine.2.2.2.1,he.fr.os.trans h.mine.2.2.2.2.1,he.fr.output.trans h.mine.2.2.2.2.2⟩
theorem Crew.thread (h:Crew k X l E M Mm z cont Ch S K v gsz) (hm:Mem z S K v) (hi:i<k) (he:EvoP (λb=>b=(X i).ab∨E i b) z S K v S' K' v') (hst:Sta i S S') {l':Ph}{E':Nat->Prop}{M':Nat->Option Obj}
 (hfit:∃ t',S'.thr[i]? = some t'∧FitsN l' t') (hs:Sees (X i) E' M' l'.ans) (hM':Has M' v') (hfar:∀ b,M' b≠none->¬ Own S' K' b) (hnew:∀ b,E' b->E i b∨v.heap.size<=b):
 Crew k X (upd l i l') (upd E i E') (upd M i M') Mm z cont Ch S' K' v' gsz:=by
 have hlt:∀ j,j<k->∀ b,M j b≠none->b<v.heap.size:=λj hj b hb=>(h.sees j hj).2.1.lt hb;have hrow:∀ b,(b=(X i).ab∨E i b)->∃ x e f,v.heap[b]? = some (.cells x e f):=λb hb=>by obtain ⟨o,ho⟩:=Option.ne_none_iff_exists'.1 (h.abM hi hb);obtain ⟨x,e,f,rfl⟩:=(h.sees i hi).1.row b o ho;exact ⟨x,e,f,(h.sees i hi).2.1 b _ ho⟩
 have hdom:∀ b,M' b≠none->M i b≠none∨v.heap.size<=b:=λb hb=>by
  rcases hs.dom b hb with h1|h1;exact .inl ((h.sees i hi).1.pr b h1)
  .rcases hnew b h1 with h2|h2
   exact .inl ((h.sees i hi).1.ex b h2);exact .inr h2
 refine ⟨by rw[hst.len];exact h.len,λj hj=>⟨(h.ok j hj).1,(h.ok j hj).2.1,he.blks.trans (h.ok j hj).2.2⟩,λj hj=>?_,h.hinj,h.ginj,λj hj=>by rw[hst.bk];exact h.gbk j hj,h.hlt,h.zs,by rw[hst.wb,hst.bk];exact h.z0,h.zc,λc hc=>open_stay hm he (h.opn c hc) hrow,λj hj=>?_,λa j ha hj hne b hb hx=>?_,?_⟩
 .obtain ⟨t,h1,h2,h3,h4⟩:=h.thr j hj
  by_cases e:j=i
  .subst e
   obtain ⟨t',k1,k2⟩:=hfit;obtain ⟨t2,q1,q2,q3⟩:=hst.own t h1;rw[k1] at q1;cases q1;exact ⟨t',k1,q2.trans h2,q3.trans h3,by rw[upd_same];exact k2⟩
  exact ⟨t,by rw[hst.oth j e];exact h1,h2,h3,by rw[upd_ne _ _ e];exact h4⟩
 .by_cases e:j=i
  .subst e
   rw[upd_same,upd_same,upd_same];exact ⟨hs,hM',hfar⟩
  .rw[upd_ne _ _ e,upd_ne _ _ e,upd_ne _ _ e]
   have:=h.sees j hj;exact ⟨this.1,keepM he this.2.1 this.2.2 (h.apart i j hi hj (λe'=>e e'.symm))⟩
 .by_cases e1:j=i
  .subst e1
   rw[upd_same] at hb;have hne':a≠j:=hne;rw[upd_ne _ _ hne'] at hx;rcases hdom b hb with h1|h1;exact h.apart a j ha hj hne b h1 hx
   .have:=hlt a ha b (h.abM ha hx)
    omega
  .rw[upd_ne _ _ e1] at hb
   by_cases e2:a=i
   .subst e2
    rw[upd_same] at hx;rcases hx with h1|h1;exact h.apart a j ha hj hne b hb (.inl h1)
    .rcases hnew b h1 with h2|h2
     exact h.apart a j ha hj hne b hb (.inr h2);have:=hlt j hj b hb;omega
   .rw[upd_ne _ _ e2] at hx
    exact h.apart a j ha hj hne b hb hx
 .have:=keepM he h.mine.1 h.mine.2.1 (h.mine.2.2.2.1 i hi)
  refine ⟨this.1,this.2,h.mine.2.2.1,λa ha b hb hx=>?_,he.fr.os.trans h.mine.2.2.2.2.1,he.fr.output.trans h.mine.2.2.2.2.2⟩;by_cases e2:a=i
  .subst e2
   rw[upd_same] at hx;rcases hx with h1|h1;exact h.mine.2.2.2.1 a ha b hb (.inl h1)
   .rcases hnew b h1 with h2|h2
    exact h.mine.2.2.2.1 a ha b hb (.inr h2);have:=h.mine.1.lt hb;omega
  .rw[upd_ne _ _ e2] at hx
   exact h.mine.2.2.2.1 a ha b hb hx
end
structure Seats (k N:Nat) (X:Nat->Fix mc) (l:Nat->Ph) (E:Nat->Nat->Prop) (M:Nat->Nat->Option Obj) (bk:Nat) (Inb:Nat->Option Seat):Prop where
 seat:∀ i,i<k->∃ n,N<=n∧Inb (X i).h=seatOf (X i) (Home (X i) n) (l i) (E i) (M i)
 none:∀ g,g≠0->(∀ i,i<k->(X i).h≠g)->Inb g=none
 main:∀ s c,Inb 0=some s->s.has c->c=bk
section
variable {k N:Nat}{X:Nat->Fix mc}{l:Nat->Ph}{E:Nat->Nat->Prop}{M:Nat->Nat->Option Obj}{bk:Nat}{Inb:Nat->Option Seat}
theorem seatOf_has {Y:Fix mc}{Hm:Ph->(Nat->Prop)->(Nat->Option Obj)->Goroutine->Prop}{p:Ph}{e:Nat->Prop}{m:Nat->Option Obj}{s:Seat}(h:seatOf Y Hm p e m=some s):s=seatT Y.gc (Hm p e m)∧∀ a,p≠.done a:=by
 cases p with
 |turn=>cases h;exact ⟨rfl,λ_ h=>by cases h⟩
 |wait=>cases h;exact ⟨rfl,λ_ h=>by cases h⟩
 |done=>cases h
theorem Seats.who (h:Seats k N X l E M bk Inb) {g:Nat}{s:Seat}(hg:Inb g=some s) (hc:s.has c):(g=0∧c=bk)∨∃ i,i<k∧(X i).h=g∧c=(X i).gc:=by
 by_cases e0:g=0
 .subst e0
  exact .inl ⟨rfl,h.main s c hg hc⟩
 .by_cases hx:∃ i,i<k∧(X i).h=g
  .obtain ⟨i,hi,rfl⟩:=hx
   obtain ⟨n,_,hs⟩:=h.seat i hi;rw[hs] at hg;obtain ⟨rfl,_⟩:=seatOf_has hg;exact .inr ⟨i,hi,rfl,Seat.one_has.1 hc⟩
  .rw[h.none g e0 (λi hi e=>hx ⟨i,hi,e⟩)] at hg
   cases hg
end
end Go.Proofs.YtfjjoohflcchnaaDoor.Gen
