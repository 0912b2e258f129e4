/- CounterLinear, part 13 of 24: CtA, CtS, CtT, CtC, GNow, CtPk, CtPk2. -/
import Derived.Test.YtfjjoohflcchnaaDoorCounterLinear01
import Derived.Test.YtfjjoohflcchnaaDoorCounterLinear05
import Derived.Test.YtfjjoohflcchnaaDoorCounterLinear07
import Derived.Test.YtfjjoohflcchnaaDoorCounterLinear08
import Derived.Test.YtfjjoohflcchnaaDoorCounterLinear10
import Derived.Test.YtfjjoohflcchnaaDoorCounterLinear12
import Derived.RegionTactic
import Derived.Laws.CopyRow
set_option linter.unusedSimpArgs false
set_option linter.unusedVariables false
set_option maxHeartbeats 4000000
set_option maxRecDepth 100000
noncomputable section
namespace Go.Proofs.YtfjjoohflcchnaaDoor.Gen
open Go Go.Lift Go.Conc Go.RowKit
variable {z:Nat->Option Nat} {main:Bool} {v v' w:World} {b c cb fb h i j nb q s sb tb:Nat} {cont:Addr->Value} {S:TS} {K:List (Nat×Int)} {t:Thr} {n:Int} {a ac:Act} {bc:Frame} {ops:Array Oper} {rest:List Nat} {oc:Oper} {k:List Item} {l m:List Int}
theorem id_any (tb i:Nat) (w:World) (h:w.cell? ⟨tb,1,none⟩=some (I i)):Calls Tryd.prog 68 #[Pt tb 0] w λe w'=>e=.returned (I i)∧w'=w:=by
 go_enter Tryd.func68,Tryd.ntmps68
 go_wp2_with fail;go_ret;exact ⟨rfl,rfl⟩
theorem which_any (i s j:Nat) (hj:i % s=j) (hs:0<s) (w:World):Calls Tryd.prog 62 #[I i,I s] w λe w'=>e=.returned (I j)∧w'=w:=by
 subst hj;have h2:((s:Int)==0)=false:=by simp;omega
 have h3:¬ ((s:Int)=0):=by omega
 have h4:0<=((i:Int) % (s:Int)):=Int.emod_nonneg _ h3;have h5:decide ((i:Int) % (s:Int)<0)=false:=decide_eq_false (by omega)
 go_enter Tryd.func62,Tryd.ntmps62
 go_wp2_with fail;go_ret;exact ⟨by rw[Int.natCast_emod];rfl,rfl⟩
def a55:Code:=seq1 (Tryd.f55.body.getD .skip)
def L55:Code:=loopC (blockC (seq2 (Tryd.f55.body.getD .skip)))
def B55:Code:=blockC L55
def ops551:Array Oper:=opsOf (seq1 B55)
def ops552:Array Oper:=opsOf (seq1 (seq2 B55))
theorem fine_a55:fineCode Tryd.prog true LT a55:=fineCode_ask callT extT (by kernel_rfl)
def aFr (a:Act):Frame:=(base 55).at a [.code L55,.inLoop L55,.inBlock 0]
def aSeen (a:Act) (r:Value):Frame:=(base 55).at (a.put (some 24) r) [.inRegion ops551 [3],.code (seq2 B55),.inBlock 1,.inLoop L55,.inBlock 0]
def aTried (a:Act) (r:Value):Frame:=(base 55).at (a.put (some 31) r) [.inRegion ops552 [],.code (seq2 (seq2 B55)),.inBlock 1,.inLoop L55,.inBlock 0]
structure Ctr (v:World) (c sb s:Nat) (kb:List Nat):Prop where
 row:v.cell? ⟨c,0,none⟩=some (.slice (some ⟨sb,0,none⟩) s s)
 cel:∀ j,j<s->∃ cb,kb[j]? = some cb∧v.cell? ⟨sb,j,none⟩=some (Pt cb 0)
 s0:0<s
 s1:s<=16
theorem a55_wp (v:World) (c sb s tb i cb:Nat) (n:Int) (h0:v.cell? ⟨c,0,none⟩=some (.slice (some ⟨sb,0,none⟩) s s)) (h1:v.cell? ⟨tb,1,none⟩=some (I i)) (h2:v.cell? ⟨sb,i % s,none⟩=some (Pt cb 0)) (hs:0<s):
 a55.wp Tryd.prog (λe a w'=>e=.normal∧Fl 32 [(0,Pt c 0),(1,Pt tb 0),(2,I n),(6,Pt cb 0)] a∧w'.heap=v.heap∧w'.os=v.os∧w'.output=v.output) { tmps:=#[Pt c 0,Pt tb 0,I n]++Array.replicate 29 undef,defers:=[] } v:=by
 have hlt:i % s<s:=Nat.mod_lt _ hs;have hlt2:((i % s:Nat):Int)<(s:Int):=by omega
 have hge:¬ ((i % s:Nat):Int)<0:=by omega
 generalize hj:i % s=j at h2 hlt hlt2 hge;have HJ:Hid (i % s=j):=⟨hj⟩
 clear hj;unfold a55 Tryd.f55 seq1;simp only[Qa,Sy];go_wp2_with fail
 go_quiet ((first
  |(go_at_call 68;exact Calls.quiet_of_same (id_any tb i _ (by simpa using h1)))
  |(go_at_call 62;exact Calls.quiet_of_same (which_any i s j HJ.out hs _))))
 exact ⟨rfl,⟨rfl,rfl,by
  intro p hp;simp only[Sm,or_false] at hp;rcases hp with rfl|rfl|rfl|rfl<;>rfl⟩,rfl,rfl,rfl⟩
theorem add_in {Ch:Nat->Prop}{Stop:Goroutine->World->Prop}{kb:List Nat}(n:Int) (hC:Ctr v c sb s kb) (h1:v.cell? ⟨tb,1,none⟩=some (I i)) (hcb:kb[i % s]? = some cb) (cs:List Frame) (hvw:Rel z v w) (hn:NoRow Ch v)
 (hk:∀ a v' w',Fl 32 [(0,Pt c 0),(1,Pt tb 0),(2,I n),(6,Pt cb 0)] a->Rel z v' w'->NoRow Ch v'->v'.heap=v.heap->v'.os=v.os->v'.output=v.output->GoesI Tryd.prog main (DT (ScZ z) Ch) Stop (G (aFr a) cs) w') (code:Code) (hc:Tryd.f55.body=some code):
 GoesI Tryd.prog main (DT (ScZ z) Ch) Stop (G ((base 55).at { tmps:=#[Pt c 0,Pt tb 0,I n]++Array.replicate 29 undef,defers:=[] } [.code code]) cs) w:=by
 have hw0:code=.seq a55 (.block 0 (.loop L55)):=by rw[show code=Tryd.f55.body.getD .skip by rw[hc];rfl];rfl
 subst hw0;clear hc;obtain ⟨cb',e1,e2⟩:=hC.cel (i % s) (Nat.mod_lt _ hC.s0);have e3:cb'=cb:=by rw[hcb] at e1;exact (Qd e1).symm
 rw[e3] at e2;refine goesI_seq (dt_idle _ _) ?_;refine goesI_plain (z:=z) (wr:=true) (L:=LT) (I:=NoRow Ch) hE fineT noRow_keeps (λv v' w w' es hi hr ho he=>dt_of_z v v' w w' es hi hr ho he) hvw fine_a55 rfl (by simp[base]) hn
  (Q:=λa w'=>Fl 32 [(0,Pt c 0),(1,Pt tb 0),(2,I n),(6,Pt cb 0)] a∧w'.heap=v.heap∧w'.os=v.os∧w'.output=v.output) (λτ=>a55_wp (onTape v τ 0) c sb s tb i cb n hC.row h1 e2 hC.s0) ?_
 rintro a' v' w' ⟨hA,q1,q2,q3⟩ hr' hn' -;refine goesI_block (dt_idle _ _) ?_;refine goesI_loop (dt_idle _ _) ?_;exact hk a' v' w' hA hr' hn' q1 q2 q3
theorem add_loop {Ch:Nat->Prop}{Stop:Goroutine->World->Prop}(x:Int) (hA:Fl 32 [(0,Pt c 0),(1,Pt t.tb 0),(2,I n),(6,Pt cb 0)] a) (cs:List Frame) (Hm:Goroutine->Prop)
 (hH:∀ g,(∃ a,Fl 32 [(0,Pt c 0),(1,Pt t.tb 0),(2,I n),(6,Pt cb 0)] a∧OpBack (h==0) i j cb t.tb 1 effLoad (λr=>G (aSeen a r) cs) g)->Hm g)
 (hvw:Rel z v w) (hn:NoRow Ch v) (hm:Mem z S K v) (ht:S.thr[i]? = some t) (hK:K[j]? = some (cb,x)) (hz:z t.tb=some 2) (hcont:cont ⟨t.tb,2,none⟩=.chan (some t.gc))
 (hstop:∀ g w',GiveT z cont h S.bk t.gc Hm (Then z Ch S K v (waiting S i t 1 1 j) K) g w'->Stop g w'):
 GoesI Tryd.prog (h==0) (DT (ScZ z) Ch) Stop (G (aFr a) cs) w:=by
 have HM:Hid (Mem z S K v):=⟨hm⟩
 clear hm;unfold aSeen ops551 B55 L55 Tryd.f55 seq1 seq2 blockC loopC opsOf at hH;simp only[Qa] at hH;obtain ⟨hsz,hd,hpp⟩:=hA;obtain ⟨u,rfl,hg⟩:=litN hsz hd;have u0:=(hg 0).symm.trans (hpp (0,Pt c 0) (by simp));have u1:=(hg 1).symm.trans (hpp (1,Pt t.tb 0) (by simp));have u2:=(hg 2).symm.trans (hpp (2,I n) (by simp));have u6:=(hg 6).symm.trans (hpp (6,Pt cb 0) (by simp));clear hg hpp hsz hd;unfold aFr L55 Tryd.f55 seq2 blockC loopC;simp only[Qa,lits,Nat.reduceAdd,u0,u1,u2,u6];clear u0 u1 u2 u6;refine goesI_block (dt_idle _ _) ?_;refine goesI_seq (dt_idle _ _) ?_;refine goesI_region (dt_idle _ _) ?_;simp only[Sz,Sr,Nat.reduceAdd];iterate 2
  (refine goesI_oper rfl rfl (by decide) (λd K hK=>?_)
   go_simp;refine hK _ _ ⟨dt_reads (λe he=>?_),GoesI.at ?_ d⟩
   .have hm:=mem_listed he
    simp[go_sem, *] at hm
    try exact ⟨_,_,hm⟩
   clear hK K)
 refine goesI_into (f:=73) (fn:=Tryd.f73) (args:=#[Pt cb 0,Pt t.tb 0]) (dt_idle _ _) rfl rfl (by decide) rfl (by simp[Act.eval]) Tryd.func73 (by decide) rfl ?_;exact load_goes x _ Hm rfl (λg hg=>hH g ⟨_,⟨rfl,rfl,by
  intro p hp;simp only[Sm,or_false] at hp;rcases hp with rfl|rfl|rfl|rfl<;>rfl⟩,hg⟩) hvw hn HM.out ht hK hz hcont hstop _ rfl
theorem fits_flds (h:R1.Flds v) (e:w.heap=v.heap):R1.Flds w:=h.of λa x ha=>by rw[World.cell?_of_block (w:=v) (by rw[e])];exact ha
theorem blw_grows (h:Below v.heap.size v v'):Grows v v':=⟨h.size,λb hb=>h.block b hb,h.os,h.output⟩
theorem add_try {Ch:Nat->Prop}{Stop:Goroutine->World->Prop}(x y:Int) (hF:R1.Flds v) (hA:Fl 32 [(0,Pt c 0),(1,Pt t.tb 0),(2,I n),(6,Pt cb 0)] a) (cs:List Frame) (Hm:Goroutine->Prop)
 (hH:∀ g,(∃ a,Fl 32 [(0,Pt c 0),(1,Pt t.tb 0),(2,I n),(6,Pt cb 0)] a∧OpBack (h==0) i j cb t.tb 4 (effCas x (R1.addI x n)) (λr=>G (aTried a r) cs) g)->Hm g)
 (hvw:Rel z v w) (hn:NoRow Ch v) (hm:Mem z S K v) (ht:S.thr[i]? = some t) (hK:K[j]? = some (cb,y)) (hz:z t.tb=some 2) (hcont:cont ⟨t.tb,2,none⟩=.chan (some t.gc))
 (hstop:∀ g w',GiveT z cont h S.bk t.gc Hm (Then z Ch S K v (waiting S i t 1 4 j) K) g w'->Stop g w'):
 GoesI Tryd.prog (h==0) (DT (ScZ z) Ch) Stop (G (aSeen a (I x)) cs) w:=by
 have HM:Hid (Mem z S K v):=⟨hm⟩
 clear hm;unfold aTried ops552 B55 L55 Tryd.f55 seq1 seq2 blockC loopC opsOf at hH;simp only[Qa] at hH;obtain ⟨hsz,hd,hpp⟩:=hA;obtain ⟨u,rfl,hg⟩:=litN hsz hd;have u0:=(hg 0).symm.trans (hpp (0,Pt c 0) (by simp));have u1:=(hg 1).symm.trans (hpp (1,Pt t.tb 0) (by simp));have u2:=(hg 2).symm.trans (hpp (2,I n) (by simp));have u6:=(hg 6).symm.trans (hpp (6,Pt cb 0) (by simp));clear hg hpp hsz hd;unfold aSeen ops551 B55 L55 Tryd.f55 seq2 seq1 blockC loopC opsOf;simp only[Qa,lits,Nat.reduceAdd,u0,u1,u2,u6];clear u0 u1 u2 u6;walk_nrm
 iterate 1
  (refine goesI_oper rfl rfl (by decide) (λd K hK=>?_)
   go_simp;refine hK _ _ ⟨dt_reads (λe he=>?_),GoesI.at ?_ d⟩
   .have hm:=mem_listed he
    simp[go_sem, *] at hm
    try exact ⟨_,_,hm⟩
   clear hK K)
 refine goesI_regionEnd (dt_idle _ _) ?_;refine goesI_seq (dt_idle _ _) ?_;refine goesI_region (dt_idle _ _) ?_;simp only[Sz,Sr,Nat.reduceAdd];iterate 5
  (refine goesI_oper rfl rfl (by decide) (λd K hK=>?_)
   go_simp;refine hK _ _ ⟨dt_reads (λe he=>?_),GoesI.at ?_ d⟩
   .have hm:=mem_listed he
    simp[go_sem, *] at hm
    try exact ⟨_,_,hm⟩
   clear hK K)
 refine goesI_call (f:=87) (fn:=Tryd.f87) (args:=#[I x,I n]) hE fineT rfl rfl (by decide) rfl (by simp[Act.eval]) Tryd.func87 (by kernel_rfl) rfl (fineFn_body fineT (by simp[LT,plainFs]) Tryd.func87 rfl) (λtmps=>⟨_,λw=>results_tmp rfl _ _ _,λw=>by simp[results,go_sem,Tryd.f87]⟩) hvw hn
  (R:=λr v4=>r=I (R1.addI x n)∧Grows v v4) (λτ=>?_) (λr v4 w4 hR hvw4 hn4=>?_)
 exact wp_mono (R1.added_any x n (onTape v τ 0) (fits_flds hF rfl) _ rfl) (bp_mono λr u hq=>⟨hq.1,⟨(blw_grows hq.2).size,(blw_grows hq.2).old,hq.2.os,hq.2.output⟩⟩);obtain ⟨rfl,hg4⟩:=hR;have hm4:=(HM.out.grows hg4)
 walk_nrm
 refine goesI_into (f:=77) (fn:=Tryd.f77) (args:=#[Pt cb 0,Pt t.tb 0,I x,I (R1.addI x n)]) (dt_idle _ _) rfl rfl (by decide) rfl (by simp[Act.eval]) Tryd.func77 (by decide) rfl ?_;exact cas_goes x (R1.addI x n) y _ Hm rfl (λg hg=>hH g ⟨_,⟨rfl,rfl,by
  intro p hp;simp only[Sm,or_false] at hp;rcases hp with rfl|rfl|rfl|rfl<;>rfl⟩,hg⟩) hvw4 hn4 hm4.mem ht hK hz hcont (λg w' hs=>hstop g w' (give_mono (λhT=>by obtain ⟨v',r1,r2,r3⟩:=hT;exact ⟨v',r1,r2,hm4.trans r3⟩) hs)) _ rfl
theorem add_won {Ch:Nat->Prop}{Stop:Goroutine->World->Prop}{L:List (Nat×Value)}(hA:Fl 32 L a) (cs:List Frame) (hoc:ops[q]? = some oc)
 (hvw:Rel z v w) (hn:NoRow Ch v)
 (hk:∀ w',Rel z v w'->GoesI Tryd.prog main (DT (ScZ z) Ch) Stop (G (bc.at (ac.put oc.dst (.tuple #[])) (.inRegion ops rest :: k)) cs) w'):
 GoesI Tryd.prog main (DT (ScZ z) Ch) Stop (G (aTried a (.bool true)) (bc.at ac (.inRegion ops (q :: rest) :: k) :: cs)) w:=by
 obtain ⟨hsz,hd,hpp⟩:=hA;obtain ⟨u,rfl,hg⟩:=litN hsz hd;clear hg hpp hsz hd;unfold aTried ops552 B55 L55 Tryd.f55 seq2 seq1 blockC loopC opsOf;simp only[Qa,lits,Nat.reduceAdd];walk_nrm
 refine goesI_regionEnd (dt_idle _ _) ?_;refine goesI_cond (dt_idle _ _) (t:=true) rfl ?_;simp only[if_true,if_false,Qh];refine GoesI.ctl rfl (λ_=>stepG_ret') (dt_idle _ _) ?_;exact goesI_leaveZ (f:=55) (fn:=Tryd.f55) (x:=.tuple #[]) hvw hn Tryd.func55 rfl hoc (by simp[results,go_sem,Tryd.f55]) (λw' r'=>hk w' r')
theorem add_again {Ch:Nat->Prop}{Stop:Goroutine->World->Prop}(hA:Fl 32 [(0,Pt c 0),(1,Pt tb 0),(2,I n),(6,Pt cb 0)] a) (cs:List Frame)
 (hk:∀ a,Fl 32 [(0,Pt c 0),(1,Pt tb 0),(2,I n),(6,Pt cb 0)] a->GoesI Tryd.prog main (DT (ScZ z) Ch) Stop (G (aFr a) cs) w):
 GoesI Tryd.prog main (DT (ScZ z) Ch) Stop (G (aTried a (.bool false)) cs) w:=by
 unfold aFr L55 Tryd.f55 seq2 blockC loopC at hk;simp only[Qa] at hk;obtain ⟨hsz,hd,hpp⟩:=hA;obtain ⟨u,rfl,hg⟩:=litN hsz hd;have u0:=(hg 0).symm.trans (hpp (0,Pt c 0) (by simp));have u1:=(hg 1).symm.trans (hpp (1,Pt tb 0) (by simp));have u2:=(hg 2).symm.trans (hpp (2,I n) (by simp));have u6:=(hg 6).symm.trans (hpp (6,Pt cb 0) (by simp));clear hg hpp hsz hd;unfold aTried ops552 B55 L55 Tryd.f55 seq2 seq1 blockC loopC opsOf;simp only[Qa,lits,Nat.reduceAdd,u0,u1,u2,u6];clear u0 u1 u2 u6;walk_nrm
 refine goesI_regionEnd (dt_idle _ _) ?_;refine goesI_cond (dt_idle _ _) (t:=false) rfl ?_;simp only[if_true,if_false,Qh];refine goesI_skip (dt_idle _ _) ?_;refine goesI_inBlock (dt_idle _ _) ?_;refine goesI_inLoop (dt_idle _ _) ?_;exact hk _ ⟨rfl,rfl,by
  intro p hp;simp only[Sm,or_false] at hp;rcases hp with rfl|rfl|rfl|rfl<;>rfl⟩
def a88:Code:=seq1 (Tryd.f88.body.getD .skip)
def L88:Code:=loopC (blockC (seq2 (Tryd.f88.body.getD .skip)))
def B88:Code:=blockC (seq1 (seq2 (seq2 L88)))
def ops883:Array Oper:=opsOf (seq2 B88)
def r884:Code:=seq2 (seq2 (seq2 L88))
theorem fine_a88:fineCode Tryd.prog true LT a88:=fineCode_ask callT extT (by kernel_rfl)
def kFr (a:Act):Frame:=(base 88).at a [.code L88,.inLoop L88,.inBlock 0]
def kSeen (a:Act) (r:Value):Frame:=(base 88).at (a.put (some 22) r) [.inRegion ops883 [5,6],.inBlock 1,.code r884,.inLoop L88,.inBlock 0]
theorem a88_wp (v:World) (c sb s nb tb:Nat) (h0:v.cell? ⟨c,0,none⟩=some (.slice (some ⟨sb,0,none⟩) s s)):
 a88.wp Tryd.prog (λe a w'=>e=.normal∧Fl 25 [(0,Pt c 0),(1,Pt tb 0),(2,.slice (some ⟨nb,0,none⟩) s s),(11,.slice (some ⟨sb,0,none⟩) s s),(12,I s),(13,I 0)] a∧w'.heap=v.heap∧w'.os=v.os∧w'.output=v.output) { tmps:=#[Pt c 0,Pt tb 0,.slice (some ⟨nb,0,none⟩) s s]++Array.replicate 22 undef,defers:=[] } v:=by
 unfold a88 Tryd.f88 seq1;simp only[Qa,Sy];go_wp2_with fail;first
  |exact ⟨rfl,⟨rfl,rfl,by
   intro p hp;simp only[Sm,or_false] at hp;rcases hp with rfl|rfl|rfl|rfl|rfl|rfl<;>rfl⟩,rfl,rfl,rfl⟩
  |exact ⟨rfl,rfl,by
   intro p hp;simp only[Sm,or_false] at hp;rcases hp with rfl|rfl|rfl|rfl|rfl|rfl<;>rfl⟩
theorem coll_in {Ch:Nat->Prop}{Stop:Goroutine->World->Prop}(h0:v.cell? ⟨c,0,none⟩=some (.slice (some ⟨sb,0,none⟩) s s)) (cs:List Frame) (hvw:Rel z v w) (hn:NoRow Ch v)
 (hk:∀ a v' w',Fl 25 [(0,Pt c 0),(1,Pt tb 0),(2,.slice (some ⟨nb,0,none⟩) s s),(11,.slice (some ⟨sb,0,none⟩) s s),(12,I s),(13,I 0)] a->Rel z v' w'->NoRow Ch v'->v'.heap=v.heap->v'.os=v.os->v'.output=v.output->GoesI Tryd.prog main (DT (ScZ z) Ch) Stop (G (kFr a) cs) w') (code:Code) (hc:Tryd.f88.body=some code):
 GoesI Tryd.prog main (DT (ScZ z) Ch) Stop (G ((base 88).at { tmps:=#[Pt c 0,Pt tb 0,.slice (some ⟨nb,0,none⟩) s s]++Array.replicate 22 undef,defers:=[] } [.code code]) cs) w:=by
 have hw0:code=.seq a88 (.block 0 (.loop L88)):=by rw[show code=Tryd.f88.body.getD .skip by rw[hc];rfl];rfl
 subst hw0;clear hc;refine goesI_seq (dt_idle _ _) ?_;refine goesI_plain (z:=z) (wr:=true) (L:=LT) (I:=NoRow Ch) hE fineT noRow_keeps (λv v' w w' es hi hr ho he=>dt_of_z v v' w w' es hi hr ho he) hvw fine_a88 rfl (by simp[base]) hn
  (Q:=λa w'=>Fl 25 [(0,Pt c 0),(1,Pt tb 0),(2,.slice (some ⟨nb,0,none⟩) s s),(11,.slice (some ⟨sb,0,none⟩) s s),(12,I s),(13,I 0)] a∧w'.heap=v.heap∧w'.os=v.os∧w'.output=v.output) (λτ=>a88_wp (onTape v τ 0) c sb s nb tb h0) ?_
 rintro a' v' w' ⟨hA,q1,q2,q3⟩ hr' hn' -;refine goesI_block (dt_idle _ _) ?_;refine goesI_loop (dt_idle _ _) ?_;exact hk a' v' w' hA hr' hn' q1 q2 q3
theorem coll_look {Ch:Nat->Prop}{Stop:Goroutine->World->Prop}{k:Nat}(x:Int) (hks:k<s) (hcb:v.cell? ⟨sb,k,none⟩=some (Pt cb 0)) (hA:Fl 25 [(0,Pt c 0),(1,Pt t.tb 0),(2,.slice (some ⟨nb,0,none⟩) s s),(11,.slice (some ⟨sb,0,none⟩) s s),(12,I s),(13,I k)] a) (cs:List Frame) (Hm:Goroutine->Prop)
 (hH:∀ g,(∃ a,Fl 25 [(0,Pt c 0),(1,Pt t.tb 0),(2,.slice (some ⟨nb,0,none⟩) s s),(11,.slice (some ⟨sb,0,none⟩) s s),(12,I s),(13,I k)] a∧Fl 25 [(18,.slice (some ⟨nb,0,none⟩) s s),(19,I k)] a∧OpBack (h==0) i k cb t.tb 1 effLoad (λr=>G (kSeen a r) cs) g)->Hm g)
 (hvw:Rel z v w) (hn:NoRow Ch v) (hm:Mem z S K v) (ht:S.thr[i]? = some t) (hK:K[k]? = some (cb,x)) (hz:z t.tb=some 2) (hcont:cont ⟨t.tb,2,none⟩=.chan (some t.gc))
 (hstop:∀ g w',GiveT z cont h S.bk t.gc Hm (Then z Ch S K v (waiting S i t 1 1 k) K) g w'->Stop g w'):
 GoesI Tryd.prog (h==0) (DT (ScZ z) Ch) Stop (G (kFr a) cs) w:=by
 have e0:w.cell? ⟨sb,k,none⟩=some (Pt cb 0):=by rw[hvw.cell?];exact hcb
 have hks':(k:Int)<(s:Int):=by omega
 have HM:Hid (Mem z S K v):=⟨hm⟩
 clear hm;unfold kSeen ops883 r884 B88 L88 Tryd.f88 seq1 seq2 blockC loopC opsOf at hH;simp only[Qa] at hH;obtain ⟨hsz,hd,hpp⟩:=hA;obtain ⟨u,rfl,hg⟩:=litN hsz hd;have u0:=(hg 0).symm.trans (hpp (0,Pt c 0) (by simp));have u1:=(hg 1).symm.trans (hpp (1,Pt t.tb 0) (by simp));have u2:=(hg 2).symm.trans (hpp (2,.slice (some ⟨nb,0,none⟩) s s) (by simp));have u11:=(hg 11).symm.trans (hpp (11,.slice (some ⟨sb,0,none⟩) s s) (by simp));have u12:=(hg 12).symm.trans (hpp (12,I s) (by simp));have u13:=(hg 13).symm.trans (hpp (13,I k) (by simp));clear hg hpp hsz hd;unfold kFr L88 Tryd.f88 seq2 blockC loopC;simp only[Qa,lits,Nat.reduceAdd,u0,u1,u2,u11,u12,u13];clear u0 u1 u2 u11 u12 u13;refine goesI_seq (dt_idle _ _) ?_;refine goesI_region (dt_idle _ _) ?_;simp only[Sz,Sr,Nat.reduceAdd];iterate 1
  (refine goesI_oper rfl rfl (by decide) (λd K hK=>?_)
   go_simp;refine hK _ _ ⟨dt_reads (λe he=>?_),GoesI.at ?_ d⟩
   .have hm:=mem_listed he
    simp[go_sem, *] at hm
    try exact ⟨_,_,hm⟩
   clear hK K)
 refine goesI_regionEnd (dt_idle _ _) ?_;refine goesI_seq (dt_idle _ _) ?_;refine goesI_cond (dt_idle _ _) (t:=true) (by simp[Act.eval,hks]) ?_;simp only[if_true,if_false,Qh];refine goesI_skip (dt_idle _ _) ?_;refine goesI_seq (dt_idle _ _) ?_;refine goesI_block (dt_idle _ _) ?_;refine goesI_seq (dt_idle _ _) ?_;refine goesI_region (dt_idle _ _) ?_;simp only[Sz,Sr,Nat.reduceAdd];iterate 5
  (refine goesI_oper rfl rfl (by decide) (λd K hK=>?_)
   go_simp;refine hK _ _ ⟨dt_reads (λe he=>?_),GoesI.at ?_ d⟩
   .have hm:=mem_listed he
    simp[go_sem, *] at hm
    try exact ⟨_,_,hm⟩
   clear hK K)
 refine goesI_regionEnd (dt_idle _ _) ?_;refine goesI_region (dt_idle _ _) ?_;simp only[Sz,Sr,Nat.reduceAdd];iterate 4
  (refine goesI_oper rfl rfl (by decide) (λd K hK=>?_)
   go_simp;refine hK _ _ ⟨dt_reads (λe he=>?_),GoesI.at ?_ d⟩
   .have hm:=mem_listed he
    simp[go_sem, *] at hm
    try exact ⟨_,_,hm⟩
   clear hK K)
 refine goesI_into (f:=73) (fn:=Tryd.f73) (args:=#[Pt cb 0,Pt t.tb 0]) (dt_idle _ _) rfl rfl (by decide) rfl (by simp[Act.eval]) Tryd.func73 (by decide) rfl ?_;exact load_goes x _ Hm rfl (λg hg=>hH g ⟨_,⟨rfl,rfl,by
  intro p hp;simp only[Sm,or_false] at hp;rcases hp with rfl|rfl|rfl|rfl|rfl|rfl<;>rfl⟩,⟨rfl,rfl,by
  intro p hp;simp only[Sm,or_false] at hp;rcases hp with rfl|rfl<;>rfl⟩,hg⟩) hvw hn HM.out ht hK hz hcont hstop _ rfl
theorem coll_put {Ch:Nat->Prop}{Stop:Goroutine->World->Prop}{k:Nat}(x y:Int) (hks:k<s) (hs1:s<=16) (hy:v.cell? ⟨nb,k,none⟩=some (I y)) (hf:v.frozen? ⟨nb,k,none⟩=false) (hA:Fl 25 [(0,Pt c 0),(1,Pt tb 0),(2,.slice (some ⟨nb,0,none⟩) s s),(11,.slice (some ⟨sb,0,none⟩) s s),(12,I s),(13,I k)] a) (hA2:Fl 25 [(18,.slice (some ⟨nb,0,none⟩) s s),(19,I k)] a) (cs:List Frame) (hvw:Rel z v w) (hn:NoRow Ch v)
 (hk:∀ a w',Fl 25 [(0,Pt c 0),(1,Pt tb 0),(2,.slice (some ⟨nb,0,none⟩) s s),(11,.slice (some ⟨sb,0,none⟩) s s),(12,I s),(13,I ((k+1:Nat):Int))] a->Rel z (v.setCell ⟨nb,k,none⟩ (I x)) w'->NoRow Ch (v.setCell ⟨nb,k,none⟩ (I x))->GoesI Tryd.prog main (DT (ScZ z) Ch) Stop (G (kFr a) cs) w'):
 GoesI Tryd.prog main (DT (ScZ z) Ch) Stop (G (kSeen a (I x)) cs) w:=by
 have hks':(k:Int)<(s:Int):=by omega
 have e18:=hA2.2.2 (18,.slice (some ⟨nb,0,none⟩) s s) (by simp);have e19:=hA2.2.2 (19,I k) (by simp);clear hA2;obtain ⟨hsz,hd,hpp⟩:=hA;obtain ⟨u,rfl,hg⟩:=litN hsz hd;have u0:=(hg 0).symm.trans (hpp (0,Pt c 0) (by simp));have u1:=(hg 1).symm.trans (hpp (1,Pt tb 0) (by simp));have u2:=(hg 2).symm.trans (hpp (2,.slice (some ⟨nb,0,none⟩) s s) (by simp));have u11:=(hg 11).symm.trans (hpp (11,.slice (some ⟨sb,0,none⟩) s s) (by simp));have u12:=(hg 12).symm.trans (hpp (12,I s) (by simp));have u13:=(hg 13).symm.trans (hpp (13,I k) (by simp));have u18:=(hg 18).symm.trans e18;have u19:=(hg 19).symm.trans e19;clear hg hpp hsz hd e18 e19;unfold kFr L88 Tryd.f88 seq2 blockC loopC at hk;simp only[Qa] at hk;unfold kSeen ops883 r884 B88 L88 Tryd.f88 seq1 seq2 blockC loopC opsOf;simp only[Qa,lits,Nat.reduceAdd,u0,u1,u2,u11,u12,u13,u18,u19];clear u0 u1 u2 u11 u12 u13 u18 u19;walk_nrm
 refine goesI_opZ (L:=LT) rfl rfl (by decide) (fineOp_ask callT extT (by kernel_rfl)) hvw hn (x:=.pointer (some ⟨nb,k,none⟩)) (v':=v) (by go_simp) rfl (λw1 hvw1 _=>?_);refine goesI_doZ (L:=LT) rfl rfl (by decide) (fineOp_ask callT extT (by kernel_rfl)) hvw1 hn (v':=v.setCell ⟨nb,k,none⟩ (I x)) (by go_simp) rfl (λw2 hvw2 hn2=>?_);walk_nrm
 refine goesI_regionEnd (dt_idle _ _) ?_;refine goesI_inBlock (dt_idle _ _) ?_;refine goesI_region (dt_idle _ _) ?_;simp only[Sz,Sr,Nat.reduceAdd];iterate 2
  (refine goesI_oper rfl rfl (by decide) (λd K hK=>?_)
   go_simp;refine hK _ _ ⟨dt_reads (λe he=>?_),GoesI.at ?_ d⟩
   .have hm:=mem_listed he
    simp[go_sem, *] at hm
    try exact ⟨_,_,hm⟩
   clear hK K)
 refine goesI_regionEnd (dt_idle _ _) ?_;refine goesI_inLoop (dt_idle _ _) ?_;have hw1:IntKind.i64.wrap ((k:Int)+1)=((k+1:Nat):Int):=by rw[IntKind.wrap_i64];omega
 rw[hw1];refine hk _ _ ?_ hvw2 hn2;exact ⟨rfl,rfl,by
  intro p hp;simp only[Sm,or_false] at hp;rcases hp with rfl|rfl|rfl|rfl|rfl|rfl<;>rfl⟩
theorem coll_done {Ch:Nat->Prop}{Stop:Goroutine->World->Prop}{k:Nat}(hks:k=s) (hA:Fl 25 [(0,Pt c 0),(1,Pt tb 0),(2,.slice (some ⟨nb,0,none⟩) s s),(11,.slice (some ⟨sb,0,none⟩) s s),(12,I s),(13,I k)] a) (cs:List Frame) {kk:List Item}(hoc:ops[q]? = some oc) (hvw:Rel z v w) (hn:NoRow Ch v)
 (hk:∀ w',Rel z v w'->GoesI Tryd.prog main (DT (ScZ z) Ch) Stop (G (bc.at (ac.put oc.dst (.tuple #[])) (.inRegion ops rest :: kk)) cs) w'):
 GoesI Tryd.prog main (DT (ScZ z) Ch) Stop (G (kFr a) (bc.at ac (.inRegion ops (q :: rest) :: kk) :: cs)) w:=by
 subst hks;obtain ⟨hsz,hd,hpp⟩:=hA;obtain ⟨u,rfl,hg⟩:=litN hsz hd;have u0:=(hg 0).symm.trans (hpp (0,Pt c 0) (by simp));have u1:=(hg 1).symm.trans (hpp (1,Pt tb 0) (by simp));have u2:=(hg 2).symm.trans (hpp (2,.slice (some ⟨nb,0,none⟩) k k) (by simp));have u11:=(hg 11).symm.trans (hpp (11,.slice (some ⟨sb,0,none⟩) k k) (by simp));have u12:=(hg 12).symm.trans (hpp (12,I k) (by simp));have u13:=(hg 13).symm.trans (hpp (13,I k) (by simp));clear hg hpp hsz hd;unfold kFr L88 Tryd.f88 seq2 blockC loopC;simp only[Qa,lits,Nat.reduceAdd,u0,u1,u2,u11,u12,u13];clear u0 u1 u2 u11 u12 u13;refine goesI_seq (dt_idle _ _) ?_;refine goesI_region (dt_idle _ _) ?_;simp only[Sz,Sr,Nat.reduceAdd];iterate 1
  (refine goesI_oper rfl rfl (by decide) (λd K hK=>?_)
   go_simp;refine hK _ _ ⟨dt_reads (λe he=>?_),GoesI.at ?_ d⟩
   .have hm:=mem_listed he
    simp[go_sem, *] at hm
    try exact ⟨_,_,hm⟩
   clear hK K)
 refine goesI_regionEnd (dt_idle _ _) ?_;refine goesI_seq (dt_idle _ _) ?_;refine goesI_cond (dt_idle _ _) (t:=false) (by simp[Act.eval]) ?_;simp only[if_true,if_false,Qh];refine goesI_exit (dt_idle _ _) (k':=[]) rfl ?_;refine goesI_end (dt_idle _ _) ?_;exact goesI_leaveZ (f:=88) (fn:=Tryd.f88) (x:=.tuple #[]) hvw hn Tryd.func88 rfl hoc (by simp[results,go_sem,Tryd.f88]) (λw' r'=>hk w' r')
theorem info3:(Tryd.prog.info? 3).map (λi=>(i.zero,i.size,i.bytes))=some (some (I 0),1,8):=by kernel_rfl
theorem make_nums (n:Nat) (hn:n<=1048576) (w:World):
 (Instr.makeSlice 22 (.int .i64 (n:Int)) (.int .i64 (n:Int))).run Tryd.prog w=.ok (.slice (some ⟨w.heap.size,0,none⟩) n n) (w.alloc (.cells (madeCells #[I 0] n) 3)):=by
 cases hq:Tryd.prog.info? 3 with
 |none=>have:=info3;rw[hq] at this;cases this
 |some i =>have hi:=info3;rw[hq] at hi;simp only[Option.map_some,Option.some.injEq,Prod.mk.injEq] at hi;obtain ⟨hz,hs,hb⟩:=hi;have:=run_make (P:=Tryd.prog) w 22 3 i _ Tryd.underlying22 hq hz .i64 .i64 (n:Int) (n:Int) (by omega) (by omega) (by rw[hb];omega) (by omega);rw[hs] at this;rw[this];simp[Value.cells]
def rowI (l:List Int):Obj:=.cells (l.map I).toArray 3 (0,0)
theorem Ah (h:v.heap[b]? = some (rowI l)) {k:Nat}{x:Int}(hk:l[k]? = some x):v.cell? ⟨b,k,none⟩=some (I x):=by simp only[World.cell?,h,rowI];simp[hk]
theorem rowI_froz (h:v.heap[b]? = some (rowI l)) (k:Nat):v.frozen? ⟨b,k,none⟩=false:=by simp only[World.frozen?,h,rowI];simp
theorem made_rowI (s:Nat):(.cells (madeCells #[I 0] s) 3:Obj)=rowI (List.replicate s 0):=by
 unfold rowI
 congr 1
 apply Array.ext_getElem?;intro i;by_cases h:i<s;simp[madeCells,h,Nat.mod_one];simp[madeCells,h]
theorem rowI_set (h:v.heap[b]? = some (rowI l)) (k:Nat) (x:Int):(v.setCell ⟨b,k,none⟩ (I x)).heap[b]? = some (rowI (l.set k x)):=by
 have:=heap_setCell_same (o:=k) (show v.heap[b]? = some (.cells (l.map I).toArray 3 (0,0)) from h) (I x);rw[this];unfold rowI
 congr 2
 apply Array.ext_getElem?;intro i;simp[List.map_set]
theorem setRow_rowI (h:v.heap[b]? = some (rowI m)) (l:List Int):(v.setRow b (l.map I).toArray).heap[b]? = some (rowI l):=setRow_heap v b (m.map I).toArray _ 3 (0,0) h
def a57:Code:=seq1 (seq2 (Tryd.f57.body.getD .skip))
def L57:Code:=loopC (blockC (seq2 (seq2 (Tryd.f57.body.getD .skip))))
def B57:Code:=blockC L57
def ops572:Array Oper:=opsOf (seq1 B57)
def ops574:Array Oper:=opsOf (seq1 (seq2 (seq2 B57)))
theorem fine_a57:fineCode Tryd.prog true LT a57:=fineCode_ask callT extT (by kernel_rfl)
def sFr (a:Act):Frame:=(base 57).at a [.code L57,.inLoop L57,.inBlock 0]
def sOne (a:Act):Frame:=(base 57).at a [.inRegion ops572 [3],.code (seq2 B57),.inBlock 1,.inLoop L57,.inBlock 0]
def sOneB (a:Act):Frame:=(base 57).at (a.put (some 22) (.tuple #[])) [.inRegion ops572 [],.code (seq2 B57),.inBlock 1,.inLoop L57,.inBlock 0]
def sTwo (a:Act):Frame:=(base 57).at a [.inRegion ops574 [3],.code (seq2 (seq2 (seq2 B57))),.inBlock 1,.inLoop L57,.inBlock 0]
def sTwoB (a:Act):Frame:=(base 57).at (a.put (some 29) (.tuple #[])) [.inRegion ops574 [],.code (seq2 (seq2 (seq2 B57))),.inBlock 1,.inLoop L57,.inBlock 0]
theorem a57_wp (v:World) (c sb s tb:Nat) (hs1:s<=16) (h0:v.cell? ⟨c,0,none⟩=some (.slice (some ⟨sb,0,none⟩) s s)) (u:Nat->Value):
 a57.wp Tryd.prog (λe a w'=>e=.normal∧∃ nb fb,Fl 35 [(0,Pt c 0),(1,Pt tb 0),(5,.slice (some ⟨nb,0,none⟩) s s),(6,.slice (some ⟨fb,0,none⟩) s s)] a∧((nb=v.heap.size∧fb=v.heap.size+1)∨(nb=v.heap.size+1∧fb=v.heap.size))∧w'.heap=(v.heap.push (rowI (List.replicate s 0))).push (rowI (List.replicate s 0))∧w'.os=v.os∧w'.output=v.output) { tmps:=#[Pt c 0,Pt tb 0,u 2,u 3,u 4,u 5,u 6,u 7,u 8,u 9,u 10,u 11,u 12,u 13,u 14,u 15,u 16,u 17,u 18,u 19,u 20,u 21,u 22,u 23,u 24,u 25,u 26,u 27,u 28,u 29,u 30,u 31,u 32,u 33,u 34],defers:=[] } v:=by
 have hmk:=make_nums s (by omega);have hc:c<v.heap.size:=World.block_lt_of_cell? _ _ h0;rw[<-made_rowI];unfold a57 Tryd.f57 seq1 seq2;simp only[Qa];go_wp2_with fail
 go_region
 .exact ⟨rfl,_,_,⟨rfl,rfl,by
  intro p hp;simp only[Sm,or_false] at hp;rcases hp with rfl|rfl|rfl|rfl<;>rfl⟩,.inl ⟨rfl,rfl⟩,rfl,rfl,rfl⟩
 .exact ⟨rfl,_,_,⟨rfl,rfl,by
  intro p hp;simp only[Sm,or_false] at hp;rcases hp with rfl|rfl|rfl|rfl<;>rfl⟩,.inr ⟨rfl,rfl⟩,rfl,rfl,rfl⟩
theorem sum_in {Ch:Nat->Prop}{Stop:Goroutine->World->Prop}(hs1:s<=16) (h0:v.cell? ⟨c,0,none⟩=some (.slice (some ⟨sb,0,none⟩) s s)) (cs:List Frame) (hvw:Rel z v w) (hn:NoRow Ch v)
 (hk:∀ a v' w' nb fb,Fl 35 [(0,Pt c 0),(1,Pt tb 0),(5,.slice (some ⟨nb,0,none⟩) s s),(6,.slice (some ⟨fb,0,none⟩) s s)] a->((nb=v.heap.size∧fb=v.heap.size+1)∨(nb=v.heap.size+1∧fb=v.heap.size))->Rel z v' w'->NoRow Ch v'->v'.heap=(v.heap.push (rowI (List.replicate s 0))).push (rowI (List.replicate s 0))->v'.os=v.os->v'.output=v.output->GoesI Tryd.prog main (DT (ScZ z) Ch) Stop (G (sFr a) cs) w') (code:Code) (hc:Tryd.f57.body=some code):
 GoesI Tryd.prog main (DT (ScZ z) Ch) Stop (G ((base 57).at { tmps:=#[Pt c 0,Pt tb 0]++Array.replicate 33 undef,defers:=[] } [.code code]) cs) w:=by
 have hw0:code=.seq (seq1 (Tryd.f57.body.getD .skip)) (.seq a57 (.block 0 (.loop L57))):=by rw[show code=Tryd.f57.body.getD .skip by rw[hc];rfl];rfl
 subst hw0;clear hc;simp only[Sy];refine goesI_seq (dt_idle _ _) ?_;generalize hT:Code.seq a57 (.block 0 (.loop L57))=T;unfold Tryd.f57 seq1;simp only[Qa];refine goesI_region (dt_idle _ _) ?_;simp only[Sz,Sr,Nat.reduceAdd];iterate 1
  (refine goesI_oper rfl rfl (by decide) (λd K hK=>?_)
   go_simp;refine hK _ _ ⟨dt_reads (λe he=>?_),GoesI.at ?_ d⟩
   .have hm:=mem_listed he
    simp[go_sem, *] at hm
    try exact ⟨_,_,hm⟩
   clear hK K)
 refine goesI_regionEnd (dt_idle _ _) ?_;subst hT;refine goesI_seq (dt_idle _ _) ?_;refine goesI_plain (z:=z) (wr:=true) (L:=LT) (I:=NoRow Ch) hE fineT noRow_keeps (λv v' w w' es hi hr ho he=>dt_of_z v v' w w' es hi hr ho he) hvw fine_a57 rfl (by simp[base]) hn
  (Q:=λa w'=>∃ nb fb,Fl 35 [(0,Pt c 0),(1,Pt tb 0),(5,.slice (some ⟨nb,0,none⟩) s s),(6,.slice (some ⟨fb,0,none⟩) s s)] a∧((nb=v.heap.size∧fb=v.heap.size+1)∨(nb=v.heap.size+1∧fb=v.heap.size))∧w'.heap=(v.heap.push (rowI (List.replicate s 0))).push (rowI (List.replicate s 0))∧w'.os=v.os∧w'.output=v.output) (λτ=>a57_wp (onTape v τ 0) c sb s tb hs1 h0 (λm=>match m with|4=>I 0|m=>undef)) ?_
 rintro a' v' w' ⟨nb,fb,hA,hb,q1,q2,q3⟩ hr' hn' -;refine goesI_block (dt_idle _ _) ?_;refine goesI_loop (dt_idle _ _) ?_;exact hk a' v' w' nb fb hA hb hr' hn' q1 q2 q3
theorem sum_first {Ch:Nat->Prop}{Stop:Goroutine->World->Prop}{v:World}{sb:Nat}(hA:Fl 35 [(0,Pt c 0),(1,Pt tb 0),(5,.slice (some ⟨nb,0,none⟩) s s),(6,.slice (some ⟨fb,0,none⟩) s s)] a) (cs:List Frame)
 (hk:∀ a,Fl 35 [(0,Pt c 0),(1,Pt tb 0),(5,.slice (some ⟨nb,0,none⟩) s s),(6,.slice (some ⟨fb,0,none⟩) s s)] a->∀ code,Tryd.f88.body=some code->GoesI Tryd.prog main (DT (ScZ z) Ch) Stop (G ((base 88).at { tmps:=#[Pt c 0,Pt tb 0,.slice (some ⟨nb,0,none⟩) s s]++Array.replicate 22 undef,defers:=[] } [.code code]) (sOne a :: cs)) w):
 GoesI Tryd.prog main (DT (ScZ z) Ch) Stop (G (sFr a) cs) w:=by
 unfold sOne ops572 B57 L57 Tryd.f57 seq1 seq2 blockC loopC opsOf at hk;simp only[Qa] at hk;obtain ⟨hsz,hd,hpp⟩:=hA;obtain ⟨u,rfl,hg⟩:=litN hsz hd;have u0:=(hg 0).symm.trans (hpp (0,Pt c 0) (by simp));have u1:=(hg 1).symm.trans (hpp (1,Pt tb 0) (by simp));have u5:=(hg 5).symm.trans (hpp (5,.slice (some ⟨nb,0,none⟩) s s) (by simp));have u6:=(hg 6).symm.trans (hpp (6,.slice (some ⟨fb,0,none⟩) s s) (by simp));clear hg hpp hsz hd;unfold sFr L57 Tryd.f57 seq2 blockC loopC;simp only[Qa,lits,Nat.reduceAdd,u0,u1,u5,u6];clear u0 u1 u5 u6;refine goesI_block (dt_idle _ _) ?_;refine goesI_seq (dt_idle _ _) ?_;refine goesI_region (dt_idle _ _) ?_;simp only[Sz,Sr,Nat.reduceAdd];iterate 3
  (refine goesI_oper rfl rfl (by decide) (λd K hK=>?_)
   go_simp;refine hK _ _ ⟨dt_reads (λe he=>?_),GoesI.at ?_ d⟩
   .have hm:=mem_listed he
    simp[go_sem, *] at hm
    try exact ⟨_,_,hm⟩
   clear hK K)
 refine goesI_into (f:=88) (fn:=Tryd.f88) (args:=#[Pt c 0,Pt tb 0,.slice (some ⟨nb,0,none⟩) s s]) (dt_idle _ _) rfl rfl (by decide) rfl (by simp[Act.eval]) Tryd.func88 (by decide) rfl ?_;exact hk _ ⟨rfl,rfl,by
  intro p hp;simp only[Sm,or_false] at hp;rcases hp with rfl|rfl|rfl|rfl<;>rfl⟩ _ rfl
theorem gx_cell (g:Grows v v') {a:Addr}{x:Value}(h:v.cell? a=some x):v'.cell? a=some x:=by rw[World.cell?_of_block (w:=v) (w':=v') (g.old _ (World.block_lt_of_cell? _ _ h))];exact h
theorem gx_trans {v2:World}(a:Grows v v') (b:Grows v' v2):Grows v v2:=⟨Qk a.size b.size,λq hq=>by rw[b.old q (Qp hq a.size),a.old q hq],b.os.trans a.os,b.output.trans a.output⟩
theorem size3:(Tryd.prog.info? 3).map (·.size)=some 1:=by kernel_rfl
theorem run_copyI (v:World) (ty:TypeId) (nb fb s:Nat) (l m:List Int) (hl:l.length=s) (hm:m.length=s) (h1:v.heap[nb]? = some (rowI l)) (h2:v.heap[fb]? = some (rowI m)):
 (Builtin.copy_ #[22,22] ty #[.slice (some ⟨fb,0,none⟩) s s,.slice (some ⟨nb,0,none⟩) s s]).run Tryd.prog v=.ok (goInt s) (v.setRow fb (l.map I).toArray):=by
 have:=run_copy_row (P:=Tryd.prog) v 22 22 ty 3 fb 0 s s ⟨nb,0,none⟩ s s (m.map I).toArray 3 (l.map I) Tryd.underlying22 size3 h2 (by simp[hl]) (λj u hj=>by
  rw[List.getElem?_map] at hj;cases hx:l[j]? with
  |none=>rw[hx] at hj;cases hj
  |some x =>rw[hx] at hj;cases hj;have:=Ah h1 hx;rw[show (⟨nb,0,none⟩:Addr).add j=⟨nb,j,none⟩ by unfold Addr.add;split<;>simp_all];exact this) (by simp[hl,hm]) (λu hu=>by
  obtain ⟨x,_,rfl⟩:=List.mem_map.1 hu;rfl)
 rw[this];have hd:(m.map I).drop s=[]:=List.drop_eq_nil_iff.2 (by rw[List.length_map,hm];exact Qi _);simp[hl,hd]
theorem sum_mid {Ch:Nat->Prop}{Stop:Goroutine->World->Prop}{sb:Nat}(hA:Fl 35 [(0,Pt c 0),(1,Pt tb 0),(5,.slice (some ⟨nb,0,none⟩) s s),(6,.slice (some ⟨fb,0,none⟩) s s)] a) (l m:List Int) (hl:l.length=s) (hm:m.length=s) (h1:v.heap[nb]? = some (rowI l)) (h2:v.heap[fb]? = some (rowI m)) (cs:List Frame) (hvw:Rel z v w) (hn:NoRow Ch v)
 (hk:∀ a w',Fl 35 [(0,Pt c 0),(1,Pt tb 0),(5,.slice (some ⟨nb,0,none⟩) s s),(6,.slice (some ⟨fb,0,none⟩) s s)] a->Rel z (v.setRow fb (l.map I).toArray) w'->NoRow Ch (v.setRow fb (l.map I).toArray)->∀ code,Tryd.f88.body=some code->GoesI Tryd.prog main (DT (ScZ z) Ch) Stop (G ((base 88).at { tmps:=#[Pt c 0,Pt tb 0,.slice (some ⟨nb,0,none⟩) s s]++Array.replicate 22 undef,defers:=[] } [.code code]) (sTwo a :: cs)) w'):
 GoesI Tryd.prog main (DT (ScZ z) Ch) Stop (G (sOneB a) cs) w:=by
 have hcp:=run_copyI v 3 nb fb s l m hl hm h1 h2;unfold sTwo ops574 B57 L57 Tryd.f57 seq1 seq2 blockC loopC opsOf at hk;simp only[Qa] at hk;obtain ⟨hsz,hd,hpp⟩:=hA;obtain ⟨u,rfl,hg⟩:=litN hsz hd;have u0:=(hg 0).symm.trans (hpp (0,Pt c 0) (by simp));have u1:=(hg 1).symm.trans (hpp (1,Pt tb 0) (by simp));have u5:=(hg 5).symm.trans (hpp (5,.slice (some ⟨nb,0,none⟩) s s) (by simp));have u6:=(hg 6).symm.trans (hpp (6,.slice (some ⟨fb,0,none⟩) s s) (by simp));clear hg hpp hsz hd;unfold sOneB ops572 B57 L57 Tryd.f57 seq2 seq1 blockC loopC opsOf;simp only[Qa,lits,Nat.reduceAdd,u0,u1,u5,u6];clear u0 u1 u5 u6;walk_nrm
 refine goesI_regionEnd (dt_idle _ _) ?_;refine goesI_seq (dt_idle _ _) ?_;refine goesI_region (dt_idle _ _) ?_;simp only[Sz,Sr,Nat.reduceAdd];iterate 2
  (refine goesI_oper rfl rfl (by decide) (λd K hK=>?_)
   go_simp;refine hK _ _ ⟨dt_reads (λe he=>?_),GoesI.at ?_ d⟩
   .have hm:=mem_listed he
    simp[go_sem, *] at hm
    try exact ⟨_,_,hm⟩
   clear hK K)
 refine goesI_opZ (L:=LT) rfl rfl (by decide) (fineOp_ask callT extT (by kernel_rfl)) hvw hn (x:=goInt s) (v':=v.setRow fb (l.map I).toArray) (by simp[execOp,resolve,Act.eval,hcp,go_sem]) rfl (λw1 hvw1 hn1=>?_);walk_nrm
 refine goesI_regionEnd (dt_idle _ _) ?_;refine goesI_seq (dt_idle _ _) ?_;refine goesI_region (dt_idle _ _) ?_;simp only[Sz,Sr,Nat.reduceAdd];iterate 3
  (refine goesI_oper rfl rfl (by decide) (λd K hK=>?_)
   go_simp;refine hK _ _ ⟨dt_reads (λe he=>?_),GoesI.at ?_ d⟩
   .have hm:=mem_listed he
    simp[go_sem, *] at hm
    try exact ⟨_,_,hm⟩
   clear hK K)
 refine goesI_into (f:=88) (fn:=Tryd.f88) (args:=#[Pt c 0,Pt tb 0,.slice (some ⟨nb,0,none⟩) s s]) (dt_idle _ _) rfl rfl (by decide) rfl (by simp[Act.eval]) Tryd.func88 (by decide) rfl ?_;exact hk _ _ ⟨rfl,rfl,by
  intro p hp;simp only[Sm,or_false] at hp;rcases hp with rfl|rfl|rfl|rfl<;>rfl⟩ hvw1 hn1 _ rfl
def yes57:Code:=condA (seq2 (seq2 (seq2 (seq2 B57))))
theorem fine_yes57:fineCode Tryd.prog true LT yes57:=fineCode_ask callT extT (by kernel_rfl)
theorem sum_end {Ch:Nat->Prop}{Stop:Goroutine->World->Prop}{sb:Nat}(hA:Fl 35 [(0,Pt c 0),(1,Pt tb 0),(5,.slice (some ⟨nb,0,none⟩) s s),(6,.slice (some ⟨fb,0,none⟩) s s)] a) (l m:List Int) (hs1:s<=16) (hl:l.length=s) (hm:m.length=s) (hF:R1.Flds v) (h1:v.heap[nb]? = some (rowI l)) (h2:v.heap[fb]? = some (rowI m)) (cs:List Frame) (hoc:ops[q]? = some oc) (hvw:Rel z v w) (hn:NoRow Ch v)
 (hyes:m=l->∀ v' w',Rel z v' w'->NoRow Ch v'->Grows v v'->GoesI Tryd.prog main (DT (ScZ z) Ch) Stop (G (bc.at (ac.put oc.dst (I (R1.totI l))) (.inRegion ops rest :: k)) cs) w')
 (hno:m≠l->∀ a v' w',Fl 35 [(0,Pt c 0),(1,Pt tb 0),(5,.slice (some ⟨nb,0,none⟩) s s),(6,.slice (some ⟨fb,0,none⟩) s s)] a->Rel z v' w'->NoRow Ch v'->Grows v v'->GoesI Tryd.prog main (DT (ScZ z) Ch) Stop (G (sFr a) (bc.at ac (.inRegion ops (q :: rest):: k):: cs)) w'):
 GoesI Tryd.prog main (DT (ScZ z) Ch) Stop (G (sTwoB a) (bc.at ac (.inRegion ops (q :: rest) :: k) :: cs)) w:=by
 unfold sFr L57 Tryd.f57 seq2 blockC loopC at hno;simp only[Qa] at hno;obtain ⟨hsz,hd,hpp⟩:=hA;obtain ⟨u,rfl,hg⟩:=litN hsz hd;have u0:=(hg 0).symm.trans (hpp (0,Pt c 0) (by simp));have u1:=(hg 1).symm.trans (hpp (1,Pt tb 0) (by simp));have u5:=(hg 5).symm.trans (hpp (5,.slice (some ⟨nb,0,none⟩) s s) (by simp));have u6:=(hg 6).symm.trans (hpp (6,.slice (some ⟨fb,0,none⟩) s s) (by simp));clear hg hpp hsz hd;unfold sTwoB ops574 B57 L57 Tryd.f57 seq2 seq1 blockC loopC opsOf;simp only[Qa,lits,Nat.reduceAdd,u0,u1,u5,u6];clear u0 u1 u5 u6;walk_nrm
 refine goesI_regionEnd (dt_idle _ _) ?_;refine goesI_seq (dt_idle _ _) ?_;refine goesI_region (dt_idle _ _) ?_;simp only[Sz,Sr,Nat.reduceAdd];iterate 2
  (refine goesI_oper rfl rfl (by decide) (λd K hK=>?_)
   go_simp;refine hK _ _ ⟨dt_reads (λe he=>?_),GoesI.at ?_ d⟩
   .have hm:=mem_listed he
    simp[go_sem, *] at hm
    try exact ⟨_,_,hm⟩
   clear hK K)
 refine goesI_call (f:=89) (fn:=Tryd.f89) (args:=#[.slice (some ⟨fb,0,none⟩) s s,.slice (some ⟨nb,0,none⟩) s s]) hE fineT rfl rfl (by decide) rfl (by simp[Act.eval]) Tryd.func89 (by kernel_rfl) rfl (fineFn_body fineT (by simp[LT,plainFs]) Tryd.func89 rfl) (λtmps=>⟨_,λw=>results_tmp rfl _ _ _,λw=>by simp[results,go_sem,Tryd.f89]⟩) hvw hn
  (R:=λr v4=>r=.bool (decide (m=l))∧Grows v v4) (λτ=>?_) (λr v4 w4 hR hvw4 hn4=>?_)
 .have:=R1.equal_any m l fb nb s s (onTape v τ 0) (by omega) (by omega) (λk x hk=>Ah (v:=onTape v τ 0) h2 hk) (λk x hk=>Ah (v:=onTape v τ 0) h1 hk) _ rfl
  rw[hl,hm] at this;exact wp_mono this (bp_mono λr u hq=>⟨hq.1,⟨(blw_grows hq.2).size,(blw_grows hq.2).old,hq.2.os,hq.2.output⟩⟩)
 obtain ⟨rfl,hg4⟩:=hR;walk_nrm
 refine goesI_regionEnd (dt_idle _ _) ?_;by_cases hml:m=l
 .subst hml
  refine goesI_cond (dt_idle _ _) (t:=true) (by simp[Act.eval]) ?_;simp only[if_true,if_false,Qh];refine goesI_outZ (c:=yes57) (f:=57) (fn:=Tryd.f57) (L:=LT) hE fineT hvw4 hn4 Tryd.func57 fine_yes57 rfl hoc (R:=λr w'=>r=I (R1.totI m)∧Grows v4 w') (λτ=>?_) (λr v' w' hR hr' hn'=>?_)
  .have HT:Hid (Body Tryd.f90 #[.slice (some ⟨nb,0,none⟩) m.length s] (onTape v4 τ 0) _):=⟨R1.total_any m nb s (onTape v4 τ 0) (by omega) (hF.of λa x ha=>by
    have:=gx_cell hg4 ha;exact this) (λk x hk=>by
    have:=gx_cell hg4 (Ah h1 hk);exact this)⟩
   rw[hm] at HT;show Code.wp Tryd.prog (condA (seq2 (seq2 (seq2 (seq2 (blockC (loopC (blockC (seq2 (seq2 (Tryd.f57.body.getD .skip)))))))))) ) _ _ _;unfold Tryd.f57 condA seq2 blockC loopC;simp only[Qa]
   go_wp2_with (first
    |(go_at_call 90;refine (HT.out.calls Tryd.func90 rfl).mono ?_;rintro e w1 ⟨_,rfl,rfl,hb⟩))
   exact ⟨_,results_tmp rfl _ _ _,rfl,⟨hb.size,λb hbb=>hb.block b hbb,hb.os,hb.output⟩⟩
  .obtain ⟨rfl,hg5⟩:=hR
   exact hyes rfl v' w' hr' hn' (gx_trans hg4 hg5)
 .refine goesI_cond (dt_idle _ _) (t:=false) (by simp[Act.eval,hml]) ?_
  simp only[if_true,if_false,Qh];refine goesI_skip (dt_idle _ _) ?_;refine goesI_inBlock (dt_idle _ _) ?_;refine goesI_inLoop (dt_idle _ _) ?_;exact hno hml _ _ _ ⟨rfl,rfl,by
   intro p hp;simp only[Sm,or_false] at hp;rcases hp with rfl|rfl|rfl|rfl<;>rfl⟩ hvw4 hn4 hg4
def CBack {α:Type}(main:Bool) (pb:Nat) (enc:α->Value) (f:α->Int×Int) (cu:Value->Goroutine) (cl:Value->Goroutine):Prop :=
 ∀ (z:Nat->Option Nat) (Ch:Nat->Prop) (Stop:Goroutine->World->Prop) (w v:World) (S:TS) (K:List (Nat×Int)) (x:α),Rel z v w->NoRow Ch v->Mem z S K v->v.heap[pb]? = some (.cells #[I 0,I 0] 38 (0,0))->¬ Own S K pb ->
   (∀ v' w',Rel z v' w'->NoRow Ch v'->EvoP (· = pb) z S K v S K v'->GoesI Tryd.prog main (DT (ScZ z) Ch) Stop (cl (.agg #[I (f x).1,I (f x).2])) w') ->
   GoesI Tryd.prog main (DT (ScZ z) Ch) Stop (cu (enc x)) w
def c860:Code:=seq1 (Tryd.f86.body.getD .skip)
theorem fine_c860:fineCode Tryd.prog true LT c860:=fineCode_ask callT extT (by kernel_rfl)
theorem call_add {Ch:Nat->Prop}{Stop:Goroutine->World->Prop}(ca cb cc:Int) (cs:List Frame) (hoc:ops[q]? = some oc)
 (hvw:Rel z v w) (hn:NoRow Ch v)
 (hstop:∀ v' w' (bd:Frame) (ad:Act) (od:Array Oper) (qd:Nat) (rd:List Nat) (oe:Oper) (kd:List Item),Rel z v' w'->NoRow Ch v'->Grows v v'->v'.heap[v.heap.size+1]? = some (.cells #[I 0,I 0] 38 (0,0))->od[qd]? = some oe ->
   CBack main (v.heap.size+1) (λ_:Unit=>.tuple #[]) (λ_=>(0,0)) (λr=>G (bd.at (ad.put oe.dst r) (.inRegion od rd :: kd)) (bc.at ac (.inRegion ops (q :: rest) :: k) :: cs)) (λr=>G (bc.at (ac.put oc.dst r) (.inRegion ops rest :: k)) cs)->∀ code,Tryd.f55.body=some code ->
   GoesI Tryd.prog main (DT (ScZ z) Ch) Stop (G ((base 55).at { tmps:=#[Pt c 0,Pt tb 0,I (ca.tmod 1000)]++Array.replicate 29 undef,defers:=[] } [.code code]) (bd.at ad (.inRegion od (qd :: rd):: kd):: bc.at ac (.inRegion ops (q :: rest):: k):: cs)) w') (code:Code) (hc:Tryd.f86.body=some code):
 GoesI Tryd.prog main (DT (ScZ z) Ch) Stop (G ((base 86).at { tmps:=#[Pt c 0,Pt tb 0,.agg #[I 1,I ca,I cb,I cc]]++Array.replicate 22 undef,defers:=[] } [.code code]) (bc.at ac (.inRegion ops (q :: rest) :: k) :: cs)) w:=by
 have hw0:code=.seq c860 (seq2 (Tryd.f86.body.getD .skip)):=by rw[show code=Tryd.f86.body.getD .skip by rw[hc];rfl];rfl
 subst hw0;clear hc;refine goesI_seq (dt_idle _ _) ?_;refine goesI_plain (z:=z) (wr:=true) (L:=LT) (I:=NoRow Ch) hE fineT noRow_keeps (λv v' w w' es hi hr ho he=>dt_of_z v v' w w' es hi hr ho he) hvw fine_c860 rfl (by simp[base]) hn
  (Q:=λa w'=>a={ tmps:=#[Pt c 0,Pt tb 0,.agg #[I 1,I ca,I cb,I cc],undef,undef,Pt v.heap.size 0,Pt (v.heap.size+1) 0]++Array.replicate 18 undef,defers:=[] } ∧
    w'.heap=(v.heap.push (.cells #[I 1,I ca,I cb,I cc] 35)).push (.cells #[I 0,I 0] 38)∧w'.os=v.os∧w'.output=v.output) (λτ=>?_) ?_
 .show Code.wp Tryd.prog (seq1 (Tryd.f86.body.getD .skip)) _ _ _
  unfold Tryd.f86 seq1;simp only[Qa,Sy];go_wp2_with fail;exact ⟨rfl,rfl,rfl,rfl⟩
 rintro a' v' w' ⟨rfl,hv1,hv2,hv3⟩ hr' hn' -;have hsz:v'.heap.size=v.heap.size+2:=by rw[hv1];simp
 have hg:Grows v v':=⟨by omega,λb hb=>by rw[hv1,Qg,if_neg (by simp;omega),Qg,if_neg (by omega)],hv2,hv3⟩
 have hbox:v'.heap[v.heap.size]? = some (.cells #[I 1,I ca,I cb,I cc] 35):=by rw[hv1,Qg,if_neg (by simp)];exact Qo
 have hans:v'.heap[v.heap.size+1]? = some (.cells #[I 0,I 0] 38):=by rw[hv1,Qg,if_pos (by simp)]
 have b0:w'.cell? ⟨v.heap.size,0,none⟩=some (I 1):=by rw[hr'.cell?];simp[World.cell?,hbox]
 have b1:w'.cell? ⟨v.heap.size,1,none⟩=some (I ca):=by rw[hr'.cell?];simp[World.cell?,hbox]
 have HV:Hid (Grows v v'∧v'.heap[v.heap.size+1]? = some (.cells #[I 0,I 0] 38)∧NoRow Ch v'∧Rel z v' w'):=⟨⟨hg,hans,hn',hr'⟩⟩
 clear hv1 hv2 hv3 hsz hg hbox hans hn' hvw hn hr';generalize hN:v.heap.size=N at b0 b1 HV hstop ⊢;simp only[Sy];show GoesI Tryd.prog main (DT (ScZ z) Ch) Stop (G ((base 86).at _ [.code (seq2 (Tryd.f86.body.getD .skip))]) _) w';unfold Tryd.f86 seq2;simp only[Qa];refine goesI_seq (dt_idle _ _) ?_;refine goesI_seq (dt_idle _ _) ?_;refine goesI_region (dt_idle _ _) ?_;simp only[Sz,Sr,Nat.reduceAdd];iterate 2
  (refine goesI_oper rfl rfl (by decide) (λd K hK=>?_)
   go_simp;refine hK _ _ ⟨dt_reads (λe he=>?_),GoesI.at ?_ d⟩
   .have hm:=mem_listed he
    simp[go_sem, *] at hm
    try exact ⟨_,_,hm⟩
   clear hK K)
 refine goesI_regionEnd (dt_idle _ _) ?_;refine goesI_block (dt_idle _ _) ?_;refine goesI_seq (dt_idle _ _) ?_;refine goesI_region (dt_idle _ _) ?_;simp only[Sz,Sr,Nat.reduceAdd];iterate 2
  (refine goesI_oper rfl rfl (by decide) (λd K hK=>?_)
   go_simp;refine hK _ _ ⟨dt_reads (λe he=>?_),GoesI.at ?_ d⟩
   .have hm:=mem_listed he
    simp[go_sem, *] at hm
    try exact ⟨_,_,hm⟩
   clear hK K)
 refine goesI_regionEnd (dt_idle _ _) ?_;refine goesI_cond (dt_idle _ _) (t:=true) (by simp[Act.eval]) ?_;simp only[if_true,if_false,Qh];refine goesI_seq (dt_idle _ _) ?_;refine goesI_region (dt_idle _ _) ?_;simp only[Sz,Sr,Nat.reduceAdd];iterate 5
  (refine goesI_oper rfl rfl (by decide) (λd K hK=>?_)
   go_simp;refine hK _ _ ⟨dt_reads (λe he=>?_),GoesI.at ?_ d⟩
   .have hm:=mem_listed he
    simp[go_sem, *] at hm
    try exact ⟨_,_,hm⟩
   clear hK K)
 refine goesI_into (f:=55) (fn:=Tryd.f55) (args:=#[Pt c 0,Pt tb 0,I (ca.tmod 1000)]) (dt_idle _ _) rfl rfl (by decide) rfl (by simp[Act.eval]) Tryd.func55 (by decide) rfl ?_;refine hstop v' w' _ _ _ _ _ _ _ HV.out.2.2.2 HV.out.2.2.1 HV.out.1 HV.out.2.1 rfl ?_ _ rfl;clear b0 b1 HV hstop;intro z1 Ch1 St w2 v2 S1 K1 x r2 n2 m2 hpb2 hown2 hk;have q0:v2.cell? ⟨N+1,0,none⟩=some (I 0):=by simp[World.cell?,hpb2]
 have q1:v2.cell? ⟨N+1,1,none⟩=some (I 0):=by simp[World.cell?,hpb2]
 have p0:v2.frozen? ⟨N+1,0,none⟩=false:=by simp[World.frozen?,hpb2]
 have p1:v2.frozen? ⟨N+1,1,none⟩=false:=by simp[World.frozen?,hpb2]
 have e3:=m2.other (v':=(v2.setCell ⟨N+1,0,none⟩ (I 0)).setCell ⟨N+1,1,none⟩ (I 0)) hown2 (λb hb=>by rw[Below.heap_setCell _ _ _ _ hb,Below.heap_setCell _ _ _ _ hb]) (by simp[World.setCell]) rfl rfl;have hrow:((v2.setCell ⟨N+1,0,none⟩ (I 0)).setCell ⟨N+1,1,none⟩ (I 0)).heap[N+1]? = some (.cells #[I 0,I 0] 38 (0,0)):=by have:=heap_setCell_same (o:=1) (heap_setCell_same (o:=0) hpb2 (I 0)) (I 0);simpa using this
 have HM:Hid (Mem z1 S1 K1 v2∧v2.heap[N+1]? = some (.cells #[I 0,I 0] 38 (0,0))):=⟨⟨m2,hpb2⟩⟩
 clear m2 hpb2;show GoesI Tryd.prog main (DT (ScZ z1) Ch1) St _ w2;walk_nrm
 refine goesI_regionEnd (dt_idle _ _) ?_;refine goesI_seq (dt_idle _ _) ?_;refine goesI_region (dt_idle _ _) ?_;simp only[Sz,Sr,Nat.reduceAdd];iterate 1
  (refine goesI_oper rfl rfl (by decide) (λd K hK=>?_)
   go_simp;refine hK _ _ ⟨dt_reads (λe he=>?_),GoesI.at ?_ d⟩
   .have hm:=mem_listed he
    simp[go_sem, *] at hm
    try exact ⟨_,_,hm⟩
   clear hK K)
 refine goesI_doZ (L:=LT) rfl rfl (by decide) (fineOp_ask callT extT (by kernel_rfl)) r2 n2 (v':=(v2.setCell ⟨N+1,0,none⟩ (I 0)).setCell ⟨N+1,1,none⟩ (I 0)) (by go_simp) rfl (λw3 r3 n3=>?_);refine goesI_regionEnd (dt_idle _ _) ?_;refine GoesI.ctl rfl (λ_=>stepG_ret') (dt_idle _ _) ?_;refine goesI_leaveZ (f:=86) (fn:=Tryd.f86) (x:=.agg #[I 0,I 0]) r3 n3 Tryd.func86 rfl hoc ?_ (λw' r'=>hk _ w' r' n3 e3);generalize ((v2.setCell ⟨N+1,0,none⟩ (I 0)).setCell ⟨N+1,1,none⟩ (I 0))=V at hrow;have k0:V.cell? ⟨N+1,0,none⟩=some (I 0):=by simp[World.cell?,hrow]
 have k1:V.cell? ⟨N+1,1,none⟩=some (I 0):=by simp[World.cell?,hrow]
 simp[results,go_sem,Tryd.f86, *]
theorem call_sum {Ch:Nat->Prop}{Stop:Goroutine->World->Prop}(ca cb cc:Int) (cs:List Frame) (hoc:ops[q]? = some oc)
 (hvw:Rel z v w) (hn:NoRow Ch v)
 (hstop:∀ v' w' (bd:Frame) (ad:Act) (od:Array Oper) (qd:Nat) (rd:List Nat) (oe:Oper) (kd:List Item),Rel z v' w'->NoRow Ch v'->Grows v v'->v'.heap[v.heap.size+1]? = some (.cells #[I 0,I 0] 38 (0,0))->od[qd]? = some oe ->
   CBack main (v.heap.size+1) (λx:Int=>I x) (λx=>(0,x)) (λr=>G (bd.at (ad.put oe.dst r) (.inRegion od rd :: kd)) (bc.at ac (.inRegion ops (q :: rest) :: k) :: cs)) (λr=>G (bc.at (ac.put oc.dst r) (.inRegion ops rest :: k)) cs)->∀ code,Tryd.f57.body=some code ->
   GoesI Tryd.prog main (DT (ScZ z) Ch) Stop (G ((base 57).at { tmps:=#[Pt c 0,Pt tb 0]++Array.replicate 33 undef,defers:=[] } [.code code]) (bd.at ad (.inRegion od (qd :: rd):: kd):: bc.at ac (.inRegion ops (q :: rest):: k):: cs)) w') (code:Code) (hc:Tryd.f86.body=some code):
 GoesI Tryd.prog main (DT (ScZ z) Ch) Stop (G ((base 86).at { tmps:=#[Pt c 0,Pt tb 0,.agg #[I 2,I ca,I cb,I cc]]++Array.replicate 22 undef,defers:=[] } [.code code]) (bc.at ac (.inRegion ops (q :: rest) :: k) :: cs)) w:=by
 have hw0:code=.seq c860 (seq2 (Tryd.f86.body.getD .skip)):=by rw[show code=Tryd.f86.body.getD .skip by rw[hc];rfl];rfl
 subst hw0;clear hc;refine goesI_seq (dt_idle _ _) ?_;refine goesI_plain (z:=z) (wr:=true) (L:=LT) (I:=NoRow Ch) hE fineT noRow_keeps (λv v' w w' es hi hr ho he=>dt_of_z v v' w w' es hi hr ho he) hvw fine_c860 rfl (by simp[base]) hn
  (Q:=λa w'=>a={ tmps:=#[Pt c 0,Pt tb 0,.agg #[I 2,I ca,I cb,I cc],undef,undef,Pt v.heap.size 0,Pt (v.heap.size+1) 0]++Array.replicate 18 undef,defers:=[] } ∧
    w'.heap=(v.heap.push (.cells #[I 2,I ca,I cb,I cc] 35)).push (.cells #[I 0,I 0] 38)∧w'.os=v.os∧w'.output=v.output) (λτ=>?_) ?_
 .show Code.wp Tryd.prog (seq1 (Tryd.f86.body.getD .skip)) _ _ _
  unfold Tryd.f86 seq1;simp only[Qa,Sy];go_wp2_with fail;exact ⟨rfl,rfl,rfl,rfl⟩
 rintro a' v' w' ⟨rfl,hv1,hv2,hv3⟩ hr' hn' -;have hsz:v'.heap.size=v.heap.size+2:=by rw[hv1];simp
 have hg:Grows v v':=⟨by omega,λb hb=>by rw[hv1,Qg,if_neg (by simp;omega),Qg,if_neg (by omega)],hv2,hv3⟩
 have hbox:v'.heap[v.heap.size]? = some (.cells #[I 2,I ca,I cb,I cc] 35):=by rw[hv1,Qg,if_neg (by simp)];exact Qo
 have hans:v'.heap[v.heap.size+1]? = some (.cells #[I 0,I 0] 38):=by rw[hv1,Qg,if_pos (by simp)]
 have b0:w'.cell? ⟨v.heap.size,0,none⟩=some (I 2):=by rw[hr'.cell?];simp[World.cell?,hbox]
 have b1:w'.cell? ⟨v.heap.size,1,none⟩=some (I ca):=by rw[hr'.cell?];simp[World.cell?,hbox]
 have HV:Hid (Grows v v'∧v'.heap[v.heap.size+1]? = some (.cells #[I 0,I 0] 38)∧NoRow Ch v'∧Rel z v' w'):=⟨⟨hg,hans,hn',hr'⟩⟩
 clear hv1 hv2 hv3 hsz hg hbox hans hn' hvw hn hr';generalize hN:v.heap.size=N at b0 b1 HV hstop ⊢;simp only[Sy];show GoesI Tryd.prog main (DT (ScZ z) Ch) Stop (G ((base 86).at _ [.code (seq2 (Tryd.f86.body.getD .skip))]) _) w';unfold Tryd.f86 seq2;simp only[Qa];refine goesI_seq (dt_idle _ _) ?_;refine goesI_seq (dt_idle _ _) ?_;refine goesI_region (dt_idle _ _) ?_;simp only[Sz,Sr,Nat.reduceAdd];iterate 2
  (refine goesI_oper rfl rfl (by decide) (λd K hK=>?_)
   go_simp;refine hK _ _ ⟨dt_reads (λe he=>?_),GoesI.at ?_ d⟩
   .have hm:=mem_listed he
    simp[go_sem, *] at hm
    try exact ⟨_,_,hm⟩
   clear hK K)
 refine goesI_regionEnd (dt_idle _ _) ?_;refine goesI_block (dt_idle _ _) ?_;refine goesI_seq (dt_idle _ _) ?_;refine goesI_region (dt_idle _ _) ?_;simp only[Sz,Sr,Nat.reduceAdd];iterate 2
  (refine goesI_oper rfl rfl (by decide) (λd K hK=>?_)
   go_simp;refine hK _ _ ⟨dt_reads (λe he=>?_),GoesI.at ?_ d⟩
   .have hm:=mem_listed he
    simp[go_sem, *] at hm
    try exact ⟨_,_,hm⟩
   clear hK K)
 refine goesI_regionEnd (dt_idle _ _) ?_;refine goesI_cond (dt_idle _ _) (t:=false) (by simp[Act.eval]) ?_;simp only[if_true,if_false,Qh];refine goesI_seq (dt_idle _ _) ?_;refine goesI_region (dt_idle _ _) ?_;simp only[Sz,Sr,Nat.reduceAdd];iterate 2
  (refine goesI_oper rfl rfl (by decide) (λd K hK=>?_)
   go_simp;refine hK _ _ ⟨dt_reads (λe he=>?_),GoesI.at ?_ d⟩
   .have hm:=mem_listed he
    simp[go_sem, *] at hm
    try exact ⟨_,_,hm⟩
   clear hK K)
 refine goesI_regionEnd (dt_idle _ _) ?_;refine goesI_cond (dt_idle _ _) (t:=true) (by simp[Act.eval]) ?_;simp only[if_true,if_false,Qh];refine goesI_seq (dt_idle _ _) ?_;refine goesI_region (dt_idle _ _) ?_;simp only[Sz,Sr,Nat.reduceAdd];iterate 2
  (refine goesI_oper rfl rfl (by decide) (λd K hK=>?_)
   go_simp;refine hK _ _ ⟨dt_reads (λe he=>?_),GoesI.at ?_ d⟩
   .have hm:=mem_listed he
    simp[go_sem, *] at hm
    try exact ⟨_,_,hm⟩
   clear hK K)
 refine goesI_into (f:=57) (fn:=Tryd.f57) (args:=#[Pt c 0,Pt tb 0]) (dt_idle _ _) rfl rfl (by decide) rfl (by simp[Act.eval]) Tryd.func57 (by decide) rfl ?_;refine hstop v' w' _ _ _ _ _ _ _ HV.out.2.2.2 HV.out.2.2.1 HV.out.1 HV.out.2.1 rfl ?_ _ rfl;clear b0 b1 HV hstop;intro z1 Ch1 St w2 v2 S1 K1 x r2 n2 m2 hpb2 hown2 hk;have q0:v2.cell? ⟨N+1,0,none⟩=some (I 0):=by simp[World.cell?,hpb2]
 have q1:v2.cell? ⟨N+1,1,none⟩=some (I 0):=by simp[World.cell?,hpb2]
 have p0:v2.frozen? ⟨N+1,0,none⟩=false:=by simp[World.frozen?,hpb2]
 have p1:v2.frozen? ⟨N+1,1,none⟩=false:=by simp[World.frozen?,hpb2]
 have e3:=m2.other (v':=(v2.setCell ⟨N+1,0,none⟩ (I 0)).setCell ⟨N+1,1,none⟩ (I x)) hown2 (λb hb=>by rw[Below.heap_setCell _ _ _ _ hb,Below.heap_setCell _ _ _ _ hb]) (by simp[World.setCell]) rfl rfl;have hrow:((v2.setCell ⟨N+1,0,none⟩ (I 0)).setCell ⟨N+1,1,none⟩ (I x)).heap[N+1]? = some (.cells #[I 0,I x] 38 (0,0)):=by have:=heap_setCell_same (o:=1) (heap_setCell_same (o:=0) hpb2 (I 0)) (I x);simpa using this
 have HM:Hid (Mem z1 S1 K1 v2∧v2.heap[N+1]? = some (.cells #[I 0,I 0] 38 (0,0))):=⟨⟨m2,hpb2⟩⟩
 clear m2 hpb2;show GoesI Tryd.prog main (DT (ScZ z1) Ch1) St _ w2;walk_nrm
 iterate 1
  (refine goesI_oper rfl rfl (by decide) (λd K hK=>?_)
   go_simp;refine hK _ _ ⟨dt_reads (λe he=>?_),GoesI.at ?_ d⟩
   .have hm:=mem_listed he
    simp[go_sem, *] at hm
    try exact ⟨_,_,hm⟩
   clear hK K)
 refine goesI_doZ (L:=LT) rfl rfl (by decide) (fineOp_ask callT extT (by kernel_rfl)) r2 n2 (v':=(v2.setCell ⟨N+1,0,none⟩ (I 0)).setCell ⟨N+1,1,none⟩ (I x)) (by go_simp) rfl (λw3 r3 n3=>?_);refine goesI_regionEnd (dt_idle _ _) ?_;refine GoesI.ctl rfl (λ_=>stepG_ret') (dt_idle _ _) ?_;refine goesI_leaveZ (f:=86) (fn:=Tryd.f86) (x:=.agg #[I 0,I x]) r3 n3 Tryd.func86 rfl hoc ?_ (λw' r'=>hk _ w' r' n3 e3);generalize ((v2.setCell ⟨N+1,0,none⟩ (I 0)).setCell ⟨N+1,1,none⟩ (I x))=V at hrow;have k0:V.cell? ⟨N+1,0,none⟩=some (I 0):=by simp[World.cell?,hrow]
 have k1:V.cell? ⟨N+1,1,none⟩=some (I x):=by simp[World.cell?,hrow]
 simp[results,go_sem,Tryd.f86, *]
theorem call_none {Ch:Nat->Prop}{Stop:Goroutine->World->Prop}(ca cb cc:Int) (cs:List Frame) (hoc:ops[q]? = some oc)
 (hvw:Rel z v w) (hn:NoRow Ch v) (po:Int) (h1:po≠1) (h2:po≠2)
 (hstop:∀ v' w',Rel z v' w'->NoRow Ch v'->Grows v v'->v'.heap[v.heap.size+1]? = some (.cells #[I 1,I 0] 38 (0,0))->GoesI Tryd.prog main (DT (ScZ z) Ch) Stop (G (bc.at (ac.put oc.dst (.agg #[I 1,I 0])) (.inRegion ops rest :: k)) cs) w') (code:Code) (hc:Tryd.f86.body=some code):
 GoesI Tryd.prog main (DT (ScZ z) Ch) Stop (G ((base 86).at { tmps:=#[Pt c 0,Pt tb 0,.agg #[I po,I ca,I cb,I cc]]++Array.replicate 22 undef,defers:=[] } [.code code]) (bc.at ac (.inRegion ops (q :: rest) :: k) :: cs)) w:=by
 have hw0:code=.seq c860 (seq2 (Tryd.f86.body.getD .skip)):=by rw[show code=Tryd.f86.body.getD .skip by rw[hc];rfl];rfl
 subst hw0;clear hc;refine goesI_seq (dt_idle _ _) ?_;refine goesI_plain (z:=z) (wr:=true) (L:=LT) (I:=NoRow Ch) hE fineT noRow_keeps (λv v' w w' es hi hr ho he=>dt_of_z v v' w w' es hi hr ho he) hvw fine_c860 rfl (by simp[base]) hn
  (Q:=λa w'=>a={ tmps:=#[Pt c 0,Pt tb 0,.agg #[I po,I ca,I cb,I cc],undef,undef,Pt v.heap.size 0,Pt (v.heap.size+1) 0]++Array.replicate 18 undef,defers:=[] } ∧
    w'.heap=(v.heap.push (.cells #[I po,I ca,I cb,I cc] 35)).push (.cells #[I 0,I 0] 38)∧w'.os=v.os∧w'.output=v.output) (λτ=>?_) ?_
 .show Code.wp Tryd.prog (seq1 (Tryd.f86.body.getD .skip)) _ _ _
  unfold Tryd.f86 seq1;simp only[Qa,Sy];go_wp2_with fail;exact ⟨rfl,rfl,rfl,rfl⟩
 rintro a' v' w' ⟨rfl,hv1,hv2,hv3⟩ hr' hn' -;have hsz:v'.heap.size=v.heap.size+2:=by rw[hv1];simp
 have hg:Grows v v':=⟨by omega,λb hb=>by rw[hv1,Qg,if_neg (by simp;omega),Qg,if_neg (by omega)],hv2,hv3⟩
 have hbox:v'.heap[v.heap.size]? = some (.cells #[I po,I ca,I cb,I cc] 35):=by rw[hv1,Qg,if_neg (by simp)];exact Qo
 have hans:v'.heap[v.heap.size+1]? = some (.cells #[I 0,I 0] 38):=by rw[hv1,Qg,if_pos (by simp)]
 have b0:w'.cell? ⟨v.heap.size,0,none⟩=some (I po):=by rw[hr'.cell?];simp[World.cell?,hbox]
 have b1:w'.cell? ⟨v.heap.size,1,none⟩=some (I ca):=by rw[hr'.cell?];simp[World.cell?,hbox]
 have HV:Hid (Grows v v'∧v'.heap[v.heap.size+1]? = some (.cells #[I 0,I 0] 38)∧NoRow Ch v'∧Rel z v' w'):=⟨⟨hg,hans,hn',hr'⟩⟩
 clear hv1 hv2 hv3 hsz hg hbox hans hn' hvw hn hr';generalize hN:v.heap.size=N at b0 b1 HV hstop ⊢;simp only[Sy];show GoesI Tryd.prog main (DT (ScZ z) Ch) Stop (G ((base 86).at _ [.code (seq2 (Tryd.f86.body.getD .skip))]) _) w';unfold Tryd.f86 seq2;simp only[Qa];refine goesI_seq (dt_idle _ _) ?_;refine goesI_seq (dt_idle _ _) ?_;refine goesI_region (dt_idle _ _) ?_;simp only[Sz,Sr,Nat.reduceAdd];iterate 2
  (refine goesI_oper rfl rfl (by decide) (λd K hK=>?_)
   go_simp;refine hK _ _ ⟨dt_reads (λe he=>?_),GoesI.at ?_ d⟩
   .have hm:=mem_listed he
    simp[go_sem, *] at hm
    try exact ⟨_,_,hm⟩
   clear hK K)
 refine goesI_regionEnd (dt_idle _ _) ?_;refine goesI_block (dt_idle _ _) ?_;refine goesI_seq (dt_idle _ _) ?_;refine goesI_region (dt_idle _ _) ?_;simp only[Sz,Sr,Nat.reduceAdd];iterate 2
  (refine goesI_oper rfl rfl (by decide) (λd K hK=>?_)
   go_simp;refine hK _ _ ⟨dt_reads (λe he=>?_),GoesI.at ?_ d⟩
   .have hm:=mem_listed he
    simp[go_sem, *] at hm
    try exact ⟨_,_,hm⟩
   clear hK K)
 refine goesI_regionEnd (dt_idle _ _) ?_;refine goesI_cond (dt_idle _ _) (t:=false) (by simp[Act.eval,h1]) ?_;simp only[if_true,if_false,Qh];refine goesI_seq (dt_idle _ _) ?_;refine goesI_region (dt_idle _ _) ?_;simp only[Sz,Sr,Nat.reduceAdd];iterate 2
  (refine goesI_oper rfl rfl (by decide) (λd K hK=>?_)
   go_simp;refine hK _ _ ⟨dt_reads (λe he=>?_),GoesI.at ?_ d⟩
   .have hm:=mem_listed he
    simp[go_sem, *] at hm
    try exact ⟨_,_,hm⟩
   clear hK K)
 refine goesI_regionEnd (dt_idle _ _) ?_;refine goesI_cond (dt_idle _ _) (t:=false) (by simp[Act.eval,h2]) ?_;simp only[if_true,if_false,Qh];refine goesI_skip (dt_idle _ _) ?_;refine goesI_inBlock (dt_idle _ _) ?_;refine goesI_seq (dt_idle _ _) ?_;refine goesI_region (dt_idle _ _) ?_;simp only[Sz,Sr,Nat.reduceAdd];obtain ⟨hg,hans,hn',hr'⟩:=HV.out;have q0:v'.cell? ⟨N+1,0,none⟩=some (I 0):=by simp[World.cell?,hans]
 have q1:v'.cell? ⟨N+1,1,none⟩=some (I 0):=by simp[World.cell?,hans]
 have p0:v'.frozen? ⟨N+1,0,none⟩=false:=by simp[World.frozen?,hans]
 have p1:v'.frozen? ⟨N+1,1,none⟩=false:=by simp[World.frozen?,hans]
 have hrow:((v'.setCell ⟨N+1,0,none⟩ (I 1)).setCell ⟨N+1,1,none⟩ (I 0)).heap[N+1]? = some (.cells #[I 1,I 0] 38 (0,0)):=by have:=heap_setCell_same (o:=1) (heap_setCell_same (o:=0) hans (I 1)) (I 0);simpa using this
 have hg2:Grows v ((v'.setCell ⟨N+1,0,none⟩ (I 1)).setCell ⟨N+1,1,none⟩ (I 0)):=by
  refine ⟨by simp[World.setCell];exact hg.size,λb hb=>?_,hg.os,hg.output⟩;have hbN:b≠N+1:=by omega
  rw[Below.heap_setCell _ _ _ _ hbN,Below.heap_setCell _ _ _ _ hbN];exact hg.old b hb
 clear hg hans b0 b1 HV;iterate 1
  (refine goesI_oper rfl rfl (by decide) (λd K hK=>?_)
   go_simp;refine hK _ _ ⟨dt_reads (λe he=>?_),GoesI.at ?_ d⟩
   .have hm:=mem_listed he
    simp[go_sem, *] at hm
    try exact ⟨_,_,hm⟩
   clear hK K)
 refine goesI_doZ (L:=LT) rfl rfl (by decide) (fineOp_ask callT extT (by kernel_rfl)) hr' hn' (v':=(v'.setCell ⟨N+1,0,none⟩ (I 1)).setCell ⟨N+1,1,none⟩ (I 0)) (by go_simp) rfl (λw3 r3 n3=>?_);refine goesI_regionEnd (dt_idle _ _) ?_;refine GoesI.ctl rfl (λ_=>stepG_ret') (dt_idle _ _) ?_;refine goesI_leaveZ (f:=86) (fn:=Tryd.f86) (x:=.agg #[I 1,I 0]) r3 n3 Tryd.func86 rfl hoc ?_ (λw' r'=>hstop _ w' r' n3 hg2 hrow);generalize ((v'.setCell ⟨N+1,0,none⟩ (I 1)).setCell ⟨N+1,1,none⟩ (I 0))=V at hrow;have k0:V.cell? ⟨N+1,0,none⟩=some (I 1):=by simp[World.cell?,hrow]
 have k1:V.cell? ⟨N+1,1,none⟩=some (I 0):=by simp[World.cell?,hrow]
 simp[results,go_sem,Tryd.f86, *]
variable {mc:Mc}
structure Now (X:Fix mc) (z:Nat->Option Nat) (cont:Addr->Value) (Ch:Nat->Prop) (S0:TS) (K0:List (Nat×Int)) (v0:World) (Mo0 Mo:Nat->Option Obj) (σ:TS) (κ:List (Nat×Int)) (S:TS) (v w:World) (t:Thr):Prop where
 at_:At X z cont Ch S κ v w t
 evo:EvoP (λb=>Mo0 b≠none) z S0 K0 v0 S κ v
 nv:nv S=σ
 bk:S.bk=S0.bk
 mo:Has Mo v
 far:∀ b,Mo b≠none->¬ Own S κ b
 new:∀ b,Mo b≠none->Mo0 b≠none∨v0.heap.size<=b
 row:∀ b o,Mo b=some o->∃ c e f,o=.cells c e f
section
variable {X:Fix mc}{z:Nat->Option Nat}{cont:Addr->Value}{Ch:Nat->Prop}{Stop:Goroutine->World->Prop}{cu:Value->Goroutine}{S0:TS}{K0:List (Nat×Int)}{v0:World}{Mo0 Mo:Nat->Option Obj}{σ:TS}{κ:List (Nat×Int)}{S:TS}{v w:World}{t:Thr}{H:Nx->(Nat->Option Obj)->Goroutine->Prop}
theorem Now.good (N:Now X z cont Ch S0 K0 v0 Mo0 Mo σ κ S v w t) {x:Nx}(hx:∀ e y,x≠.ans e y):Good v0 Mo0 x Mo:=⟨hx,N.new,N.row⟩
theorem Now.on (N:Now X z cont Ch S0 K0 v0 Mo0 Mo σ κ S v w t) {S' σ':TS}{κ':List (Nat×Int)}{w':World}{t':Thr}(e:Evo z S κ v S' κ' v') (r:Rel z v' w') (n:NoRow Ch v') (hS:Gen.nv S'=σ') (ht:S'.thr[X.i]? = some t') (htb:t'.tb=X.tb) (hgc:t'.gc=X.gc) (hbk:S'.bk=S.bk):Now X z cont Ch S0 K0 v0 Mo0 Mo σ' κ' S' v' w' t':=by
 have kp:∀ b,b<v.heap.size->¬ Own S κ b->v'.heap[b]? = v.heap[b]?∧¬ Own S' κ' b:=λb hb ho=>(Evo.toP (Pr:=λ_=>False) e).keeps hb ho (λh=>h);have km:∀ (M:Nat->Option Obj),Has M v->(∀ b,M b≠none->¬ Own S κ b)->Has M v'∧∀ b,M b≠none->¬ Own S' κ' b:=λM hM hf=>by have h1:∀ b o,M b=some o->v'.heap[b]? = v.heap[b]?∧¬ Own S' κ' b:=λb o hb=>kp b (Qb (hM b o hb)).1 (hf b (by rw[hb];simp));refine ⟨λb o hb=>by rw[(h1 b o hb).1];exact hM b o hb,λb hb=>?_⟩;obtain ⟨o,ho⟩:=Option.ne_none_iff_exists'.1 hb;exact (h1 b o ho).2
 have k1:=km X.pk N.at_.pk N.at_.far;have k2:=km Mo N.mo N.far;exact ⟨⟨r,n,e.mem,ht,htb,hgc,e.blks.trans N.at_.kb,N.at_.z,N.at_.cont,k1.1,k1.2⟩,N.evo.trans (Evo.toP e),hS,hbk.trans N.bk,k2.1,k2.2,N.new,N.row⟩
theorem Now.same (N:Now X z cont Ch S0 K0 v0 Mo0 Mo σ κ S v w t) {w':World}(r:Rel z v' w') (n:NoRow Ch v') (e1:v'.heap=v.heap) (e2:v'.os=v.os) (e3:v'.output=v.output):Now X z cont Ch S0 K0 v0 Mo0 Mo σ κ S v' w' t :=
 N.on (N.at_.mem.grows ⟨by rw[e1];exact Qi _,λb _=>by rw[e1],e2,e3⟩) r n N.nv N.at_.thr N.at_.tb N.at_.gc rfl
theorem Now.here (A:At X z cont Ch S κ v w t) (hm:Has Mo v) (hf:∀ b,Mo b≠none->¬ Own S κ b) (hr:∀ b o,Mo b=some o->∃ c e f,o=.cells c e f):Now X z cont Ch S κ v Mo Mo (Gen.nv S) κ S v w t :=
 ⟨A,Evo.toP (A.mem.grows ⟨Qi _,λ_ _=>rfl,rfl,rfl⟩),rfl,rfl,hm,hf,λb hb=>.inl hb,hr⟩
theorem Now.cell (N:Now X z cont Ch S0 K0 v0 Mo0 Mo σ κ S v w t) (h:X.kb[j]? = some cb):κ[j]? = some (cb,(cellAt κ j).2)∧cellAt κ j=(cb,(cellAt κ j).2):=by
 rw[<-N.at_.kb,List.getElem?_map,Option.map_eq_some_iff] at h;obtain ⟨p,h1,rfl⟩:=h;have:cellAt κ j=p:=by unfold cellAt;rw[h1];rfl
 rw[this];exact ⟨h1,rfl⟩
theorem ob_turn {op:Int}{q:Q}(hob:Ob X H z cont Ch Stop cu S0 K0 v0 Mo0 σ κ (.turn op j q)) (N:Now X z cont Ch S0 K0 v0 Mo0 Mo σ κ S v w t) (g:Goroutine) (w':World) (hg:GiveT z cont X.h S.bk t.gc (H (.turn op j q) Mo) (Then z Ch S κ v (waiting S X.i t 1 op j) κ) g w'):Stop g w':=by refine hob.seat 1 op j (.inl ⟨⟨q,rfl⟩,rfl⟩) g w' Mo (N.good (λ_ _ h=>by cases h)) ?_;rw[N.at_.gc,N.bk] at hg;refine atGive_mono (λhF=>?_) hg;obtain ⟨v',r,n,e⟩:=hF;have N':=N.on e r n rfl (t':={ t with st:=1,op:=op,ce:=j,se:=_ }) (List.getElem?_set_self (Qc N.at_.thr).1) N.at_.tb N.at_.gc rfl;refine ⟨v',_,r,n,?_,N'.evo,N'.mo,N'.far⟩;rw[<-N.nv,show thrI (Gen.nv S) X.i=t from thrI_of N.at_.thr];rfl
end
def nx2 (s:Nat) (l:List Int):Nx:=if l.length<s then .turn 1 l.length (2,l) else .turn 1 0 (3,l)
def nx3 (s:Nat) (d:List Int):Nx:=if d.length<2*s then .turn 1 (d.length - s) (3,d) else if d.take s=d.drop s then .ans 0 (R1.totI (d.drop s)) else .turn 1 0 (2,[])
def mcC (s:Nat):Mc where
 start i c:=if c.po=1 then .turn 1 (i % s) (0,[((i % s:Nat):Int),c.ca.tmod 1000]) else if c.po=2 then .turn 1 0 (2,[]) else .ans 1 0
 turn q x :=
  if q.1=0 then ((x,x),x,.turn 4 (q.2.getD 0 0).toNat (1,[q.2.getD 0 0,q.2.getD 1 0,x]))
  else if q.1=1 then ((effCas (q.2.getD 2 0) (R1.addI (q.2.getD 2 0) (q.2.getD 1 0)) x).1,(effCas (q.2.getD 2 0) (R1.addI (q.2.getD 2 0) (q.2.getD 1 0)) x).2.1,if x=q.2.getD 2 0 then .ans 0 0 else .turn 1 (q.2.getD 0 0).toNat (0,[q.2.getD 0 0,q.2.getD 1 0]))
  else if q.1=2 then ((x,x),x,nx2 s (q.2++[x]))
  else ((x,x),x,nx3 s (q.2++[x]))
 woke _:=.ans 1 0
 stuck _:=(4,0)
 bnd:=true
abbrev box0:Obj:=.cells #[I 0,I 0] 38 (0,0)
def boxO (pb:Nat):Nat->Option Obj:=λb=>if b=pb then some box0 else none
theorem boxO_at (pb:Nat):boxO pb pb=some box0:=by unfold boxO;rw[if_pos rfl]
theorem boxO_eq {pb:Nat}(h:boxO pb b≠none):b=pb:=by unfold boxO at h;split at h;assumption;exact absurd rfl h
theorem boxO_row (pb:Nat):∀ b o,boxO pb b=some o->∃ c e f,o=.cells c e f:=λb o h=>by unfold boxO at h;split at h;cases h;exact ⟨_,_,_,rfl⟩;cases h
def moS (pb nb fb:Nat) (l m:List Int):Nat->Option Obj:=λb=>if b=pb then some box0 else if b=nb then some (rowI l) else if b=fb then some (rowI m) else none
theorem moS_row (pb nb fb:Nat) (l m:List Int):∀ b o,moS pb nb fb l m b=some o->∃ c e f,o=.cells c e f:=λb o h=>by
 unfold moS at h;split at h;cases h;exact ⟨_,_,_,rfl⟩
 .split at h
  cases h;exact ⟨_,_,_,rfl⟩
  .split at h
   cases h;exact ⟨_,_,_,rfl⟩;cases h
theorem moS_in {pb:Nat}(h:moS pb nb fb l m b≠none):b=pb∨b=nb∨b=fb:=by
 unfold moS at h;split at h;exact .inl (by assumption)
 .split at h
  exact .inr (.inl (by assumption))
  .split at h
   exact .inr (.inr (by assumption));exact absurd rfl h
theorem moS_dom {pb:Nat}{l' m':List Int}(h:moS pb nb fb l m b≠none):moS pb nb fb l' m' b≠none:=by
 unfold moS;rcases moS_in h with rfl|rfl|rfl;rw[if_pos rfl];simp
 .split
  simp;rw[if_pos rfl];simp
 .split
  simp
  .split
   simp;rw[if_pos rfl];simp
structure Apart3 (pb nb fb:Nat):Prop where
 pn:pb≠nb
 pf:pb≠fb
 nf:nb≠fb
theorem moS_pb (pb nb fb:Nat) (l m:List Int):moS pb nb fb l m pb=some box0:=by unfold moS;rw[if_pos rfl]
theorem Ag {pb:Nat}(h:Apart3 pb nb fb) (l m:List Int):moS pb nb fb l m nb=some (rowI l):=by unfold moS;rw[if_neg (λe=>h.pn e.symm),if_pos rfl]
theorem moS_fb {pb:Nat}(h:Apart3 pb nb fb) (l m:List Int):moS pb nb fb l m fb=some (rowI m):=by unfold moS;rw[if_neg (λe=>h.pf e.symm),if_neg (λe=>h.nf e.symm),if_pos rfl]
theorem moS_has {pb:Nat}(h:Apart3 pb nb fb) (h1:v.heap[pb]? = some box0) (h2:v.heap[nb]? = some (rowI l)) (h3:v.heap[fb]? = some (rowI m)):Has (moS pb nb fb l m) v:=λb o hb=>by rcases moS_in (by rw[hb];simp) with rfl|rfl|rfl;rw[moS_pb] at hb;cases hb;exact h1;rw[Ag h] at hb;cases hb;exact h2;rw[moS_fb h] at hb;cases hb;exact h3
structure Frs where
 bd:Frame
 ad:Act
 od:Array Oper
 qd:Nat
 rd:List Nat
 oe:Oper
 kd:List Item
 fs:List Frame
namespace Frs
def cu (f:Frs) (r:Value):Goroutine:=G (f.bd.at (f.ad.put f.oe.dst r) (.inRegion f.od f.rd :: f.kd)) f.fs
def top (f:Frs):Frame:=f.bd.at f.ad (.inRegion f.od (f.qd :: f.rd) :: f.kd)
end Frs
section
variable {mc:Mc}{X:Fix mc}{z:Nat->Option Nat}{cont:Addr->Value}{Ch:Nat->Prop}{Stop:Goroutine->World->Prop}{cu:Value->Goroutine}{S0:TS}{K0:List (Nat×Int)}{v0:World}{Mo0 Mo Mo':Nat->Option Obj}{σ:TS}{κ:List (Nat×Int)}{S:TS}{v w v' w':World}{t:Thr}
theorem Now.more (N:Now X z cont Ch S0 K0 v0 Mo0 Mo σ κ S v w t) (g:Grows v v') (r:Rel z v' w') (n:NoRow Ch v') (hd:∀ b,Mo' b≠none->Mo b≠none∨v.heap.size<=b) (hm:Has Mo' v') (hr:∀ b o,Mo' b=some o->∃ c e f,o=.cells c e f):Now X z cont Ch S0 K0 v0 Mo0 Mo' σ κ S v' w' t:=by have N1:=N.on (N.at_.mem.grows g) r n N.nv N.at_.thr N.at_.tb N.at_.gc rfl;exact ⟨N1.at_,N1.evo,N1.nv,N1.bk,hm,λb hb=>(hd b hb).elim (N1.far b) (λh ho=>by have:=N.at_.mem.lt ho;omega),λb hb=>(hd b hb).elim (N.new b) (λh=>.inr (Qk N.evo.fr.size h)),hr⟩
theorem Now.write (N:Now X z cont Ch S0 K0 v0 Mo0 Mo σ κ S v w t) {B:Nat}(hB:Mo B≠none) (hpk:X.pk B=none) (r:Rel z v' w') (n:NoRow Ch v') (hw:∀ b,b≠B->v'.heap[b]? = v.heap[b]?) (hs:v'.heap.size=v.heap.size) (ho:v'.os=v.os) (hu:v'.output=v.output) (hd:∀ b,Mo' b≠none->Mo b≠none) (hm:Has Mo' v') (hr:∀ b o,Mo' b=some o->∃ c e f,o=.cells c e f):Now X z cont Ch S0 K0 v0 Mo0 Mo' σ κ S v' w' t:=by
 have ev:=N.at_.mem.other (v':=v') (N.far B hB) hw hs ho hu;refine ⟨⟨r,n,ev.mem,N.at_.thr,N.at_.tb,N.at_.gc,N.at_.kb,N.at_.z,N.at_.cont,λb o hb=>?_,N.at_.far⟩,N.evo.join ev (λb hb=>?_),N.nv,N.bk,hm,λb hb=>N.far b (hd b hb),λb hb=>N.new b (hd b hb),hr⟩;rw[hw b (λe=>by subst e;rw[hpk] at hb;cases hb)];exact N.at_.pk b o hb
 .have e:b=B:=hb
  subst e;exact N.new b hB
end
structure CMine (s:Nat) (X:Fix (mcC s)) (c sb:Nat):Prop where
 caps:X.caps=#[Pt c 0]
 mem:∀ v,Has X.pk v->Ctr v c sb s X.kb∧R1.Flds v
abbrev FA (c tb cb:Nat) (n:Int) (a:Act):Prop:=Fl 32 [(0,Pt c 0),(1,Pt tb 0),(2,I n),(6,Pt cb 0)] a
abbrev FS (s c tb nb fb:Nat) (a:Act):Prop:=Fl 35 [(0,Pt c 0),(1,Pt tb 0),(5,.slice (some ⟨nb,0,none⟩) s s),(6,.slice (some ⟨fb,0,none⟩) s s)] a
abbrev FK (s c tb nb sb k:Nat) (a:Act):Prop:=Fl 25 [(0,Pt c 0),(1,Pt tb 0),(2,.slice (some ⟨nb,0,none⟩) s s),(11,.slice (some ⟨sb,0,none⟩) s s),(12,I s),(13,I k)] a
abbrev FK2 (s nb k:Nat) (a:Act):Prop:=Fl 25 [(18,.slice (some ⟨nb,0,none⟩) s s),(19,I k)] a
def ctSit (s:Nat) (X:Fix (mcC s)) (x:Nx) (Mo:Nat->Option Obj) (cu:Value->Goroutine) (g:Goroutine):Prop :=
 ∃ (c sb pb:Nat) (f:Frs),CMine s X c sb∧f.od[f.qd]? = some f.oe ∧
   ((CBack (X.h==0) pb (λ_:Unit=>.tuple #[]) (λ_=>(0,0)) f.cu cu∧Mo=boxO pb∧∃ (n:Int) (cb:Nat) (a:Act),X.kb[X.i % s]? = some cb∧FA c X.tb cb n a ∧
      ((x=.turn 1 (X.i % s) (0,[((X.i % s:Nat):Int),n])∧OpBack (X.h==0) X.i (X.i % s) cb X.tb 1 effLoad (λr=>G (aSeen a r) (f.top :: f.fs)) g) ∨
       (∃ y:Int,x=.turn 4 (X.i % s) (1,[((X.i % s:Nat):Int),n,y])∧OpBack (X.h==0) X.i (X.i % s) cb X.tb 4 (effCas y (R1.addI y n)) (λr=>G (aTried a r) (f.top :: f.fs)) g))) ∨
    (CBack (X.h==0) pb (λx:Int=>I x) (λx=>(0,x)) f.cu cu∧∃ (nb fb:Nat) (l m:List Int) (a ak:Act) (k cb:Nat),Mo=moS pb nb fb l m∧Apart3 pb nb fb∧l.length=s∧m.length=s∧k<s∧X.kb[k]? = some cb∧FS s c X.tb nb fb a∧FK s c X.tb nb sb k ak∧FK2 s nb k ak ∧
      ((x=.turn 1 k (2,l.take k)∧OpBack (X.h==0) X.i k cb X.tb 1 effLoad (λr=>G (kSeen ak r) (sOne a :: f.top :: f.fs)) g) ∨
       (x=.turn 1 k (3,m++l.take k)∧OpBack (X.h==0) X.i k cb X.tb 1 effLoad (λr=>G (kSeen ak r) (sTwo a :: f.top :: f.fs)) g))))
section
variable {s:Nat}{X:Fix (mcC s)}{z:Nat->Option Nat}{cont:Addr->Value}{Ch:Nat->Prop}{Stop:Goroutine->World->Prop}{cu:Value->Goroutine}{S0:TS}{K0:List (Nat×Int)}{v0:World}{Mo0 Mo:Nat->Option Obj}{σ:TS}{κ:List (Nat×Int)}{S:TS}{v w:World}{t:Thr}{H:Nx->(Nat->Option Obj)->Goroutine->Prop}{c sb pb nb fb:Nat}{f:Frs}{l m:List Int}
theorem ct_ans {α:Type}{enc:α->Value}{fa:α->Int×Int}(hB:CBack (X.h==0) pb enc fa f.cu cu) (y:α) {x:Nx}(hob:Ob X H z cont Ch Stop cu S0 K0 v0 Mo0 σ κ x) (hx:x=.ans (fa y).1 (fa y).2) (hpb:Mo pb=some box0) (N:Now X z cont Ch S0 K0 v0 Mo0 Mo σ κ S v w t):
 GoesI Tryd.prog (X.h==0) (DT (ScZ z) Ch) Stop (f.cu (enc y)) w :=
 hB z Ch Stop w v S κ y N.at_.rel N.at_.noRow N.at_.mem (N.mo pb _ hpb) (N.far pb (by rw[hpb];simp)) (λv' w' r n ev=>hob.ans (fa y) (.inl hx) v' w' S r n N.nv (N.evo.join ev (λb hb=>by have hb':b=pb:=hb;subst hb';exact N.new b (by rw[hpb];simp))))
theorem ct_add (hm:CMine s X c sb) (hoe:f.od[f.qd]? = some f.oe) (hB:CBack (X.h==0) pb (λ_:Unit=>.tuple #[]) (λ_=>(0,0)) f.cu cu) (hH:∀ x Mo' g,Good v0 Mo0 x Mo'->ctSit s X x Mo' cu g->H x Mo' g) (hcb:X.kb[X.i % s]? = some cb) (hA:FA c X.tb cb n a)
 (hob:Ob X H z cont Ch Stop cu S0 K0 v0 Mo0 σ κ (.turn 1 (X.i % s) (0,[((X.i % s:Nat):Int),n]))) (N:Now X z cont Ch S0 K0 v0 Mo0 (boxO pb) σ κ S v w t):
 GoesI Tryd.prog (X.h==0) (DT (ScZ z) Ch) Stop (G (aFr a) (f.top :: f.fs)) w:=by
 have hA':FA c t.tb cb n a:=by rw[N.at_.tb];exact hA
 exact add_loop (h:=X.h) (i:=X.i) (j:=X.i % s) (cb:=cb) _ hA' _ (H (.turn 1 (X.i % s) (0,[((X.i % s:Nat):Int),n])) (boxO pb)) (λg hg=>by obtain ⟨a1,hA1,hg⟩:=hg;rw[N.at_.tb] at hA1 hg;exact hH _ _ g (N.good (λ_ _ h=>by cases h)) ⟨c,sb,pb,f,hm,hoe,.inl ⟨hB,rfl,n,cb,a1,hcb,hA1,.inl ⟨rfl,hg⟩⟩⟩) N.at_.rel N.at_.noRow N.at_.mem N.at_.thr (N.cell hcb).1 (by rw[N.at_.tb];exact N.at_.z) (by rw[N.at_.tb,N.at_.gc];exact N.at_.cont) (ob_turn hob N)
theorem ct_aseen (hm:CMine s X c sb) (hoe:f.od[f.qd]? = some f.oe) (hB:CBack (X.h==0) pb (λ_:Unit=>.tuple #[]) (λ_=>(0,0)) f.cu cu) (hH:∀ x Mo' g,Good v0 Mo0 x Mo'->ctSit s X x Mo' cu g->H x Mo' g) (hcb:X.kb[X.i % s]? = some cb) (hA:FA c X.tb cb n a) (y:Int)
 (hob:Ob X H z cont Ch Stop cu S0 K0 v0 Mo0 σ κ (.turn 4 (X.i % s) (1,[((X.i % s:Nat):Int),n,y]))) (N:Now X z cont Ch S0 K0 v0 Mo0 (boxO pb) σ κ S v w t):
 GoesI Tryd.prog (X.h==0) (DT (ScZ z) Ch) Stop (G (aSeen a (I y)) (f.top :: f.fs)) w:=by
 have hA':FA c t.tb cb n a:=by rw[N.at_.tb];exact hA
 exact add_try (h:=X.h) (i:=X.i) (j:=X.i % s) (cb:=cb) y _ (hm.mem v N.at_.pk).2 hA' _ (H (.turn 4 (X.i % s) (1,[((X.i % s:Nat):Int),n,y])) (boxO pb)) (λg hg=>by obtain ⟨a1,hA1,hg⟩:=hg;rw[N.at_.tb] at hA1 hg;exact hH _ _ g (N.good (λ_ _ h=>by cases h)) ⟨c,sb,pb,f,hm,hoe,.inl ⟨hB,rfl,n,cb,a1,hcb,hA1,.inr ⟨y,rfl,hg⟩⟩⟩) N.at_.rel N.at_.noRow N.at_.mem N.at_.thr (N.cell hcb).1 (by rw[N.at_.tb];exact N.at_.z) (by rw[N.at_.tb,N.at_.gc];exact N.at_.cont) (ob_turn hob N)
end
end Go.Proofs.YtfjjoohflcchnaaDoor.Gen
namespace Go.Proofs.YtfjjoohflcchnaaDoor.Gen
open Go Go.Lift Go.Conc Go.RowKit
variable {l:List Int} {k:Nat} {a ak:Act}
section
variable {s:Nat}{X:Fix (mcC s)}{z:Nat->Option Nat}{cont:Addr->Value}{Ch:Nat->Prop}{Stop:Goroutine->World->Prop}{cu:Value->Goroutine}{S0:TS}{K0:List (Nat×Int)}{v0:World}{Mo0 Mo:Nat->Option Obj}{σ:TS}{κ:List (Nat×Int)}{S:TS}{v w:World}{t:Thr}{H:Nx->(Nat->Option Obj)->Goroutine->Prop}{c sb pb nb fb:Nat}{f:Frs}{l m:List Int}
theorem nx2_lt (hl:l.length=s) (hk:k<s):nx2 s (l.take k)=.turn 1 k (2,l.take k):=by
 have:(l.take k).length=k:=by rw[List.length_take];omega
 unfold nx2;rw[this,if_pos hk]
theorem nx2_eq (hl:l.length=s):nx2 s (l.take s)=.turn 1 0 (3,l):=by unfold nx2;rw[List.take_of_length_le (by omega),if_neg (by omega)]
theorem nx3_lt {m:List Int}(hl:l.length=s) (hm:m.length=s) (hk:k<s):nx3 s (m++l.take k)=.turn 1 k (3,m++l.take k):=by
 have:(m++l.take k).length=s+k:=by rw[Qj,List.length_take];omega
 unfold nx3;rw[this,if_pos (by omega),Nat.add_sub_cancel_left]
theorem nx3_eq {m:List Int}(hl:l.length=s) (hm:m.length=s):nx3 s (m++l.take s)=if m=l then .ans 0 (R1.totI l) else .turn 1 0 (2,[]):=by
 have:(m++l).length=2*s:=by rw[Qj];omega
 unfold nx3;rw[List.take_of_length_le (l:=l) (by omega),this,if_neg (by omega),List.take_left' hm,List.drop_left' hm]
theorem ct_look2 (hm:CMine s X c sb) (hoe:f.od[f.qd]? = some f.oe) (hB:CBack (X.h==0) pb (λx:Int=>I x) (λx=>(0,x)) f.cu cu) (hH:∀ x Mo' g,Good v0 Mo0 x Mo'->ctSit s X x Mo' cu g->H x Mo' g) (h3:Apart3 pb nb fb) (hl:l.length=s) (hml:m.length=s) (hk:k<s) (hA:FS s c X.tb nb fb a) (hK:FK s c X.tb nb sb k ak)
 (hob:Ob X H z cont Ch Stop cu S0 K0 v0 Mo0 σ κ (.turn 1 k (2,l.take k))) (N:Now X z cont Ch S0 K0 v0 Mo0 (moS pb nb fb l m) σ κ S v w t):
 GoesI Tryd.prog (X.h==0) (DT (ScZ z) Ch) Stop (G (kFr ak) (sOne a :: f.top :: f.fs)) w:=by
 obtain ⟨cb,hcb,hcc⟩:=(hm.mem v N.at_.pk).1.cel k hk;have hK':FK s c t.tb nb sb k ak:=by rw[N.at_.tb];exact hK
 exact coll_look (h:=X.h) (i:=X.i) (k:=k) (cb:=cb) _ hk hcc hK' _ (H (.turn 1 k (2,l.take k)) (moS pb nb fb l m)) (λg hg=>by obtain ⟨a1,hA1,hA2,hg⟩:=hg;rw[N.at_.tb] at hA1 hg;exact hH _ _ g (N.good (λ_ _ h=>by cases h)) ⟨c,sb,pb,f,hm,hoe,.inr ⟨hB,nb,fb,l,m,a,a1,k,cb,rfl,h3,hl,hml,hk,hcb,hA,hA1,hA2,.inl ⟨rfl,hg⟩⟩⟩) N.at_.rel N.at_.noRow N.at_.mem N.at_.thr (N.cell hcb).1 (by rw[N.at_.tb];exact N.at_.z) (by rw[N.at_.tb,N.at_.gc];exact N.at_.cont) (ob_turn hob N)
theorem ct_look3 (hm:CMine s X c sb) (hoe:f.od[f.qd]? = some f.oe) (hB:CBack (X.h==0) pb (λx:Int=>I x) (λx=>(0,x)) f.cu cu) (hH:∀ x Mo' g,Good v0 Mo0 x Mo'->ctSit s X x Mo' cu g->H x Mo' g) (h3:Apart3 pb nb fb) (hl:l.length=s) (hml:m.length=s) (hk:k<s) (hA:FS s c X.tb nb fb a) (hK:FK s c X.tb nb sb k ak)
 (hob:Ob X H z cont Ch Stop cu S0 K0 v0 Mo0 σ κ (.turn 1 k (3,m++l.take k))) (N:Now X z cont Ch S0 K0 v0 Mo0 (moS pb nb fb l m) σ κ S v w t):
 GoesI Tryd.prog (X.h==0) (DT (ScZ z) Ch) Stop (G (kFr ak) (sTwo a :: f.top :: f.fs)) w:=by
 obtain ⟨cb,hcb,hcc⟩:=(hm.mem v N.at_.pk).1.cel k hk;have hK':FK s c t.tb nb sb k ak:=by rw[N.at_.tb];exact hK
 exact coll_look (h:=X.h) (i:=X.i) (k:=k) (cb:=cb) _ hk hcc hK' _ (H (.turn 1 k (3,m++l.take k)) (moS pb nb fb l m)) (λg hg=>by obtain ⟨a1,hA1,hA2,hg⟩:=hg;rw[N.at_.tb] at hA1 hg;exact hH _ _ g (N.good (λ_ _ h=>by cases h)) ⟨c,sb,pb,f,hm,hoe,.inr ⟨hB,nb,fb,l,m,a,a1,k,cb,rfl,h3,hl,hml,hk,hcb,hA,hA1,hA2,.inr ⟨rfl,hg⟩⟩⟩) N.at_.rel N.at_.noRow N.at_.mem N.at_.thr (N.cell hcb).1 (by rw[N.at_.tb];exact N.at_.z) (by rw[N.at_.tb,N.at_.gc];exact N.at_.cont) (ob_turn hob N)
theorem ct_begin (hm:CMine s X c sb) (hoe:f.od[f.qd]? = some f.oe) (hB:CBack (X.h==0) pb (λx:Int=>I x) (λx=>(0,x)) f.cu cu) (hH:∀ x Mo' g,Good v0 Mo0 x Mo'->ctSit s X x Mo' cu g->H x Mo' g) (h3:Apart3 pb nb fb) (hl:l.length=s) (hml:m.length=s) (h0:0<s) (hA:FS s c X.tb nb fb a) (hob:Ob X H z cont Ch Stop cu S0 K0 v0 Mo0 σ κ (.turn 1 0 (2,[]))) (N:Now X z cont Ch S0 K0 v0 Mo0 (moS pb nb fb l m) σ κ S v w t):
 GoesI Tryd.prog (X.h==0) (DT (ScZ z) Ch) Stop (G (sFr a) (f.top :: f.fs)) w :=
 sum_first (sb:=sb) (v:=v) hA _ (λa1 hA1 code hcode=>coll_in (hm.mem v N.at_.pk).1.row _ N.at_.rel N.at_.noRow (λak v' w' hK r n e1 e2 e3=>ct_look2 (k:=0) hm hoe hB hH h3 hl hml h0 hA1 hK hob (N.same r n e1 e2 e3)) code hcode)
theorem ct_all3 (hm:CMine s X c sb) (hoe:f.od[f.qd]? = some f.oe) (hB:CBack (X.h==0) pb (λx:Int=>I x) (λx=>(0,x)) f.cu cu) (hH:∀ x Mo' g,Good v0 Mo0 x Mo'->ctSit s X x Mo' cu g->H x Mo' g) (h3:Apart3 pb nb fb) (hl:l.length=s) (hml:m.length=s) (hk:k<=s) (hA:FS s c X.tb nb fb a) (hK:FK s c X.tb nb sb k ak)
 (hob:Ob X H z cont Ch Stop cu S0 K0 v0 Mo0 σ κ (nx3 s (m++l.take k))) (N:Now X z cont Ch S0 K0 v0 Mo0 (moS pb nb fb l m) σ κ S v w t):
 GoesI Tryd.prog (X.h==0) (DT (ScZ z) Ch) Stop (G (kFr ak) (sTwo a :: f.top :: f.fs)) w:=by
 have hC:=(hm.mem v N.at_.pk).1;by_cases hlt:k<s
 .rw[nx3_lt hl hml hlt] at hob
  exact ct_look3 hm hoe hB hH h3 hl hml hlt hA hK hob N
 .have e:k=s:=by omega
  subst e;rw[nx3_eq hl hml] at hob;refine coll_done (v:=v) rfl hK _ (bc:=base 57) (ac:=a) (ops:=ops574) (q:=3) (rest:=[]) (oc:=ops574.getD 3 default) (kk:=[.code (seq2 (seq2 (seq2 B57))),.inBlock 1,.inLoop L57,.inBlock 0]) (by rfl) N.at_.rel N.at_.noRow (λw1 r1=>?_);have N1:=N.same r1 N.at_.noRow rfl rfl rfl;refine sum_end (sb:=sb) (bc:=f.bd) (ac:=f.ad) (ops:=f.od) (q:=f.qd) (rest:=f.rd) (oc:=f.oe) (k:=f.kd) (nb:=nb) (fb:=fb) (v:=v) hA l m hC.s1 hl hml (hm.mem v N.at_.pk).2 (N.mo nb _ (Ag h3 l m)) (N.mo fb _ (moS_fb h3 l m)) f.fs hoe r1 N.at_.noRow (λhml' v2 w2 r2 n2 g2=>?_) (λhne a2 v2 w2 hA2 r2 n2 g2=>?_)
  .rw[if_pos hml'] at hob
   exact ct_ans hB (R1.totI l) hob rfl (moS_pb _ _ _ _ _) (N1.on (N1.at_.mem.grows g2) r2 n2 N1.nv N1.at_.thr N1.at_.tb N1.at_.gc rfl)
  .rw[if_neg hne] at hob
   exact ct_begin hm hoe hB hH h3 hl hml hC.s0 hA2 hob (N1.on (N1.at_.mem.grows g2) r2 n2 N1.nv N1.at_.thr N1.at_.tb N1.at_.gc rfl)
theorem ct_all2 (hm:CMine s X c sb) (hoe:f.od[f.qd]? = some f.oe) (hB:CBack (X.h==0) pb (λx:Int=>I x) (λx=>(0,x)) f.cu cu) (hH:∀ x Mo' g,Good v0 Mo0 x Mo'->ctSit s X x Mo' cu g->H x Mo' g) (h3:Apart3 pb nb fb) (hl:l.length=s) (hml:m.length=s) (hpk:X.pk fb=none) (hk:k<=s) (hA:FS s c X.tb nb fb a) (hK:FK s c X.tb nb sb k ak)
 (hob:Ob X H z cont Ch Stop cu S0 K0 v0 Mo0 σ κ (nx2 s (l.take k))) (N:Now X z cont Ch S0 K0 v0 Mo0 (moS pb nb fb l m) σ κ S v w t):
 GoesI Tryd.prog (X.h==0) (DT (ScZ z) Ch) Stop (G (kFr ak) (sOne a :: f.top :: f.fs)) w:=by
 have hC:=(hm.mem v N.at_.pk).1;by_cases hlt:k<s
 .rw[nx2_lt hl hlt] at hob
  exact ct_look2 hm hoe hB hH h3 hl hml hlt hA hK hob N
 .have e:k=s:=by omega
  subst e;rw[nx2_eq hl] at hob;refine coll_done (v:=v) rfl hK _ (bc:=base 57) (ac:=a) (ops:=ops572) (q:=3) (rest:=[]) (oc:=ops572.getD 3 default) (kk:=[.code (seq2 B57),.inBlock 1,.inLoop L57,.inBlock 0]) (by rfl) N.at_.rel N.at_.noRow (λw1 r1=>?_);have N1:=N.same r1 N.at_.noRow rfl rfl rfl;refine sum_mid (sb:=sb) (nb:=nb) (fb:=fb) (v:=v) hA l m hl hml (N.mo nb _ (Ag h3 l m)) (N.mo fb _ (moS_fb h3 l m)) _ r1 N.at_.noRow (λa2 w2 hA2 r2 n2 code hcode=>?_);have hfb:=N.mo fb _ (moS_fb h3 l m);have oth:∀ b,b≠fb->(v.setRow fb (l.map I).toArray).heap[b]? = v.heap[b]?:=λb hb=>setRow_other v fb b _ hb;have N2:Now X z cont Ch S0 K0 v0 Mo0 (moS pb nb fb l l) σ κ S (v.setRow fb (l.map I).toArray) w2 t :=
   N1.write (B:=fb) (by rw[moS_fb h3];simp) hpk r2 n2 oth (by simp[World.setRow]) rfl rfl (λb hb=>moS_dom hb) (moS_has h3 (by rw[oth pb h3.pf];exact N.mo pb _ (moS_pb _ _ _ _ _)) (by rw[oth nb h3.nf];exact N.mo nb _ (Ag h3 l m)) (setRow_rowI hfb l)) (moS_row _ _ _ _ _)
  exact coll_in (hm.mem _ N2.at_.pk).1.row _ N2.at_.rel N2.at_.noRow (λak v' w' hK r n e1 e2 e3=>ct_look3 (k:=0) hm hoe hB hH h3 hl hl hC.s0 hA2 hK (by rw[List.take_zero,List.append_nil];exact hob) (N2.same r n e1 e2 e3)) code hcode
end
end Go.Proofs.YtfjjoohflcchnaaDoor.Gen
