/- Of the proof of CounterAlone. Part 8 of 21. (Joined, by program, and written short, of: Hire3, Main35, Alone, Run20, Run20b.) -/
import Derived.Test.YtfjjoohflcchnaaDoorCounterAlone07
import Derived.Laws.MakeOwn
import Derived.Deep.OwnRows
set_option linter.unusedSimpArgs false
set_option linter.unusedVariables false
set_option maxHeartbeats 4000000
set_option maxRecDepth 100000
namespace Go.Lift
open Go.Conc
theorem hire_at {P:Program} {K:World→Prop} {Still:Loc→Prop} {h:Nat} {o:Option Seat} {F:Goroutine→World→Prop} {b:Frame} {a:Act} {kk:List Item} {cs:List Frame} {ops:Array Oper} {i:Nat} {rest:List Nat} {op:Oper} {w:World} {d:Deferred} {f:Fn} {c:Array Value} (nh B₀:Nat)
 (ho:ops[i]? = some op) (hw:Region.wanted op (yielded ops a.tmps)=true) (hk:b.kind≠.early) (hr:∀ w,(execOp a.eval op).run P w=.ok (.spawn d) w) (hd:d.target=.fn f c) (he:∀ w,(execOp a.eval op).events P w #[]=#[]) (hF:F (born P d) w) (hB₀:B₀≤w.heap.size)
 (hI:∀ B,B₀≤B→∀ T,Deaf T h=0→Idle P K Still B T h nh (G (b.at (a.put op.dst undef) (.inRegion ops rest :: kk)) cs) o):AtHire P K Still h o F (G (b.at a (.inRegion ops (i :: rest) :: kk)) cs) w :=
 ⟨rfl,_,born P d,#[],nh,B₀,hB₀,hF,fun d'=>by rw [stepG_spawn ho hw hk (hr _) hd,listed_none (he _)],fun B _ e he=>by simp at he,hI⟩
end Go.Lift
namespace Go.Proofs.YtfjjoohflcchnaaDoor
open Go Go.Lift Go.Conc Go.RowKit
theorem hire_box {main:Bool} (wb:Nat) (bsl F:Value) (n ii bb gc:Nat) (u:Nat→Value) (cs:List Frame) (w:World) :
 stepG Tryd.prog main (G (bFr1 wb bsl F n ii bb gc u) cs) w=.go (G (bFr2 wb bsl F n ii bb gc w.heap.size u) cs) (w.alloc (.cells (trow wb ii gc 0 0 0 0) 107)) #[]:=by
 unfold bFr1 bFr2 ops3514 R15 R18 HB D35 HL B35 Tryd.f95 seq2 seq1 blockC loopC opsOf
 simp only [Option.getD_some,List.append_toArray,List.cons_append,List.nil_append]
 rw [stepG_value (v:=Pt w.heap.size 0) (w':=w.alloc (.cells (trow wb ii gc 0 0 0 0) 107)) rfl rfl (by decide) (by go_simp),listed_none (by simp [go_sem,execOp])]
 rfl
abbrev d49 (tb:Nat) (F:Value):Deferred:={ target:=.fn (.func 124) #[],args:=#[Pt tb 0,F] }
theorem eR15:R15=.seq r15 R1617:=by kernel_rfl
noncomputable def ops3517:Array Oper:=opsOf (seq2 R1617)
def HBack (wb:Nat) (bsl:Value) (n ii:Nat) (cs:List Frame) (g:Goroutine):Prop:=∀ (D:World→World→Array Event→Prop) (Stop:Goroutine→World→Prop) (x:Value) (w:World),(∀ w,D w w #[])→(∀ u,GoesI Tryd.prog true D Stop (G (hFr wb bsl n ii u) cs) w)→GoesI Tryd.prog true D Stop (Go.Conc.served g x) w
theorem back35 (wb:Nat) (bsl F:Value) (n ii bb gc tb bk:Nat) (hb:(n:Int)<9223372036854775808) (hi:ii<n) (u:Nat→Value) (cs:List Frame) :
 HBack wb bsl n (ii+1) cs (G ((base 95).at ⟨#[Pt wb 0,bsl,undef,undef,u 4,u 5,u 6,I ii,F,Pt tb 0,u 10,u 11,u 12,u 13,u 14,u 15,u 16,u 17,u 18,u 19,u 20,u 21,u 22,u 23,u 24,u 25,u 26,u 27,u 28,u 29,bsl]++#[I n,I ii,.bool true,I ii,Pt bb ii,F,Pt wb 0,I ii,.chan (some gc),.agg (trow wb ii gc 0 0 0 0),Pt tb 0,u 42,u 43,u 44,u 45,u 46,u 47,u 48,u 49,u 50,u 51,Pt tb 0,F,Pt wb 0,Pt wb 0,Pt wb 8,.chan (some bk),u 58,u 59,u 60,u 61],[]⟩ [.inRegion ops3517 [4],.inBlock 3,.code R18,.inLoop HL,.inBlock 2,.code D35]) cs):=by
 have HW:IntKind.i64.wrap ((ii:Int)+1)=((ii+1:Nat):Int):=by rw [IntKind.wrap_i64];omega
 intro D Stop x w hD h
 have h:=h (fun m=>match m with|7=>I ii|8=>F|9=>Pt tb 0|33=>.bool true|34=>I ii|35=>Pt bb ii|36=>F|37=>Pt wb 0|38=>I ii|39=>.chan (some gc)|40=>.agg (trow wb ii gc 0 0 0 0)|41=>Pt tb 0|52=>Pt tb 0|53=>F|54=>Pt wb 0|55=>Pt wb 0|56=>Pt wb 8|57=>.chan (some bk)|58=>x|59=>I ((ii+1:Nat):Int)|m=>u m)
 unfold ops3517 R1617 R15 R18 HB D35 HL B35 Tryd.f95 seq2 seq1 blockC loopC opsOf
 unfold hFr D35 HL B35 Tryd.f95 seq2 seq1 blockC loopC at h
 simp only [Option.getD_some,List.append_toArray,List.cons_append,List.nil_append] at h ⊢
 rw [served_fr,Frame.finish_at]
 refine goesI_regionEnd hD ?_
 refine goesI_inBlock hD ?_
 refine goesI_region hD ?_
 simp only [List.size_toArray,List.length_cons,List.length_nil,Nat.reduceAdd,Nat.zero_add,List.range,List.range.loop]
 refine goesI_value (v:=fun _=>I ((ii+1:Nat):Int)) (w':=fun d=>w.at d) rfl rfl (by decide) (fun d=>by go_simp) (fun d=>by rw [listed_none (by simp [go_sem,execOp])];exact hD _) (fun d=>GoesI.at ?_ d)
 refine goesI_value (v:=fun _=>I ((ii+1:Nat):Int)) (w':=fun d=>w.at d) rfl rfl (by decide) (fun d=>by go_simp) (fun d=>by rw [listed_none (by simp [go_sem,execOp])];exact hD _) (fun d=>GoesI.at ?_ d)
 refine goesI_regionEnd hD ?_
 refine goesI_inLoop hD ?_
 exact h
theorem hire_b {z:Nat→Option Nat} {Ch:Nat→Prop} {Stop:Goroutine→World→Prop} {cont:Addr→Value} {v w:World} (wb n ii bb gc tb bk:Nat) (bsl F tv:Value) (k bs:Nat) (xs:List Value) (u:Nat→Value) (cs:List Frame) (Hm:Goroutine→Prop)
 (hH:∀ g,HBack wb bsl n (ii+1) cs g→Hm g) (hb:(n:Int)<9223372036854775808) (hi:ii<n)
 (hvw:Rel z v w) (hn:NoRow Ch v) (h4:v.cell? ⟨wb,4,none⟩=some tv) (hf:v.frozen? ⟨wb,4,none⟩=false) (hown:v.ownsRow bs 48 1 tv k xs) (hne:tv.ownBlock≠some wb) (hk:(k+1)*8≤140737488355328) (hbase:bs≤v.heap.size) (hz:z wb=some 8) (hcont:cont ⟨wb,8,none⟩=.chan (some bk))
 (hstop:∀ g w',Lift.AtHire Tryd.prog (KC (ScZ z) cont) (StillC (ScZ z)) 0 (some (Seat.one bk (.agg #[]) false Hm)) (fun child w'=>child=born Tryd.prog (d49 tb F)∧∃ v',Rel z v' w'∧NoRow Ch v'∧Threaded wb tv k bs xs (Pt tb 0) v v') g w'→Stop g w') :
 GoesI Tryd.prog true (DT (ScZ z) Ch) Stop (G (bFr2 wb bsl F n ii bb gc tb u) cs) w:=by
 have HO:Hid (v.ownsRow bs 48 1 tv k xs):=⟨hown⟩
 have q4:wb<v.heap.size:=World.block_lt_of_cell? _ _ h4
 clear hown
 have hop:(ops3514.getD 5 default).op=.assign (.tmp 41):=by kernel_rfl
 have hds:(ops3514.getD 5 default).dst=some 9:=by kernel_rfl
 have hgd:(ops3514.getD 5 default).guard=none:=by kernel_rfl
 have hoo:ops3514[5]? = some (ops3514.getD 5 default):=by kernel_rfl
 unfold bFr2
 simp only [List.append_toArray,List.cons_append,List.nil_append]
 refine goesI_value (o:=ops3514.getD 5 default) (v:=fun _=>Pt tb 0) (w':=fun d=>w.at d) hoo (by unfold Region.wanted;rw [hgd]) (by decide) (fun d=>by unfold execOp;rw [hop];simp [go_sem,Act.eval]) (fun d=>by rw [listed_none (by unfold execOp;rw [hop];simp [go_sem])];exact dt_idle _ _ _) (fun d=>GoesI.at ?_ d)
 rw [hds]
 clear hop hds hgd hoo
 refine goesI_regionEnd (dt_idle _ _) ?_
 rw [eR15]
 refine goesI_seq (dt_idle _ _) ?_
 rw [show (Act.put { tmps:=(#[Pt wb 0,bsl,undef,undef,u 4,u 5,u 6,I ii,F,u 9,u 10,u 11,u 12,u 13,u 14,u 15,u 16,u 17,u 18,u 19,u 20,u 21,u 22,u 23,u 24,u 25,u 26,u 27,u 28,u 29,bsl,I n,I ii,.bool true,I ii,Pt bb ii,F,Pt wb 0,I ii,.chan (some gc),.agg (trow wb ii gc 0 0 0 0),Pt tb 0,u 42,u 43,u 44,u 45,u 46,u 47,u 48,u 49,u 50,u 51,u 52,u 53,u 54,u 55,u 56,u 57,u 58,u 59,u 60,u 61]),defers:=[] } (some 9) (Pt tb 0))={ tmps:=(#[Pt wb 0,bsl,undef,undef,u 4,u 5,u 6,I ii,F,Pt tb 0,u 10,u 11,u 12,u 13,u 14,u 15,u 16,u 17,u 18,u 19,u 20,u 21,u 22,u 23,u 24,u 25,u 26,u 27,u 28,u 29,bsl]++#[I n,I ii,.bool true,I ii,Pt bb ii,F,Pt wb 0,I ii,.chan (some gc),.agg (trow wb ii gc 0 0 0 0),Pt tb 0,u 42,u 43,u 44,u 45,u 46,u 47,u 48,u 49,u 50,u 51,u 52,u 53,u 54,u 55,u 56,u 57,u 58,u 59,u 60,u 61]),defers:=[] } from by kernel_rfl]
 refine goesI_plain (z:=z) (wr:=true) (L:=LT) (I:=NoRow Ch) hE fineT noRow_keeps (fun v v' w w' es hi hr ho he=>dt_of_z v v' w w' es hi hr ho he) hvw fineR15 rfl (by simp [base]) hn
  (Q:=fun a w'=>(∃ u:Nat→Value,a={ tmps:=#[Pt wb 0,bsl,undef,undef,u 4,u 5,u 6,I ii,F,Pt tb 0,u 10,u 11,u 12,u 13,u 14,u 15,u 16,u 17,u 18,u 19,u 20,u 21,u 22,u 23,u 24,u 25,u 26,u 27,u 28,u 29,bsl]++#[I n,I ii,.bool true,I ii,Pt bb ii,F,Pt wb 0,I ii,.chan (some gc),.agg (trow wb ii gc 0 0 0 0),Pt tb 0,u 42,u 43,u 44,u 45,u 46,u 47,u 48,u 49,u 50,u 51,u 52,u 53,u 54,u 55,u 56,u 57,u 58,u 59,u 60,u 61],defers:=[] })∧Threaded wb tv k bs xs (Pt tb 0) v w') (fun τ=>?_) ?_
 ·refine wp_mono (r15_wp (v:=onTape v τ 0) wb n ii bb gc tb bsl F tv k bs xs u h4 hf HO.out hne hk hbase) (fun e a w' hq=>⟨hq.1,hq.2.1,?_⟩)
  obtain ⟨g,cap,q1,q2,q3,q5⟩:=hq.2.2
  exact ⟨g,cap,q1,q2,q3,⟨q5.os,q5.output,q5.size,q5.block⟩⟩
 rintro a' v' w' ⟨⟨u',rfl⟩,hT⟩ hr' hn' -
 have hwbl:wb<w'.heap.size:=by
  obtain ⟨g,cap,q1,q2,q3,q5⟩:=hT
  rw [hr'.size]
  exact Nat.lt_of_lt_of_le q4 q5.size
 have HF:Hid (∃ v',Rel z v' w'∧NoRow Ch v'∧Threaded wb tv k bs xs (Pt tb 0) v v'):=⟨⟨v',hr',hn',hT⟩⟩
 have hbk:=back35 wb bsl F n ii bb gc tb bk hb hi u' cs
 clear hT hr' hn' hvw hn h4 hf HO hne hk hbase q4
 unfold ops3517 R1617 R15 R18 HB D35 HL B35 Tryd.f95 seq2 seq1 blockC loopC opsOf at hbk
 unfold R1617 R15 R18 HB D35 HL B35 Tryd.f95 seq2 seq1 blockC loopC
 simp only [Option.getD_some,List.append_toArray,List.cons_append,List.nil_append] at hbk ⊢
 refine goesI_seq (dt_idle _ _) ?_
 refine goesI_region (dt_idle _ _) ?_
 simp only [List.size_toArray,List.length_cons,List.length_nil,Nat.reduceAdd,Nat.zero_add,List.range,List.range.loop]
 iterate 2
  (refine goesI_oper rfl rfl (by decide) (fun d K hK=>?_)
   go_simp
   refine hK _ _ ⟨dt_reads (fun e he=>?_),GoesI.at ?_ d⟩
   ·have hm:=mem_listed he
    simp [go_sem, *] at hm
    try exact ⟨_,_,hm⟩
   clear hK K)
 refine GoesI.stop fun d=>hstop _ _ (hire_at (h:=0) (d:=d49 tb F) 7 (wb+1) rfl rfl (by decide) (fun w=>by simp [go_sem,execOp,resolve,Act.eval]) rfl (fun w=>by simp [go_sem,execOp,resolve,Act.eval]) ⟨rfl,?_⟩ (Nat.succ_le_of_lt hwbl) (fun B hB T hT=>?_))
 ·obtain ⟨v',k1,k2⟩:=HF.out
  exact ⟨v',k1.re rfl rfl rfl rfl rfl rfl,k2⟩
 ·clear HF hstop hwbl
  refine .inl ⟨6,w',rfl,?_⟩
  k_c stepG_region_end
  k_reg
  iterate 3
   (k_in
    refine goes_oper_k rfl rfl (by decide) (fun K hK=>?_)
    go_simp
    refine hK _ _ ⟨⟨rfl,fun e he=>by (have hm:=mem_listed he;simp [go_sem, *] at hm)⟩,?_⟩
    clear hK K)
  k_in
  have q2:=h₁ ⟨wb,8,none⟩ ⟨rfl,hz⟩
  rw [hcont] at q2
  refine goes_oper_k rfl rfl (by decide) (fun K hK=>?_)
  go_simp
  refine hK _ _ ⟨⟨rfl,fun e he=>by (have hm:=mem_listed he;simp [go_sem, *] at hm;subst hm;exact evC_read _ ⟨_,rfl,rfl,hz⟩ (by simp;omega))⟩,?_⟩
  clear hK K
  refine Goes.stop fun w₂ h₂=>⟨_,atIn_of (s:=Seat.one bk (.agg #[]) false Hm) rfl rfl (by decide) (fun w=>?_) (fun w=>?_) (hH _ hbk)⟩
  ·simp [go_sem,execOp,rcase,Act.eval,Seat.one]
  ·simp [go_sem,execOp,Act.eval]
noncomputable def tFr (wb:Nat) (u:Nat→Value):Frame:=(base 95).at ⟨#[Pt wb 0,u 1,u 2,u 3,u 4,u 5,u 6,u 7,u 8,u 9,u 10,u 11,u 12,u 13,u 14,u 15,u 16,u 17,u 18,u 19,u 20,u 21,u 22,u 23,u 24,u 25,u 26,u 27,u 28,u 29,u 30]++#[u 31,u 32,u 33,u 34,u 35,u 36,u 37,u 38,u 39,u 40,u 41,u 42,u 43,u 44,u 45,u 46,u 47,u 48,u 49,u 50,u 51,u 52,u 53,u 54,u 55,u 56,u 57,u 58,u 59,u 60,u 61],[]⟩ [.code TL,.inLoop TL,.inBlock 4]
theorem hire_done {z:Nat→Option Nat} {Ch:Nat→Prop} {Stop:Goroutine→World→Prop} {main:Bool} {w:World} {wb:Nat} (bsl:Value) (n:Nat) (u:Nat→Value) (cs:List Frame)
 (hk:∀ u',GoesI Tryd.prog main (DT (ScZ z) Ch) Stop (G (tFr wb u') cs) w):GoesI Tryd.prog main (DT (ScZ z) Ch) Stop (G (hFr wb bsl n n u) cs) w:=by
 have hi':¬ (n:Int)<(n:Int):=by omega
 have hk:=hk (fun m=>match m with|1=>bsl|2=>undef|3=>undef|30=>bsl|31=>I n|32=>I n|33=>.bool false|m=>u m)
 unfold tFr TL D35 B35 Tryd.f95 seq2 blockC loopC at hk
 unfold hFr D35 HL B35 Tryd.f95 seq2 seq1 blockC loopC
 simp only [Option.getD_some,List.append_toArray,List.cons_append,List.nil_append] at hk ⊢
 refine goesI_seq (dt_idle _ _) ?_
 refine goesI_region (dt_idle _ _) ?_
 simp only [List.size_toArray,List.length_cons,List.length_nil,Nat.reduceAdd,Nat.zero_add,List.range,List.range.loop]
 iterate 1
  (refine goesI_oper rfl rfl (by decide) (fun d K hK=>?_)
   go_simp
   refine hK _ _ ⟨dt_reads (fun e he=>?_),GoesI.at ?_ d⟩
   ·have hm:=mem_listed he
    simp [go_sem, *] at hm
    try exact ⟨_,_,hm⟩
   clear hK K)
 refine goesI_regionEnd (dt_idle _ _) ?_
 refine goesI_seq (dt_idle _ _) ?_
 refine goesI_cond (dt_idle _ _) (t:=false) rfl ?_
 simp only [if_true,if_false,Bool.false_eq_true]
 refine goesI_exit (dt_idle _ _) rfl ?_
 refine goesI_block (dt_idle _ _) ?_
 refine goesI_loop (dt_idle _ _) ?_
 exact hk
theorem turn_in {z:Nat→Option Nat} {Ch:Nat→Prop} {Stop:Goroutine→World→Prop} {main:Bool} {w:World} {wb:Nat} (u:Nat→Value) (cs:List Frame)
 (hk:∀ (bd:Frame) (ad:Act) (od:Array Oper) (qd:Nat) (rd:List Nat) (oe:Oper) (kd:List Item),od[qd]? = some oe →
   (∀ (z:Nat→Option Nat) (Ch:Nat→Prop) (Stop:Goroutine→World→Prop) (w:World),(∀ u',GoesI Tryd.prog main (DT (ScZ z) Ch) Stop (G (tFr wb u') cs) w)→GoesI Tryd.prog main (DT (ScZ z) Ch) Stop (G (bd.at (ad.put oe.dst (.bool true)) (.inRegion od rd :: kd)) cs) w) →
   (∀ (z:Nat→Option Nat) (Ch:Nat→Prop) (Stop:Goroutine→World→Prop) (w:World) (bc:Frame) (ac:Act) (ops:Array Oper) (q:Nat) (rest:List Nat) (oc:Oper) (k:List Item) (cs':List Frame),cs=bc.at ac (.inRegion ops (q :: rest) :: k) :: cs'→ops[q]? = some oc→GoesI Tryd.prog main (DT (ScZ z) Ch) Stop (G (bc.at (ac.put oc.dst (.tuple #[])) (.inRegion ops rest :: k)) cs') w →
     GoesI Tryd.prog main (DT (ScZ z) Ch) Stop (G (bd.at (ad.put oe.dst (.bool false)) (.inRegion od rd :: kd)) cs) w)→∀ code,Tryd.f125.body=some code →
   GoesI Tryd.prog main (DT (ScZ z) Ch) Stop (G ((base 125).at { tmps:=#[Pt wb 0]++Array.replicate 72 undef,defers:=[] } [.code code]) (bd.at ad (.inRegion od (qd :: rd) :: kd) :: cs)) w) :
 GoesI Tryd.prog main (DT (ScZ z) Ch) Stop (G (tFr wb u) cs) w:=by
 unfold tFr TL D35 B35 Tryd.f95 seq2 blockC loopC
 simp only [Option.getD_some,List.append_toArray,List.cons_append,List.nil_append]
 refine goesI_seq (dt_idle _ _) ?_
 refine goesI_seq (dt_idle _ _) ?_
 refine goesI_region (dt_idle _ _) ?_
 simp only [List.size_toArray,List.length_cons,List.length_nil,Nat.reduceAdd,Nat.zero_add,List.range,List.range.loop]
 iterate 1
  (refine goesI_oper rfl rfl (by decide) (fun d K hK=>?_)
   go_simp
   refine hK _ _ ⟨dt_reads (fun e he=>?_),GoesI.at ?_ d⟩
   ·have hm:=mem_listed he
    simp [go_sem, *] at hm
    try exact ⟨_,_,hm⟩
   clear hK K)
 refine goesI_into (f:=125) (fn:=Tryd.f125) (args:=#[Pt wb 0]) (dt_idle _ _) rfl rfl (by decide) rfl (by simp [Act.eval]) Tryd.func125 (by decide) rfl ?_
 refine hk _ _ _ _ _ _ _ rfl (fun z Ch Stop w hg=>?_) (fun z Ch Stop w bc ac ops q rest oc k cs' hcs ho hg=>?_) _ rfl
 ·have hg:=hg (fun m=>match m with|60=>Pt wb 0|61=>.bool true|m=>u m)
  unfold tFr TL D35 B35 Tryd.f95 seq2 blockC loopC at hg
  simp only [Option.getD_some,List.append_toArray,List.cons_append,List.nil_append] at hg
  refine goesI_regionEnd (dt_idle _ _) ?_
  refine goesI_cond (dt_idle _ _) (t:=true) rfl ?_
  simp only [if_true,if_false,Bool.false_eq_true]
  refine goesI_skip (dt_idle _ _) ?_
  refine goesI_block (dt_idle _ _) ?_
  refine goesI_skip (dt_idle _ _) ?_
  refine goesI_inBlock (dt_idle _ _) ?_
  refine goesI_inLoop (dt_idle _ _) ?_
  exact hg
 ·subst hcs
  refine goesI_regionEnd (dt_idle _ _) ?_
  refine goesI_cond (dt_idle _ _) (t:=false) rfl ?_
  simp only [if_true,if_false,Bool.false_eq_true]
  refine goesI_exit (dt_idle _ _) rfl ?_
  refine goesI_end (dt_idle _ _) ?_
  refine goesI_leave (b:=base 95) (fn:=Tryd.f95) rfl ?_ Tryd.func95 (fun w=>results_none rfl _ _ _) (fun w=>by simp [results,go_sem]) ho (dt_idle _ _) hg
  show (Act.put _ _ _).defers=[]
  unfold Act.put
  split<;>rfl
theorem ran_ev {z:Nat→Option Nat} {S:TS} {v:World} (h:Rep z S v):Ev z S v { S with ran:=true } (v.setCell ⟨S.wb,7,none⟩ (.bool true)):=by
 have hst:∀ k b,blk S k=some b→k≠0→(v.setCell ⟨S.wb,7,none⟩ (.bool true)).heap[b]? = v.heap[b]?:=fun k b hk h0=>Below.heap_setCell _ _ _ _ (fun e=>h0 (h.apart k 0 b hk (by rw [e];rfl)))
 have hblk:∀ k,blk { S with ran:=true } k=blk S k:=fun k=>by match k with|0=>rfl|1=>rfl|2=>rfl|3=>rfl|4=>rfl|k+5=>rfl
 refine ⟨⟨?_,fun i t ht=>?_,own_stay (fun b hb=>hst 3 b hb (by omega)) h.own,own_stay (fun b hb=>hst 1 b hb (by omega)) h.chg,own_stay (fun b hb=>hst 2 b hb (by omega)) h.ths,own_stay (fun b hb=>hst 4 b hb (by omega)) h.sch,?_,fun j k b hj hk=>?_,h.kept⟩,⟨rfl,rfl,by simp [World.setCell],fun b hb hs=>Below.heap_setCell _ _ _ _ (fun e=>hs ⟨0,by rw [e];rfl⟩)⟩,fun b ⟨k,hk⟩=>.inl ⟨k,by rw [←hblk];exact hk⟩⟩
 ·have:=heap_setCell_same (o:=7) h.wor (.bool true)
  simpa using this
 ·rw [hst (i+5) t.tb (by simp only [blk];rw [show S.thr[i]? = some t from ht];rfl) (by omega)]
  exact h.thr i t ht
 ·show S.base≤_
  simpa [World.setCell] using h.bs
 ·exact h.apart j k b (by rw [←hblk];exact hj) (by rw [←hblk];exact hk)
theorem run35_in {z:Nat→Option Nat} {Ch:Nat→Prop} {Stop:Goroutine→World→Prop} {main:Bool} {S:TS} {K:List (Nat×Int)} {v w:World} (p:Option Addr) (n cap:Nat) (cs:List Frame)
 (hvw:Rel z v w) (hn:NoRow Ch v) (hm:Mem z S K v) (hr:S.ran=false)
 (hk:∀ v' w' u,Rel z v' w'→NoRow Ch v'→Evo z S K v { S with ran:=true } K v'→GoesI Tryd.prog main (DT (ScZ z) Ch) Stop (G (hFr S.wb (.slice p n cap) n 0 u) cs) w') (code:Code) (hc:Tryd.f95.body=some code) :
 GoesI Tryd.prog main (DT (ScZ z) Ch) Stop (G ((base 95).at { tmps:=#[Pt S.wb 0,.slice p n cap]++Array.replicate 60 undef,defers:=[] } [.code code]) cs) w:=by
 have hc0:code=B35:=by
  unfold B35
  rw [hc]
  rfl
 subst hc0
 clear hc
 have e7:w.cell? ⟨S.wb,7,none⟩=some (.bool false):=by rw [hvw.cell?,hm.rep.wcell.2.2.2.2.2.2.2.1,hr]
 have c7:v.cell? ⟨S.wb,7,none⟩=some (.bool false):=by rw [hm.rep.wcell.2.2.2.2.2.2.2.1,hr]
 have f7:v.frozen? ⟨S.wb,7,none⟩=false:=fz_off hm.rep 7 (by omega)
 have HE:Hid (Evo z S K v { S with ran:=true } K (v.setCell ⟨S.wb,7,none⟩ (.bool true))):=⟨Evo.of_ev hm (ran_ev hm.rep) rfl⟩
 clear hm hr
 unfold B35 Tryd.f95
 simp only [Option.getD_some,Array.replicate_succ,Array.replicate_zero,List.push_toArray,List.append_toArray,List.nil_append,List.cons_append]
 refine goesI_seq (dt_idle _ _) ?_
 refine goesI_seq (dt_idle _ _) ?_
 refine goesI_region (dt_idle _ _) ?_
 simp only [List.size_toArray,List.length_cons,List.length_nil,Nat.reduceAdd,Nat.zero_add,List.range,List.range.loop]
 iterate 1
  (refine goesI_oper rfl rfl (by decide) (fun d K hK=>?_)
   go_simp
   refine hK _ _ ⟨dt_reads (fun e he=>?_),GoesI.at ?_ d⟩
   ·have hm:=mem_listed he
    simp [go_sem, *] at hm
    try exact ⟨_,_,hm⟩
   clear hK K)
 refine goesI_opZ (L:=LT) rfl rfl (by decide) (fineOp_ask callT extT (by kernel_rfl)) hvw hn (x:=.bool false) (v':=v) (by go_simp) rfl (fun w1 hvw1 _=>?_)
 replace e7:w1.cell? ⟨S.wb,7,none⟩=some (.bool false):=by rw [hvw1.cell?];exact c7
 clear hvw
 rename Rel z v w1=>hvw
 refine goesI_regionEnd (dt_idle _ _) ?_
 refine goesI_cond (dt_idle _ _) (t:=false) rfl ?_
 simp only [if_true,if_false,Bool.false_eq_true]
 refine goesI_skip (dt_idle _ _) ?_
 refine goesI_seq (dt_idle _ _) ?_
 refine goesI_seq (dt_idle _ _) ?_
 refine goesI_region (dt_idle _ _) ?_
 simp only [List.size_toArray,List.length_cons,List.length_nil,Nat.reduceAdd,Nat.zero_add,List.range,List.range.loop]
 iterate 4
  (refine goesI_oper rfl rfl (by decide) (fun d K hK=>?_)
   go_simp
   refine hK _ _ ⟨dt_reads (fun e he=>?_),GoesI.at ?_ d⟩
   ·have hm:=mem_listed he
    simp [go_sem, *] at hm
    try exact ⟨_,_,hm⟩
   clear hK K)
 refine goesI_regionEnd (dt_idle _ _) ?_
 refine goesI_cond (dt_idle _ _) (t:=false) rfl ?_
 simp only [if_true,if_false,Bool.false_eq_true]
 refine goesI_skip (dt_idle _ _) ?_
 refine goesI_seq (dt_idle _ _) ?_
 refine goesI_region (dt_idle _ _) ?_
 simp only [List.size_toArray,List.length_cons,List.length_nil,Nat.reduceAdd,Nat.zero_add,List.range,List.range.loop]
 iterate 3
  (refine goesI_oper rfl rfl (by decide) (fun d K hK=>?_)
   go_simp
   refine hK _ _ ⟨dt_reads (fun e he=>?_),GoesI.at ?_ d⟩
   ·have hm:=mem_listed he
    simp [go_sem, *] at hm
    try exact ⟨_,_,hm⟩
   clear hK K)
 clear e7
 refine goesI_doZ (L:=LT) rfl rfl (by decide) (fineOp_ask callT extT (by kernel_rfl)) hvw hn (v':=v.setCell ⟨S.wb,7,none⟩ (.bool true)) (by go_simp) rfl (fun w2 hr2 hn2=>?_)
 refine goesI_regionEnd (dt_idle _ _) ?_
 refine goesI_seq (dt_idle _ _) ?_
 refine goesI_seq (dt_idle _ _) ?_
 refine goesI_region (dt_idle _ _) ?_
 simp only [List.size_toArray,List.length_cons,List.length_nil,Nat.reduceAdd,Nat.zero_add,List.range,List.range.loop]
 iterate 3
  (refine goesI_oper rfl rfl (by decide) (fun d K hK=>?_)
   go_simp
   refine hK _ _ ⟨dt_reads (fun e he=>?_),GoesI.at ?_ d⟩
   ·have hm:=mem_listed he
    simp [go_sem, *] at hm
    try exact ⟨_,_,hm⟩
   clear hK K)
 refine goesI_regionEnd (dt_idle _ _) ?_
 refine goesI_block (dt_idle _ _) ?_
 refine goesI_loop (dt_idle _ _) ?_
 have hk:=hk _ w2 (fun m=>match m with|10=>Pt S.wb 0|11=>.bool false|23=>Pt S.wb 0|24=>Pt S.wb 0|25=>Pt S.wb 7|26=>.bool false|27=>Pt S.wb 0|28=>Pt S.wb 0|29=>Pt S.wb 7|_=>undef) hr2 hn2 HE.out
 unfold hFr D35 HL B35 Tryd.f95 seq2 seq1 blockC loopC at hk
 simp only [Option.getD_some,List.append_toArray,List.cons_append,List.nil_append] at hk
 exact hk
structure Alone (gs:Array Goroutine) (w:World) (T:Trace) (q:Nat→Nat):Prop where
 left:Leavers Tryd.prog T gs q
 past:∃ B,B≤w.heap.size∧Past (fun _=>False) B T
theorem alone_goes {gs:Array Goroutine} {w:World} {T:Trace} {q:Nat→Nat} (A:Alone gs w T q) {a:Goroutine} {Stop:Goroutine→World→Prop} (hg:gs[0]? = some a) (sl:Option (Nat×Nat)) (hG:GoesI Tryd.prog true (DT (ScZ zn) (fun _=>False)) Stop a w) :
 ∃ (N':Nat) (gs':Array Goroutine) (a':Goroutine) (w':World) (sl':Option (Nat×Nat)) (T':Trace) (q':Nat→Nat),runNT Tryd.prog N' (crowd gs w sl) T=(.next (crowd gs' w' sl'),T')∧gs'.size=gs.size∧gs'[0]? = some a'∧Stop a' w'∧Alone gs' w' T' q':=by
 obtain ⟨B,hB,hP⟩:=A.past
 have hno:∀ a,¬ ScZ zn a:=fun a ha=>by have:=ha.2;cases this
 have C0:Ring Tryd.prog (KC (ScZ zn) (fun _=>undef)) (StillC (ScZ zn)) B (fun g=>g=0) (fun _=>none) 0 T gs w q:=ring_begin (fun x hx=>by obtain ⟨a,_,h⟩:=hx;exact absurd h (hno a)) A.left hP (fun a ha=>absurd ha (hno a))
 obtain ⟨N1,gs1,a1,w1,sl1,T1,q1,B1,r1,z1,h1,hs1,⟨hB1,hB1b,hB1c⟩,C1⟩:=hold_goes (Inb:=fun _=>none) (Mem:=fun g=>g=0) (h:=0) (fun w d h=>kc_at w d h) (dh_of_dt (fun i s c e=>by cases e)) hG gs sl T q B hg C0
 obtain ⟨hL,hP'⟩:=ring_end C1 rfl (fun _ _=>rfl)
 exact ⟨N1,gs1,a1,w1,sl1,T1,q1,r1,z1,h1,hs1,hL,B1,by omega,hP'⟩
noncomputable def B20:Code:=Tryd.f60.body.getD .skip
noncomputable def a200:Code:=seq1 B20
noncomputable def a201:Code:=seq1 (seq2 B20)
noncomputable def a202:Code:=seq1 (seq2 (seq2 B20))
noncomputable def a203:Code:=seq1 (seq2 (seq2 (seq2 B20)))
theorem fine200:fineCode Tryd.prog true LT a200:=fineCode_ask callT extT (by kernel_rfl)
theorem fine201:fineCode Tryd.prog true LT a201:=fineCode_ask callT extT (by kernel_rfl)
theorem fine202:fineCode Tryd.prog true LT a202:=fineCode_ask callT extT (by kernel_rfl)
theorem fine203:fineCode Tryd.prog true LT a203:=fineCode_ask callT extT (by kernel_rfl)
theorem info40:(Tryd.prog.info? 31).map (fun i=>(i.zero,i.size,i.bytes))=some (some (.slice none 0 0),1,24):=by kernel_rfl
theorem info42:(Tryd.prog.info? 38).map (fun i=>(i.zero,i.size,i.bytes))=some (some (.agg #[I 0,I 0]),2,16):=by kernel_rfl
theorem mk27 (n:Nat) (hn:n≤8) (w:World) :
 (Instr.makeSlice 27 (.int .i64 (n:Int)) (.int .i64 (n:Int))).run Tryd.prog w=.ok (.slice (some ⟨w.heap.size,0,none⟩) n n) (w.alloc (.cells (madeCells #[.slice none 0 0] n) 31)):=by
 obtain ⟨i,hq,hz,hs,hb⟩:=info_parts info40
 have:=run_make (P:=Tryd.prog) w 27 31 i _ Tryd.underlying27 hq hz .i64 .i64 (n:Int) (n:Int) (by omega) (by omega) (by rw [hb];omega) (by omega)
 rw [hs] at this
 rw [this]
 simp [Value.cells]
theorem mk40 (n:Nat) (hn:n≤64) (w:World) :
 (Instr.makeSlice 31 (.int .i64 (n:Int)) (.int .i64 (n:Int))).run Tryd.prog w=.ok (.slice (some ⟨w.heap.size,0,none⟩) n n) (w.alloc (.cells (madeCells #[I 0,I 0] (n*2)) 38)):=by
 obtain ⟨i,hq,hz,hs,hb⟩:=info_parts info42
 have:=run_make (P:=Tryd.prog) w 31 38 i _ Tryd.underlying31 hq hz .i64 .i64 (n:Int) (n:Int) (by omega) (by omega) (by rw [hb];omega) (by omega)
 rw [hs] at this
 rw [this]
 simp [Value.cells]
theorem a201_wp (v:World) (wb p2 n:Nat) (p:Option Addr) (cap:Nat) (F:Value) (hn:n≤8) :
 a201.wp Tryd.prog (fun e a w'=>e=.normal∧a={ tmps:=#[Pt wb 0,.slice p n cap,F,undef,undef,Pt p2 0,.slice none 0 0,Pt (v.heap.size+1) 0,undef,undef,undef,.slice p n cap,I n,.slice (some ⟨v.heap.size,0,none⟩) n n]++Array.replicate 25 undef,defers:=[] }∧w'.heap=(v.heap.push (.cells (madeCells #[.slice none 0 0] n) 31)).push (.cells #[.slice (some ⟨v.heap.size,0,none⟩) n n] 27)∧w'.os=v.os∧w'.output=v.output)
  { tmps:=#[Pt wb 0,.slice p n cap,F,undef,undef,Pt p2 0,.slice none 0 0]++Array.replicate 32 undef,defers:=[] } v:=by
 have hmk:=mk27 n hn
 show Code.wp Tryd.prog (seq1 (seq2 (Tryd.f60.body.getD .skip))) _ _ _
 unfold Tryd.f60 seq1 seq2
 simp only [Option.getD_some,Array.replicate_succ,Array.replicate_zero,List.push_toArray,List.append_toArray,List.nil_append,List.cons_append]
 go_wp2_with fail
 exact ⟨rfl,rfl,rfl⟩
theorem info80:(Tryd.prog.info? 143).map (fun i=>(i.zero,i.size,i.bytes))=some (some .nilFunc,1,8):=by kernel_rfl
theorem mk78 (n:Nat) (hn:n≤8) (w:World) :
 (Instr.makeSlice 141 (.int .i64 (n:Int)) (.int .i64 (n:Int))).run Tryd.prog w=.ok (.slice (some ⟨w.heap.size,0,none⟩) n n) (w.alloc (.cells (madeCells #[.nilFunc] n) 143)):=by
 obtain ⟨i,hq,hz,hs,hb⟩:=info_parts info80
 have:=run_make (P:=Tryd.prog) w 141 143 i _ Tryd.underlying141 hq hz .i64 .i64 (n:Int) (n:Int) (by omega) (by omega) (by rw [hb];omega) (by omega)
 rw [hs] at this
 rw [this]
 simp [Value.cells]
theorem a200_wp (v:World) (wb n:Nat) (p:Option Addr) (cap:Nat) (fx:Nat) :
 a200.wp Tryd.prog (fun e a w'=>e=.normal∧a={ tmps:=#[Pt wb 0,.slice p n cap,.func (.func 0) #[] #[Pt fx 0],undef,undef,Pt v.heap.size 0,.slice none 0 0]++Array.replicate 32 undef,defers:=[] }∧w'.heap=v.heap.push (.cells #[.func (.func 0) #[] #[Pt fx 0]] 101)∧w'.os=v.os∧w'.output=v.output)
  { tmps:=#[Pt wb 0,.slice p n cap,.func (.func 0) #[] #[Pt fx 0]]++Array.replicate 36 undef,defers:=[] } v:=by
 show Code.wp Tryd.prog (seq1 (Tryd.f60.body.getD .skip)) _ _ _
 unfold Tryd.f60 seq1
 simp only [Option.getD_some,Array.replicate_succ,Array.replicate_zero,List.push_toArray,List.append_toArray,List.nil_append,List.cons_append]
 go_wp2_with fail
 exact ⟨rfl,rfl,rfl⟩
theorem a202_wp (v:World) (wb p2 p3 rr n:Nat) (p:Option Addr) (cap:Nat) (F:Value) (hn:n≤8) :
 a202.wp Tryd.prog (fun e a w'=>e=.normal∧a={ tmps:=#[Pt wb 0,.slice p n cap,F,undef,undef,Pt p2 0,.slice none 0 0,Pt p3 0,.slice (some ⟨v.heap.size,0,none⟩) n n,undef,undef,.slice p n cap,I n,.slice (some ⟨rr,0,none⟩) n n,.slice p n cap,I n,.slice (some ⟨v.heap.size,0,none⟩) n n]++Array.replicate 22 undef,defers:=[] }∧w'.heap=v.heap.push (.cells (madeCells #[.nilFunc] n) 143)∧w'.os=v.os∧w'.output=v.output)
  { tmps:=#[Pt wb 0,.slice p n cap,F,undef,undef,Pt p2 0,.slice none 0 0,Pt p3 0,undef,undef,undef,.slice p n cap,I n,.slice (some ⟨rr,0,none⟩) n n]++Array.replicate 25 undef,defers:=[] } v:=by
 have hmk:=mk78 n hn
 show Code.wp Tryd.prog (seq1 (seq2 (seq2 (Tryd.f60.body.getD .skip)))) _ _ _
 unfold Tryd.f60 seq1 seq2
 simp only [Option.getD_some,Array.replicate_succ,Array.replicate_zero,List.push_toArray,List.append_toArray,List.nil_append,List.cons_append]
 go_wp2_with fail
 exact ⟨rfl,rfl,rfl⟩
structure Laid (v:World) (n p2 p3 rr bb:Nat) (pc:Nat→Option Addr) (ln cp:Nat→Nat) (k:Nat) (u:World):Prop where
 size:u.heap.size=v.heap.size+3*k
 rrow:u.rowIs rr 31 n (fun j=>if j<k then .slice (some ⟨v.heap.size+3*j+2,0,none⟩) (ln j) (ln j) else .slice none 0 0)
 brow:u.rowIs bb 143 n (fun j=>if j<k then .func (.func 93) #[] #[Pt (v.heap.size+3*j+1) 0,Pt p2 0,Pt p3 0,Pt (v.heap.size+3*j) 0] else .nilFunc)
 blk:∀ j,j<k→u.heap[v.heap.size+3*j]? = some (.cells #[I j] 3)∧u.heap[v.heap.size+3*j+1]? = some (.cells #[.slice (pc j) (ln j) (cp j)] 33)∧u.heap[v.heap.size+3*j+2]? = some (.cells (madeCells #[I 0,I 0] (ln j*2)) 38)
 old:∀ b,b<v.heap.size→b≠rr→b≠bb→u.heap[b]? = v.heap[b]?
 os:u.os=v.os
 out:u.output=v.output
theorem laid_next {v wr W U:World} {n p2 p3 rr bb k:Nat} {pc:Nat→Option Addr} {ln cp:Nat→Nat} (h:Laid v n p2 p3 rr bb pc ln cp k wr) (hk:k<n) (hne:rr≠bb) (hW:W.heap=(wr.heap.push (.cells #[I k] 3)).push (.cells #[.slice (pc k) (ln k) (cp k)] 33)) (ho:W.os=wr.os) (hu:W.output=wr.output)
 (hU:U.heap=((((W.alloc (.cells (madeCells #[I 0,I 0] (ln k*2)) 38)).setCell ⟨rr,k,none⟩ (.slice (some ⟨W.heap.size,0,none⟩) (ln k) (ln k)))).setCell ⟨bb,k,none⟩ (.func (.func 93) #[] #[Pt (wr.heap.size+1) 0,Pt p2 0,Pt p3 0,Pt wr.heap.size 0])).heap) (hUo:U.os=W.os) (hUu:U.output=W.output):Laid v n p2 p3 rr bb pc ln cp (k+1) U:=by
 have hs:=h.size
 have lr:=h.rrow.lt
 have lb:=h.brow.lt
 have hWs:W.heap.size=wr.heap.size+2:=by rw [hW];simp
 have hold:∀ b,b<wr.heap.size→W.heap[b]? = wr.heap[b]?:=fun b hb=>by rw [hW,Array.getElem?_push,if_neg (by simp;omega),Array.getElem?_push,if_neg (by omega)]
 have hA:∀ b,b<W.heap.size→(W.alloc (.cells (madeCells #[I 0,I 0] (ln k*2)) 38)).heap[b]? = W.heap[b]?:=fun b hb=>by
  show (W.heap.push _)[b]? = _
  rw [Array.getElem?_push,if_neg (by omega)]
 have hUb:∀ b,b≠rr→b≠bb→U.heap[b]? = (W.alloc (.cells (madeCells #[I 0,I 0] (ln k*2)) 38)).heap[b]?:=fun b h1 h2=>by rw [hU,Below.heap_setCell _ _ _ _ h2,Below.heap_setCell _ _ _ _ h1]
 refine ⟨?_,?_,?_,fun j hj=>?_,fun b hb h1 h2=>?_,hUo.trans (ho.trans h.os),hUu.trans (hu.trans h.out)⟩
 ·rw [hU]
  show ((((W.alloc (.cells (madeCells #[I 0,I 0] (ln k*2)) 38)).setCell _ _).setCell _ _).heap).size=_
  simp only [World.setCell,Array.size_modify]
  show (W.heap.push _).size=_
  rw [Array.size_push];omega
 ·have r1:=((h.rrow.of_block (w':=(W.alloc (.cells (madeCells #[I 0,I 0] (ln k*2)) 38))) (by rw [hA rr (by omega),hold rr lr])).set k (.slice (some ⟨W.heap.size,0,none⟩) (ln k) (ln k))).setOther (a:=⟨bb,k,none⟩) hne (.func (.func 93) #[] #[Pt (wr.heap.size+1) 0,Pt p2 0,Pt p3 0,Pt wr.heap.size 0])
  refine (r1.of_block (by rw [hU])).congr fun i hi=>?_
  by_cases e:i=k
  ·subst e
   rw [if_pos rfl,if_pos (by omega),show v.heap.size+3*i+2=W.heap.size by omega]
  ·rw [if_neg e]
   by_cases hlt:i<k
   ·rw [if_pos hlt,if_pos (by omega)]
   ·rw [if_neg hlt,if_neg (by omega)]
 ·have r1:=((h.brow.of_block (w':=(W.alloc (.cells (madeCells #[I 0,I 0] (ln k*2)) 38))) (by rw [hA bb (by omega),hold bb lb])).setOther (a:=⟨rr,k,none⟩) (Ne.symm hne) (.slice (some ⟨W.heap.size,0,none⟩) (ln k) (ln k))).set k (.func (.func 93) #[] #[Pt (wr.heap.size+1) 0,Pt p2 0,Pt p3 0,Pt wr.heap.size 0])
  refine (r1.of_block (by rw [hU])).congr fun i hi=>?_
  by_cases e:i=k
  ·subst e
   rw [if_pos rfl,if_pos (by omega),hs]
  ·rw [if_neg e]
   by_cases hlt:i<k
   ·rw [if_pos hlt,if_pos (by omega)]
   ·rw [if_neg hlt,if_neg (by omega)]
 ·by_cases e:j=k
  ·subst e
   rw [←hs]
   refine ⟨?_,?_,?_⟩
   ·rw [hUb _ (by omega) (by omega),hA _ (by omega),hW,Array.getElem?_push,if_neg (by simp),Array.getElem?_push,if_pos rfl]
   ·rw [hUb _ (by omega) (by omega),hA _ (by omega),hW,Array.getElem?_push,if_pos (by simp)]
   ·rw [hUb _ (by omega) (by omega)]
    show (W.heap.push _)[wr.heap.size+2]? = _
    rw [←hWs]
    exact Array.getElem?_push_size
  ·have hj':j<k:=by omega
   obtain ⟨q1,q2,q3⟩:=h.blk j hj'
   have hne1:∀ b x,wr.heap[b]? = some x→(∃ c,x=.cells c 3 (0,0))∨(∃ c,x=.cells c 33 (0,0))∨(∃ c,x=.cells c 38 (0,0))→b≠rr∧b≠bb:=fun b x hb hx=>by
    obtain ⟨c1,r1,_⟩:=h.rrow
    obtain ⟨c2,r2,_⟩:=h.brow
    refine ⟨fun e=>?_,fun e=>?_⟩<;>subst e
    ·rw [r1] at hb;cases hb;rcases hx with ⟨c,hx⟩|⟨c,hx⟩|⟨c,hx⟩<;>cases hx
    ·rw [r2] at hb;cases hb;rcases hx with ⟨c,hx⟩|⟨c,hx⟩|⟨c,hx⟩<;>cases hx
   have n1:=hne1 _ _ q1 (.inl ⟨_,rfl⟩)
   have n2:=hne1 _ _ q2 (.inr (.inl ⟨_,rfl⟩))
   have n3:=hne1 _ _ q3 (.inr (.inr ⟨_,rfl⟩))
   refine ⟨?_,?_,?_⟩
   ·rw [hUb _ n1.1 n1.2,hA _ (by omega),hold _ (by omega)];exact q1
   ·rw [hUb _ n2.1 n2.2,hA _ (by omega),hold _ (by omega)];exact q2
   ·rw [hUb _ n3.1 n3.2,hA _ (by omega),hold _ (by omega)];exact q3
 ·rw [hUb b h1 h2,hA b (by omega),hold b (by omega)]
  exact h.old b hb h1 h2
theorem a203_wp (v:World) (wb p2 p3 rr bb sb so n:Nat) (cap:Nat) (F:Value) (hn:n≤8) (pc:Nat→Option Addr) (ln cp:Nat→Nat) (hln:∀ k,k<n→ln k≤64) (hs:∀ k,k<n→v.cell? ⟨sb,so+k,none⟩=some (.slice (pc k) (ln k) (cp k)))
 (hrr:v.rowIs rr 31 n (fun _=>.slice none 0 0)) (hbb:v.rowIs bb 143 n (fun _=>.nilFunc)) (h3:v.cell? ⟨p3,0,none⟩=some (.slice (some ⟨rr,0,none⟩) n n)) (hne:rr≠bb∧rr≠sb∧bb≠sb∧p3≠rr∧p3≠bb) :
 a203.wp Tryd.prog (fun e a w'=>e=.normal∧(∃ u:Nat→Value,a={ tmps:=#[Pt wb 0,.slice (some ⟨sb,so,none⟩) n cap,F,undef,undef,Pt p2 0,.slice none 0 0,Pt p3 0,.slice (some ⟨bb,0,none⟩) n n,u 9,u 10,u 11,u 12,u 13,u 14,u 15,u 16,u 17,u 18,u 19,u 20,u 21,u 22,u 23,u 24,u 25,u 26,u 27,u 28,u 29,u 30,u 31,u 32,u 33,u 34,u 35,u 36,u 37,u 38],defers:=[] })∧Laid v n p2 p3 rr bb pc ln cp n w')
  { tmps:=#[Pt wb 0,.slice (some ⟨sb,so,none⟩) n cap,F,undef,undef,Pt p2 0,.slice none 0 0,Pt p3 0,.slice (some ⟨bb,0,none⟩) n n,undef,undef,.slice (some ⟨sb,so,none⟩) n cap,I n,.slice (some ⟨rr,0,none⟩) n n,.slice (some ⟨sb,so,none⟩) n cap,I n,.slice (some ⟨bb,0,none⟩) n n]++Array.replicate 22 undef,defers:=[] } v:=by
 show Code.wp Tryd.prog (seq1 (seq2 (seq2 (seq2 (Tryd.f60.body.getD .skip))))) _ _ _
 unfold Tryd.f60 seq1 seq2
 simp only [Option.getD_some,Array.replicate_succ,Array.replicate_zero,List.push_toArray,List.append_toArray,List.nil_append,List.cons_append]
 have HS:Hid (∀ k,k<n→v.cell? ⟨sb,so+k,none⟩=some (.slice (pc k) (ln k) (cp k))):=⟨hs⟩
 have HLn:Hid (∀ k,k<n→ln k≤64):=⟨hln⟩
 have H0:Hid (Laid v n p2 p3 rr bb pc ln cp 0 v):=⟨⟨rfl,hrr.congr fun i _=>by simp,hbb.congr fun i _=>by simp,fun j hj=>by omega,fun _ _ _ _=>rfl,rfl,rfl⟩⟩
 have H3:Hid (v.cell? ⟨p3,0,none⟩=some (.slice (some ⟨rr,0,none⟩) n n)):=⟨h3⟩
 clear hs hln hrr hbb h3
 go_wp2_with fail
 go_loopw [19] (fun i u=>∃ k:Nat,k≤n∧i=.int .i64 k∧Laid v n p2 p3 rr bb pc ln cp k u) (fun i _=>n - (intOf i).toNat)
 case atStart=>exact ⟨0,Nat.zero_le _,rfl,H0.out⟩
 case round =>
  obtain ⟨k,hk,rfl,hL⟩:=hrel
  have HL:Hid (Laid v n p2 p3 rr bb pc ln cp k wr):=⟨hL⟩
  by_cases hlt:k<n
  ·have hsk:wr.cell? ⟨sb,so+k,none⟩=some (.slice (pc k) (ln k) (cp k)):=by
    have:=HS.out k hlt
    rw [World.cell?_of_block (hL.old sb (World.block_lt_of_cell? _ _ this) (Ne.symm hne.2.1) (Ne.symm hne.2.2.1))]
    exact this
   have h3k:wr.cell? ⟨p3,0,none⟩=some (.slice (some ⟨rr,0,none⟩) n n):=by
    rw [World.cell?_of_block (hL.old p3 (World.block_lt_of_cell? _ _ H3.out) hne.2.2.2.1 hne.2.2.2.2)]
    exact H3.out
   have hmk:=mk40 (ln k) (HLn.out k hlt)
   have hlt':(k:Int)<(n:Int):=by omega
   have r0:wr.cell? ⟨rr,k,none⟩=some (.slice none 0 0):=by rw [hL.rrow.cell hlt];simp
   have r1:wr.frozen? ⟨rr,k,none⟩=false:=hL.rrow.frozen k
   have b0:wr.cell? ⟨bb,k,none⟩=some .nilFunc:=by rw [hL.brow.cell hlt];simp
   have b1:wr.frozen? ⟨bb,k,none⟩=false:=hL.brow.frozen k
   have lr:=hL.rrow.lt
   have lb:=hL.brow.lt
   have l3:p3<wr.heap.size:=World.block_lt_of_cell? _ _ h3k
   have HW:Hid ((fun W:World=>W.heap=(wr.heap.push (.cells #[I k] 3)).push (.cells #[.slice (pc k) (ln k) (cp k)] 33)∧W.os=wr.os∧W.output=wr.output∧W.cell? ⟨p3,0,none⟩=some (.slice (some ⟨rr,0,none⟩) n n)∧W.cell? ⟨wr.heap.size,0,none⟩=some (I k)∧W.cell? ⟨wr.heap.size+1,0,none⟩=some (.slice (pc k) (ln k) (cp k))∧W.cell? ⟨rr,k,none⟩=some (.slice none 0 0)∧W.frozen? ⟨rr,k,none⟩=false∧W.cell? ⟨bb,k,none⟩=some .nilFunc∧W.frozen? ⟨bb,k,none⟩=false∧W.heap.size=wr.heap.size+2) ((wr.alloc (.cells #[I k] 3)).alloc (.cells #[.slice (pc k) (ln k) (cp k)] 33))):=⟨by
    have ho:∀ b,b<wr.heap.size→((wr.alloc (.cells #[I k] 3)).alloc (.cells #[.slice (pc k) (ln k) (cp k)] 33)).heap[b]? = wr.heap[b]?:=fun b hb=>by
     show ((wr.heap.push _).push _)[b]? = _
     rw [Array.getElem?_push,if_neg (by simp;omega),Array.getElem?_push,if_neg (by omega)]
    have hN:((wr.alloc (.cells #[I k] 3)).alloc (.cells #[.slice (pc k) (ln k) (cp k)] 33)).heap[wr.heap.size]? = some (.cells #[I k] 3):=by
     show ((wr.heap.push _).push _)[wr.heap.size]? = _
     rw [Array.getElem?_push,if_neg (by simp),Array.getElem?_push,if_pos rfl]
    have hN1:((wr.alloc (.cells #[I k] 3)).alloc (.cells #[.slice (pc k) (ln k) (cp k)] 33)).heap[wr.heap.size+1]? = some (.cells #[.slice (pc k) (ln k) (cp k)] 33):=by
     show ((wr.heap.push _).push _)[wr.heap.size+1]? = _
     rw [Array.getElem?_push,if_pos (by simp)]
    refine ⟨rfl,rfl,rfl,?_,by unfold World.cell?;rw [hN];rfl,by unfold World.cell?;rw [hN1];rfl,?_,?_,?_,?_,by show ((wr.heap.push _).push _).size=_;simp⟩
    ·rw [World.cell?_of_block (ho p3 l3)];exact h3k
    ·rw [World.cell?_of_block (ho rr lr)];exact r0
    ·rw [World.frozen?_of_block (ho rr lr)];exact r1
    ·rw [World.cell?_of_block (ho bb lb)];exact b0
    ·rw [World.frozen?_of_block (ho bb lb)];exact b1⟩
   have e9:rr≠bb:=hne.1
   have e10:bb≠rr:=fun e=>hne.1 e.symm
   have Hl:Hid (rr<wr.heap.size∧bb<wr.heap.size∧p3<wr.heap.size):=⟨⟨lr,lb,l3⟩⟩
   clear hL lr lb l3 r0 r1 b0 b1 h3k
   go_wp2_with fail
   refine (show ∀ W:World,(W.heap=(wr.heap.push (.cells #[I k] 3)).push (.cells #[.slice (pc k) (ln k) (cp k)] 33)∧W.os=wr.os∧W.output=wr.output∧W.cell? ⟨p3,0,none⟩=some (.slice (some ⟨rr,0,none⟩) n n)∧W.cell? ⟨wr.heap.size,0,none⟩=some (I k)∧W.cell? ⟨wr.heap.size+1,0,none⟩=some (.slice (pc k) (ln k) (cp k))∧W.cell? ⟨rr,k,none⟩=some (.slice none 0 0)∧W.frozen? ⟨rr,k,none⟩=false∧W.cell? ⟨bb,k,none⟩=some .nilFunc∧W.frozen? ⟨bb,k,none⟩=false∧W.heap.size=wr.heap.size+2)→Code.wp Tryd.prog _ _ _ W from fun W hW=>?_) _ HW.out
   clear hsk
   obtain ⟨hWh,hWo,hWu,g3,g0,g1,gr,gf,gb,gbf,hWs⟩:=hW
   have HH:Hid (W.heap=(wr.heap.push (.cells #[I k] 3)).push (.cells #[.slice (pc k) (ln k) (cp k)] 33)∧W.os=wr.os∧W.output=wr.output∧W.heap.size=wr.heap.size+2):=⟨⟨hWh,hWo,hWu,hWs⟩⟩
   have x1:p3≠W.heap.size:=by have:=Hl.out;omega
   have x2:rr≠W.heap.size:=by have:=Hl.out;omega
   have x3:bb≠W.heap.size:=by have:=Hl.out;omega
   have x4:wr.heap.size≠W.heap.size:=by omega
   have x5:wr.heap.size+1≠W.heap.size:=by omega
   have hA:∀ b,b<W.heap.size→(W.alloc (.cells (madeCells #[I 0,I 0] (ln k*2)) 38)).heap[b]? = W.heap[b]?:=fun b hb=>by
    show (W.heap.push _)[b]? = _
    rw [Array.getElem?_push,if_neg (by omega)]
   have lA:p3<W.heap.size∧rr<W.heap.size∧bb<W.heap.size:=by have:=Hl.out;omega
   have a3:(W.alloc (.cells (madeCells #[I 0,I 0] (ln k*2)) 38)).cell? ⟨p3,0,none⟩=some (.slice (some ⟨rr,0,none⟩) n n):=by rw [World.cell?_of_block (hA p3 lA.1)];exact g3
   have a0:(W.alloc (.cells (madeCells #[I 0,I 0] (ln k*2)) 38)).cell? ⟨wr.heap.size,0,none⟩=some (I k):=by rw [World.cell?_of_block (hA wr.heap.size (by omega))];exact g0
   have a1:(W.alloc (.cells (madeCells #[I 0,I 0] (ln k*2)) 38)).cell? ⟨wr.heap.size+1,0,none⟩=some (.slice (pc k) (ln k) (cp k)):=by rw [World.cell?_of_block (hA (wr.heap.size+1) (by omega))];exact g1
   have ar:(W.alloc (.cells (madeCells #[I 0,I 0] (ln k*2)) 38)).cell? ⟨rr,k,none⟩=some (.slice none 0 0):=by rw [World.cell?_of_block (hA rr lA.2.1)];exact gr
   have af:(W.alloc (.cells (madeCells #[I 0,I 0] (ln k*2)) 38)).frozen? ⟨rr,k,none⟩=false:=by rw [World.frozen?_of_block (hA rr lA.2.1)];exact gf
   have hZ:∀ b,b<W.heap.size→b≠rr→((W.alloc (.cells (madeCells #[I 0,I 0] (ln k*2)) 38)).setCell ⟨rr,k,none⟩ (.slice (some ⟨W.heap.size,0,none⟩) (ln k) (ln k))).heap[b]? = W.heap[b]?:=fun b hb hb2=>by rw [Below.heap_setCell _ _ _ _ hb2,hA b hb]
   have z0:((W.alloc (.cells (madeCells #[I 0,I 0] (ln k*2)) 38)).setCell ⟨rr,k,none⟩ (.slice (some ⟨W.heap.size,0,none⟩) (ln k) (ln k))).cell? ⟨wr.heap.size,0,none⟩=some (I k):=by rw [World.cell?_of_block (hZ wr.heap.size (by omega) (by have:=Hl.out;omega))];exact g0
   have zb:((W.alloc (.cells (madeCells #[I 0,I 0] (ln k*2)) 38)).setCell ⟨rr,k,none⟩ (.slice (some ⟨W.heap.size,0,none⟩) (ln k) (ln k))).cell? ⟨bb,k,none⟩=some .nilFunc:=by rw [World.cell?_of_block (hZ bb lA.2.2 e10)];exact gb
   have zf:((W.alloc (.cells (madeCells #[I 0,I 0] (ln k*2)) 38)).setCell ⟨rr,k,none⟩ (.slice (some ⟨W.heap.size,0,none⟩) (ln k) (ln k))).frozen? ⟨bb,k,none⟩=false:=by rw [World.frozen?_of_block (hZ bb lA.2.2 e10)];exact gbf
   have hst:(store ⟨bb,k,none⟩ (.func (.func 93) #[] #[Pt (wr.heap.size+1) 0,Pt p2 0,Pt p3 0,Pt wr.heap.size 0])).run Tryd.prog ((W.alloc (.cells (madeCells #[I 0,I 0] (ln k*2)) 38)).setCell ⟨rr,k,none⟩ (.slice (some ⟨W.heap.size,0,none⟩) (ln k) (ln k))).drew=.ok () (((W.alloc (.cells (madeCells #[I 0,I 0] (ln k*2)) 38)).setCell ⟨rr,k,none⟩ (.slice (some ⟨W.heap.size,0,none⟩) (ln k) (ln k))).setCell ⟨bb,k,none⟩ (.func (.func 93) #[] #[Pt (wr.heap.size+1) 0,Pt p2 0,Pt p3 0,Pt wr.heap.size 0])).drew:=by
    have zb':((W.alloc (.cells (madeCells #[I 0,I 0] (ln k*2)) 38)).setCell ⟨rr,k,none⟩ (.slice (some ⟨W.heap.size,0,none⟩) (ln k) (ln k))).drew.cell? ⟨bb,k,none⟩=some .nilFunc:=zb
    have zf':((W.alloc (.cells (madeCells #[I 0,I 0] (ln k*2)) 38)).setCell ⟨rr,k,none⟩ (.slice (some ⟨W.heap.size,0,none⟩) (ln k) (ln k))).drew.frozen? ⟨bb,k,none⟩=false:=zf
    show Sem.run Tryd.prog (Sem.store .plain _ _ (Sem.pure ())) _=_
    simp only [Sem.run,zb',zf',Bool.false_eq_true,if_false]
    rfl
   clear hWh hWo hWu hWs hA lA hZ
   go_region
   go_wp2_with fail
   go_roundw
   case rel =>
    refine ⟨k+1,by omega,by go_num,?_⟩
    exact laid_next HL.out hlt e9 HH.out.1 HH.out.2.1 HH.out.2.2.1 rfl rfl rfl
   case measure=>simp [intOf];omega
  ·have hkk:k=n:=by omega
   subst hkk
   clear hL
   go_wp2_with fail
   exact ⟨⟨fun m=>match m with|9=>u9|10=>u10|11=>.slice (some ⟨sb,so,none⟩) k cap|12=>I k|13=>.slice (some ⟨rr,0,none⟩) k k|14=>.slice (some ⟨sb,so,none⟩) k cap|15=>I k|16=>.slice (some ⟨bb,0,none⟩) k k|17=>.slice (some ⟨sb,so,none⟩) k cap|18=>I k|19=>I k|20=>.bool false|21=>u21|22=>u22|23=>u23|24=>u24|25=>u25|26=>u26|27=>u27|28=>u28|29=>u29|30=>u30|31=>u31|32=>u32|33=>u33|34=>u34|_=>undef,by simp⟩,HL.out⟩
structure Set20 (v:World) (xb n:Nat) (pc:Nat→Option Addr) (ln cp:Nat→Nat) (u:World):Prop where
 size:u.heap.size=v.heap.size+4+3*n
 p2:u.heap[v.heap.size]? = some (.cells #[.func (.func 0) #[] #[Pt xb 0]] 101)
 rrow:u.rowIs (v.heap.size+1) 31 n (fun j=>.slice (some ⟨v.heap.size+4+3*j+2,0,none⟩) (ln j) (ln j))
 p3:u.heap[v.heap.size+2]? = some (.cells #[.slice (some ⟨v.heap.size+1,0,none⟩) n n] 27)
 brow:u.rowIs (v.heap.size+3) 143 n (fun j=>.func (.func 93) #[] #[Pt (v.heap.size+4+3*j+1) 0,Pt v.heap.size 0,Pt (v.heap.size+2) 0,Pt (v.heap.size+4+3*j) 0])
 blk:∀ j,j<n→u.heap[v.heap.size+4+3*j]? = some (.cells #[I j] 3)∧u.heap[v.heap.size+4+3*j+1]? = some (.cells #[.slice (pc j) (ln j) (cp j)] 33)∧u.heap[v.heap.size+4+3*j+2]? = some (.cells (madeCells #[I 0,I 0] (ln j*2)) 38)
 old:∀ b,b<v.heap.size→u.heap[b]? = v.heap[b]?
 os:u.os=v.os
 out:u.output=v.output
noncomputable def R20:Code:=seq2 (seq2 (seq2 (seq2 B20)))
theorem eB20:B20=.seq a200 (.seq a201 (.seq a202 (.seq a203 R20))):=by kernel_rfl
theorem run20_in {Ch:Nat→Prop} {Stop:Goroutine→World→Prop} {main:Bool} {v w:World} (wb xb sb so n cap:Nat) (hn8:n≤8) (pc:Nat→Option Addr) (ln cp:Nat→Nat) (hln:∀ k,k<n→ln k≤64) (hs:∀ k,k<n→v.cell? ⟨sb,so+k,none⟩=some (.slice (pc k) (ln k) (cp k))) (cs:List Frame) {bc:Frame} {ac:Act} {ops:Array Oper} {q:Nat} {rest:List Nat} {oc:Oper} {k:List Item} (hoc:ops[q]? = some oc)
 (hsb:sb<v.heap.size) (hvw:Rel zn v w) (hn:NoRow Ch v)
 (hk:∀ v' w' (bd:Frame) (ad:Act) (od:Array Oper) (qd:Nat) (rd:List Nat) (oe:Oper) (kd:List Item),Rel zn v' w'→NoRow Ch v'→Set20 v xb n pc ln cp v'→od[qd]? = some oe →
   (∀ (Ch:Nat→Prop) (Stop:Goroutine→World→Prop) (w:World) (x:Value),w.cell? ⟨v.heap.size+2,0,none⟩=some x→(∀ d,GoesI Tryd.prog main (DT (ScZ zn) Ch) Stop (G (bc.at (ac.put oc.dst x) (.inRegion ops rest :: k)) cs) (w.at d))→GoesI Tryd.prog main (DT (ScZ zn) Ch) Stop (G (bd.at (ad.put oe.dst (.tuple #[])) (.inRegion od rd :: kd)) (bc.at ac (.inRegion ops (q :: rest) :: k) :: cs)) w) →
   GoesI Tryd.prog main (DT (ScZ zn) Ch) Stop (G ((base 95).at { tmps:=#[Pt wb 0,.slice (some ⟨v.heap.size+3,0,none⟩) n n]++Array.replicate 60 undef,defers:=[] } [.code B35]) (bd.at ad (.inRegion od (qd :: rd) :: kd) :: bc.at ac (.inRegion ops (q :: rest) :: k) :: cs)) w') :
 GoesI Tryd.prog main (DT (ScZ zn) Ch) Stop (G ((base 60).at { tmps:=#[Pt wb 0,.slice (some ⟨sb,so,none⟩) n cap,.func (.func 0) #[] #[Pt xb 0]]++Array.replicate 36 undef,defers:=[] } [.code B20]) (bc.at ac (.inRegion ops (q :: rest) :: k) :: cs)) w:=by
 rw [eB20]
 refine goesI_seq (dt_idle _ _) ?_
 refine goesI_plain (z:=zn) (wr:=true) (L:=LT) (I:=NoRow Ch) hE fineT noRow_keeps (fun v v' w w' es hi hr ho he=>dt_of_z v v' w w' es hi hr ho he) hvw fine200 rfl (by simp [base]) hn
  (Q:=fun a w'=>a={ tmps:=#[Pt wb 0,.slice (some ⟨sb,so,none⟩) n cap,.func (.func 0) #[] #[Pt xb 0],undef,undef,Pt v.heap.size 0,.slice none 0 0]++Array.replicate 32 undef,defers:=[] }∧w'.heap=v.heap.push (.cells #[.func (.func 0) #[] #[Pt xb 0]] 101)∧w'.os=v.os∧w'.output=v.output) (fun τ=>a200_wp (onTape v τ 0) wb n (some ⟨sb,so,none⟩) cap xb) ?_
 rintro a1 v1 w1 ⟨rfl,e1,o1,u1⟩ hr1 hn1 -
 have s1:v1.heap.size=v.heap.size+1:=by rw [e1];simp
 refine goesI_seq (dt_idle _ _) ?_
 refine goesI_plain (z:=zn) (wr:=true) (L:=LT) (I:=NoRow Ch) hE fineT noRow_keeps (fun v v' w w' es hi hr ho he=>dt_of_z v v' w w' es hi hr ho he) hr1 fine201 rfl (by simp [base]) hn1
  (Q:=fun a w'=>a={ tmps:=#[Pt wb 0,.slice (some ⟨sb,so,none⟩) n cap,.func (.func 0) #[] #[Pt xb 0],undef,undef,Pt v.heap.size 0,.slice none 0 0,Pt (v1.heap.size+1) 0,undef,undef,undef,.slice (some ⟨sb,so,none⟩) n cap,I n,.slice (some ⟨v1.heap.size,0,none⟩) n n]++Array.replicate 25 undef,defers:=[] }∧w'.heap=(v1.heap.push (.cells (madeCells #[.slice none 0 0] n) 31)).push (.cells #[.slice (some ⟨v1.heap.size,0,none⟩) n n] 27)∧w'.os=v1.os∧w'.output=v1.output) (fun τ=>a201_wp (onTape v1 τ 0) wb v.heap.size n (some ⟨sb,so,none⟩) cap _ hn8) ?_
 rintro a2 v2 w2 ⟨rfl,e2,o2,u2⟩ hr2 hn2 -
 have s2:v2.heap.size=v.heap.size+3:=by rw [e2];simp;omega
 refine goesI_seq (dt_idle _ _) ?_
 refine goesI_plain (z:=zn) (wr:=true) (L:=LT) (I:=NoRow Ch) hE fineT noRow_keeps (fun v v' w w' es hi hr ho he=>dt_of_z v v' w w' es hi hr ho he) hr2 fine202 rfl (by simp [base]) hn2
  (Q:=fun a w'=>a={ tmps:=#[Pt wb 0,.slice (some ⟨sb,so,none⟩) n cap,.func (.func 0) #[] #[Pt xb 0],undef,undef,Pt v.heap.size 0,.slice none 0 0,Pt (v1.heap.size+1) 0,.slice (some ⟨v2.heap.size,0,none⟩) n n,undef,undef,.slice (some ⟨sb,so,none⟩) n cap,I n,.slice (some ⟨v1.heap.size,0,none⟩) n n,.slice (some ⟨sb,so,none⟩) n cap,I n,.slice (some ⟨v2.heap.size,0,none⟩) n n]++Array.replicate 22 undef,defers:=[] }∧w'.heap=v2.heap.push (.cells (madeCells #[.nilFunc] n) 143)∧w'.os=v2.os∧w'.output=v2.output) (fun τ=>a202_wp (onTape v2 τ 0) wb v.heap.size (v1.heap.size+1) v1.heap.size n (some ⟨sb,so,none⟩) cap _ hn8) ?_
 rintro a3 v3 w3 ⟨rfl,e3,o3,u3⟩ hr3 hn3 -
 have s3:v3.heap.size=v.heap.size+4:=by rw [e3];simp;omega
 have k1:∀ b,b<v.heap.size→v1.heap[b]? = v.heap[b]?:=fun b hb=>by rw [e1,Array.getElem?_push,if_neg (by omega)]
 have k2:∀ b,b<v.heap.size+1→v2.heap[b]? = v1.heap[b]?:=fun b hb=>by rw [e2,Array.getElem?_push,if_neg (by simp;omega),Array.getElem?_push,if_neg (by omega)]
 have k3:∀ b,b<v.heap.size+3→v3.heap[b]? = v2.heap[b]?:=fun b hb=>by rw [e3,Array.getElem?_push,if_neg (by omega)]
 have f0:v3.heap[v.heap.size]? = some (.cells #[.func (.func 0) #[] #[Pt xb 0]] 101):=by rw [k3 _ (by omega),k2 _ (by omega),e1];exact Array.getElem?_push_size
 have f1:v3.heap[v.heap.size+1]? = some (.cells (madeCells #[.slice none 0 0] n) 31):=by rw [k3 _ (by omega),e2,Array.getElem?_push,if_neg (by simp;omega),Array.getElem?_push,if_pos (by omega)]
 have f2:v3.heap[v.heap.size+2]? = some (.cells #[.slice (some ⟨v.heap.size+1,0,none⟩) n n] 27):=by rw [k3 _ (by omega),e2,Array.getElem?_push,if_pos (by simp;omega),s1]
 have f3:v3.heap[v.heap.size+3]? = some (.cells (madeCells #[.nilFunc] n) 143):=by rw [e3,Array.getElem?_push,if_pos (by omega)]
 have ko:∀ b,b<v.heap.size→v3.heap[b]? = v.heap[b]?:=fun b hb=>by rw [k3 b (by omega),k2 b (by omega),k1 b hb]
 refine goesI_seq (dt_idle _ _) ?_
 rw [s1,s2]
 refine goesI_plain (z:=zn) (wr:=true) (L:=LT) (I:=NoRow Ch) hE fineT noRow_keeps (fun v v' w w' es hi hr ho he=>dt_of_z v v' w w' es hi hr ho he) hr3 fine203 rfl (by simp [base]) hn3
  (Q:=fun a w'=>(∃ u:Nat→Value,a={ tmps:=#[Pt wb 0,.slice (some ⟨sb,so,none⟩) n cap,.func (.func 0) #[] #[Pt xb 0],undef,undef,Pt v.heap.size 0,.slice none 0 0,Pt (v.heap.size+1+1) 0,.slice (some ⟨v.heap.size+3,0,none⟩) n n,u 9,u 10,u 11,u 12,u 13,u 14,u 15,u 16,u 17,u 18,u 19,u 20,u 21,u 22,u 23,u 24,u 25,u 26,u 27,u 28,u 29,u 30,u 31,u 32,u 33,u 34,u 35,u 36,u 37,u 38],defers:=[] })∧Laid v3 n v.heap.size (v.heap.size+1+1) (v.heap.size+1) (v.heap.size+3) pc ln cp n w') (fun τ=>?_) ?_
 ·refine wp_mono (a203_wp (onTape v3 τ 0) wb v.heap.size (v.heap.size+1+1) (v.heap.size+1) (v.heap.size+3) sb so n cap _ hn8 pc ln cp hln (fun k hk=>?_) ?_ ?_ ?_ ⟨by omega,by omega,by omega,by omega,by omega⟩) (fun e a w' hq=>⟨hq.1,hq.2.1,?_⟩)
  ·show v3.cell? _=_
   rw [World.cell?_of_block (w:=v) (w':=v3) (ko sb hsb)]
   exact hs k hk
  ·exact ⟨_,f1,size_madeCells _ _,fun i hi=>by simp [madeCells,hi,Nat.mod_one]⟩
  ·exact ⟨_,f3,size_madeCells _ _,fun i hi=>by simp [madeCells,hi,Nat.mod_one]⟩
  ·show v3.cell? _=_
   unfold World.cell?
   rw [show (⟨v.heap.size+1+1,0,none⟩:Addr).block=v.heap.size+2 from rfl,f2]
   rfl
  ·have:=hq.2.2
   exact ⟨this.size,this.rrow,this.brow,this.blk,this.old,this.os,this.out⟩
 rintro a4 v4 w4 ⟨⟨u,rfl⟩,hL⟩ hr4 hn4 -
 have hset:Set20 v xb n pc ln cp v4:=by
  refine ⟨by rw [hL.size,s3],by rw [hL.old _ (by omega) (by omega) (by omega)];exact f0,hL.rrow.congr fun i hi=>by rw [if_pos hi,s3],by rw [hL.old _ (by omega) (by omega) (by omega)];exact f2,hL.brow.congr fun i hi=>by rw [if_pos hi,s3],fun j hj=>by have:=hL.blk j hj;rw [s3] at this;exact this,fun b hb=>by rw [hL.old b (by omega) (by omega) (by omega)];exact ko b hb,by rw [hL.os,o3,o2,o1],by rw [hL.out,u3,u2,u1]⟩
 clear hL hr1 hr2 hr3 hn1 hn2 hn3 e1 e2 e3 o1 o2 o3 u1 u2 u3 k1 k2 k3 f0 f1 f2 f3 ko hvw hn hs hln s1 s2 s3
 unfold R20 B20 Tryd.f60 seq2
 simp only [Option.getD_some]
 refine goesI_seq (dt_idle _ _) ?_
 refine goesI_region (dt_idle _ _) ?_
 simp only [List.size_toArray,List.length_cons,List.length_nil,Nat.reduceAdd,Nat.zero_add,List.range,List.range.loop]
 iterate 2
  (refine goesI_oper rfl rfl (by decide) (fun d K hK=>?_)
   go_simp
   refine hK _ _ ⟨dt_reads (fun e he=>?_),GoesI.at ?_ d⟩
   ·have hm:=mem_listed he
    simp [go_sem, *] at hm
    try exact ⟨_,_,hm⟩
   clear hK K)
 refine goesI_into (f:=95) (fn:=Tryd.f95) (args:=#[Pt wb 0,.slice (some ⟨v.heap.size+3,0,none⟩) n n]) (dt_idle _ _) rfl rfl (by decide) rfl (by simp [Act.eval]) Tryd.func95 (by decide) rfl ?_
 refine hk v4 w4 _ _ _ _ _ _ _ hr4 hn4 hset rfl (fun Ch Stop w x hx hg=>?_)
 clear hk hset hr4 hn4
 refine goesI_regionEnd (dt_idle _ _) ?_
 refine goesI_seq (dt_idle _ _) ?_
 refine goesI_region (dt_idle _ _) ?_
 simp only [List.size_toArray,List.length_cons,List.length_nil,Nat.reduceAdd,Nat.zero_add,List.range,List.range.loop]
 have hx':w.cell? ⟨v.heap.size+1+1,0,none⟩=some x:=hx
 iterate 2
  (refine goesI_oper rfl rfl (by decide) (fun d K hK=>?_)
   go_simp
   refine hK _ _ ⟨dt_reads (fun e he=>?_),GoesI.at ?_ d⟩
   ·have hm:=mem_listed he
    simp [go_sem, *] at hm
    try exact ⟨_,_,hm⟩
   clear hK K)
 refine goesI_regionEnd (dt_idle _ _) ?_
 refine GoesI.ctl rfl (fun _=>stepG_ret') (dt_idle _ _) ?_
 refine goesI_leave (b:=base 60) (fn:=Tryd.f60) (v:=x) rfl rfl Tryd.func60 (fun w=>?_) (fun w=>by simp [results,go_sem,Tryd.f60]) hoc (dt_idle _ _) ?_
 ·rw [results_tmp (t:=6) rfl]
  simp
 ·have:=hg w.drawn
  exact this
end Go.Proofs.YtfjjoohflcchnaaDoor
