/- Of the proof of CounterTimes. Part 9 of 31. (Joined, by program, and written short, of: Hire3, Main35, GDrive1, GDrive2, GDrive3.) -/
import Derived.Test.YtfjjoohflcchnaaDoorCounterTimes08
set_option linter.unusedSimpArgs false
set_option linter.unusedVariables false
set_option maxHeartbeats 4000000
set_option maxRecDepth 100000
namespace Go.Lift
open Go.Conc
theorem hire_at {P:Program} {K:World→Prop} {Still:Loc→Prop} {h:Nat} {o:Option Seat} {F:Goroutine→World→Prop} {b:Frame} {a:Act} {kk:List Item} {cs:List Frame} {ops:Array Oper} {i:Nat} {rest:List Nat} {op:Oper} {w:World} {d:Deferred} {f:Fn} {c:Array Value} (nh B₀:Nat)
 (ho:ops[i]? = some op) (hw:Region.wanted op (yielded ops a.tmps)=true) (hk:b.kind≠.early) (hr:∀ w,(execOp a.eval op).run P w=.ok (.spawn d) w) (hd:d.target=.fn f c) (he:∀ w,(execOp a.eval op).events P w #[]=#[]) (hF:F (born P d) w) (hB₀:B₀≤w.heap.size)
 (hI:∀ B,B₀≤B→∀ T,Deaf T h=0→Idle P K Still B T h nh (G (b.at (a.put op.dst undef) (.inRegion ops rest :: kk)) cs) o):AtHire P K Still h o F (G (b.at a (.inRegion ops (i :: rest) :: kk)) cs) w :=
 ⟨rfl,_,born P d,#[],nh,B₀,hB₀,hF,fun d'=>by rw [stepG_spawn ho hw hk (hr _) hd,listed_none (he _)],fun B _ e he=>by simp at he,hI⟩
end Go.Lift
namespace Go.Proofs.YtfjjoohflcchnaaDoor
open Go Go.Lift Go.Conc Go.RowKit
theorem hire_box {main:Bool} (wb:Nat) (bsl F:Value) (n ii bb gc:Nat) (u:Nat→Value) (cs:List Frame) (w:World) :
 stepG Tryd.prog main (G (bFr1 wb bsl F n ii bb gc u) cs) w=.go (G (bFr2 wb bsl F n ii bb gc w.heap.size u) cs) (w.alloc (.cells (trow wb ii gc 0 0 0 0) 107)) #[]:=by
 unfold bFr1 bFr2 ops3514 R15 R18 HB D35 HL B35 Tryd.f95 seq2 seq1 blockC loopC opsOf
 simp only [Option.getD_some,List.append_toArray,List.cons_append,List.nil_append]
 rw [stepG_value (v:=Pt w.heap.size 0) (w':=w.alloc (.cells (trow wb ii gc 0 0 0 0) 107)) rfl rfl (by decide) (by go_simp),listed_none (by simp [go_sem,execOp])]
 rfl
abbrev d49 (tb:Nat) (F:Value):Deferred:={ target:=.fn (.func 124) #[],args:=#[Pt tb 0,F] }
theorem eR15:R15=.seq r15 R1617:=by kernel_rfl
noncomputable def ops3517:Array Oper:=opsOf (seq2 R1617)
def HBack (wb:Nat) (bsl:Value) (n ii:Nat) (cs:List Frame) (g:Goroutine):Prop:=∀ (D:World→World→Array Event→Prop) (Stop:Goroutine→World→Prop) (x:Value) (w:World),(∀ w,D w w #[])→(∀ u,GoesI Tryd.prog true D Stop (G (hFr wb bsl n ii u) cs) w)→GoesI Tryd.prog true D Stop (Go.Conc.served g x) w
theorem back35 (wb:Nat) (bsl F:Value) (n ii bb gc tb bk:Nat) (hb:(n:Int)<9223372036854775808) (hi:ii<n) (u:Nat→Value) (cs:List Frame) :
 HBack wb bsl n (ii+1) cs (G ((base 95).at ⟨#[Pt wb 0,bsl,undef,undef,u 4,u 5,u 6,I ii,F,Pt tb 0,u 10,u 11,u 12,u 13,u 14,u 15,u 16,u 17,u 18,u 19,u 20,u 21,u 22,u 23,u 24,u 25,u 26,u 27,u 28,u 29,bsl]++#[I n,I ii,.bool true,I ii,Pt bb ii,F,Pt wb 0,I ii,.chan (some gc),.agg (trow wb ii gc 0 0 0 0),Pt tb 0,u 42,u 43,u 44,u 45,u 46,u 47,u 48,u 49,u 50,u 51,Pt tb 0,F,Pt wb 0,Pt wb 0,Pt wb 8,.chan (some bk),u 58,u 59,u 60,u 61],[]⟩ [.inRegion ops3517 [4],.inBlock 3,.code R18,.inLoop HL,.inBlock 2,.code D35]) cs):=by
 have HW:IntKind.i64.wrap ((ii:Int)+1)=((ii+1:Nat):Int):=by rw [IntKind.wrap_i64];omega
 intro D Stop x w hD h
 have h:=h (fun m=>match m with|7=>I ii|8=>F|9=>Pt tb 0|33=>.bool true|34=>I ii|35=>Pt bb ii|36=>F|37=>Pt wb 0|38=>I ii|39=>.chan (some gc)|40=>.agg (trow wb ii gc 0 0 0 0)|41=>Pt tb 0|52=>Pt tb 0|53=>F|54=>Pt wb 0|55=>Pt wb 0|56=>Pt wb 8|57=>.chan (some bk)|58=>x|59=>I ((ii+1:Nat):Int)|m=>u m)
 unfold ops3517 R1617 R15 R18 HB D35 HL B35 Tryd.f95 seq2 seq1 blockC loopC opsOf
 unfold hFr D35 HL B35 Tryd.f95 seq2 seq1 blockC loopC at h
 simp only [Option.getD_some,List.append_toArray,List.cons_append,List.nil_append] at h ⊢
 rw [served_fr,Frame.finish_at]
 refine goesI_regionEnd hD ?_
 refine goesI_inBlock hD ?_
 refine goesI_region hD ?_
 simp only [List.size_toArray,List.length_cons,List.length_nil,Nat.reduceAdd,Nat.zero_add,List.range,List.range.loop]
 refine goesI_value (v:=fun _=>I ((ii+1:Nat):Int)) (w':=fun d=>w.at d) rfl rfl (by decide) (fun d=>by go_simp) (fun d=>by rw [listed_none (by simp [go_sem,execOp])];exact hD _) (fun d=>GoesI.at ?_ d)
 refine goesI_value (v:=fun _=>I ((ii+1:Nat):Int)) (w':=fun d=>w.at d) rfl rfl (by decide) (fun d=>by go_simp) (fun d=>by rw [listed_none (by simp [go_sem,execOp])];exact hD _) (fun d=>GoesI.at ?_ d)
 refine goesI_regionEnd hD ?_
 refine goesI_inLoop hD ?_
 exact h
theorem hire_b {z:Nat→Option Nat} {Ch:Nat→Prop} {Stop:Goroutine→World→Prop} {cont:Addr→Value} {v w:World} (wb n ii bb gc tb bk:Nat) (bsl F tv:Value) (k bs:Nat) (xs:List Value) (u:Nat→Value) (cs:List Frame) (Hm:Goroutine→Prop)
 (hH:∀ g,HBack wb bsl n (ii+1) cs g→Hm g) (hb:(n:Int)<9223372036854775808) (hi:ii<n)
 (hvw:Rel z v w) (hn:NoRow Ch v) (h4:v.cell? ⟨wb,4,none⟩=some tv) (hf:v.frozen? ⟨wb,4,none⟩=false) (hown:v.ownsRow bs 48 1 tv k xs) (hne:tv.ownBlock≠some wb) (hk:(k+1)*8≤140737488355328) (hbase:bs≤v.heap.size) (hz:z wb=some 8) (hcont:cont ⟨wb,8,none⟩=.chan (some bk))
 (hstop:∀ g w',Lift.AtHire Tryd.prog (KC (ScZ z) cont) (StillC (ScZ z)) 0 (some (Seat.one bk (.agg #[]) false Hm)) (fun child w'=>child=born Tryd.prog (d49 tb F)∧∃ v',Rel z v' w'∧NoRow Ch v'∧Threaded wb tv k bs xs (Pt tb 0) v v') g w'→Stop g w') :
 GoesI Tryd.prog true (DT (ScZ z) Ch) Stop (G (bFr2 wb bsl F n ii bb gc tb u) cs) w:=by
 have HO:Hid (v.ownsRow bs 48 1 tv k xs):=⟨hown⟩
 have q4:wb<v.heap.size:=World.block_lt_of_cell? _ _ h4
 clear hown
 have hop:(ops3514.getD 5 default).op=.assign (.tmp 41):=by kernel_rfl
 have hds:(ops3514.getD 5 default).dst=some 9:=by kernel_rfl
 have hgd:(ops3514.getD 5 default).guard=none:=by kernel_rfl
 have hoo:ops3514[5]? = some (ops3514.getD 5 default):=by kernel_rfl
 unfold bFr2
 simp only [List.append_toArray,List.cons_append,List.nil_append]
 refine goesI_value (o:=ops3514.getD 5 default) (v:=fun _=>Pt tb 0) (w':=fun d=>w.at d) hoo (by unfold Region.wanted;rw [hgd]) (by decide) (fun d=>by unfold execOp;rw [hop];simp [go_sem,Act.eval]) (fun d=>by rw [listed_none (by unfold execOp;rw [hop];simp [go_sem])];exact dt_idle _ _ _) (fun d=>GoesI.at ?_ d)
 rw [hds]
 clear hop hds hgd hoo
 refine goesI_regionEnd (dt_idle _ _) ?_
 rw [eR15]
 refine goesI_seq (dt_idle _ _) ?_
 rw [show (Act.put { tmps:=(#[Pt wb 0,bsl,undef,undef,u 4,u 5,u 6,I ii,F,u 9,u 10,u 11,u 12,u 13,u 14,u 15,u 16,u 17,u 18,u 19,u 20,u 21,u 22,u 23,u 24,u 25,u 26,u 27,u 28,u 29,bsl,I n,I ii,.bool true,I ii,Pt bb ii,F,Pt wb 0,I ii,.chan (some gc),.agg (trow wb ii gc 0 0 0 0),Pt tb 0,u 42,u 43,u 44,u 45,u 46,u 47,u 48,u 49,u 50,u 51,u 52,u 53,u 54,u 55,u 56,u 57,u 58,u 59,u 60,u 61]),defers:=[] } (some 9) (Pt tb 0))={ tmps:=(#[Pt wb 0,bsl,undef,undef,u 4,u 5,u 6,I ii,F,Pt tb 0,u 10,u 11,u 12,u 13,u 14,u 15,u 16,u 17,u 18,u 19,u 20,u 21,u 22,u 23,u 24,u 25,u 26,u 27,u 28,u 29,bsl]++#[I n,I ii,.bool true,I ii,Pt bb ii,F,Pt wb 0,I ii,.chan (some gc),.agg (trow wb ii gc 0 0 0 0),Pt tb 0,u 42,u 43,u 44,u 45,u 46,u 47,u 48,u 49,u 50,u 51,u 52,u 53,u 54,u 55,u 56,u 57,u 58,u 59,u 60,u 61]),defers:=[] } from by kernel_rfl]
 refine goesI_plain (z:=z) (wr:=true) (L:=LT) (I:=NoRow Ch) hE fineT noRow_keeps (fun v v' w w' es hi hr ho he=>dt_of_z v v' w w' es hi hr ho he) hvw fineR15 rfl (by simp [base]) hn
  (Q:=fun a w'=>(∃ u:Nat→Value,a={ tmps:=#[Pt wb 0,bsl,undef,undef,u 4,u 5,u 6,I ii,F,Pt tb 0,u 10,u 11,u 12,u 13,u 14,u 15,u 16,u 17,u 18,u 19,u 20,u 21,u 22,u 23,u 24,u 25,u 26,u 27,u 28,u 29,bsl]++#[I n,I ii,.bool true,I ii,Pt bb ii,F,Pt wb 0,I ii,.chan (some gc),.agg (trow wb ii gc 0 0 0 0),Pt tb 0,u 42,u 43,u 44,u 45,u 46,u 47,u 48,u 49,u 50,u 51,u 52,u 53,u 54,u 55,u 56,u 57,u 58,u 59,u 60,u 61],defers:=[] })∧Threaded wb tv k bs xs (Pt tb 0) v w') (fun τ=>?_) ?_
 ·refine wp_mono (r15_wp (v:=onTape v τ 0) wb n ii bb gc tb bsl F tv k bs xs u h4 hf HO.out hne hk hbase) (fun e a w' hq=>⟨hq.1,hq.2.1,?_⟩)
  obtain ⟨g,cap,q1,q2,q3,q5⟩:=hq.2.2
  exact ⟨g,cap,q1,q2,q3,⟨q5.os,q5.output,q5.size,q5.block⟩⟩
 rintro a' v' w' ⟨⟨u',rfl⟩,hT⟩ hr' hn' -
 have hwbl:wb<w'.heap.size:=by
  obtain ⟨g,cap,q1,q2,q3,q5⟩:=hT
  rw [hr'.size]
  exact Nat.lt_of_lt_of_le q4 q5.size
 have HF:Hid (∃ v',Rel z v' w'∧NoRow Ch v'∧Threaded wb tv k bs xs (Pt tb 0) v v'):=⟨⟨v',hr',hn',hT⟩⟩
 have hbk:=back35 wb bsl F n ii bb gc tb bk hb hi u' cs
 clear hT hr' hn' hvw hn h4 hf HO hne hk hbase q4
 unfold ops3517 R1617 R15 R18 HB D35 HL B35 Tryd.f95 seq2 seq1 blockC loopC opsOf at hbk
 unfold R1617 R15 R18 HB D35 HL B35 Tryd.f95 seq2 seq1 blockC loopC
 simp only [Option.getD_some,List.append_toArray,List.cons_append,List.nil_append] at hbk ⊢
 refine goesI_seq (dt_idle _ _) ?_
 refine goesI_region (dt_idle _ _) ?_
 simp only [List.size_toArray,List.length_cons,List.length_nil,Nat.reduceAdd,Nat.zero_add,List.range,List.range.loop]
 iterate 2
  (refine goesI_oper rfl rfl (by decide) (fun d K hK=>?_)
   go_simp
   refine hK _ _ ⟨dt_reads (fun e he=>?_),GoesI.at ?_ d⟩
   ·have hm:=mem_listed he
    simp [go_sem, *] at hm
    try exact ⟨_,_,hm⟩
   clear hK K)
 refine GoesI.stop fun d=>hstop _ _ (hire_at (h:=0) (d:=d49 tb F) 7 (wb+1) rfl rfl (by decide) (fun w=>by simp [go_sem,execOp,resolve,Act.eval]) rfl (fun w=>by simp [go_sem,execOp,resolve,Act.eval]) ⟨rfl,?_⟩ (Nat.succ_le_of_lt hwbl) (fun B hB T hT=>?_))
 ·obtain ⟨v',k1,k2⟩:=HF.out
  exact ⟨v',k1.re rfl rfl rfl rfl rfl rfl,k2⟩
 ·clear HF hstop hwbl
  refine .inl ⟨6,w',rfl,?_⟩
  k_c stepG_region_end
  k_reg
  iterate 3
   (k_in
    refine goes_oper_k rfl rfl (by decide) (fun K hK=>?_)
    go_simp
    refine hK _ _ ⟨⟨rfl,fun e he=>by (have hm:=mem_listed he;simp [go_sem, *] at hm)⟩,?_⟩
    clear hK K)
  k_in
  have q2:=h₁ ⟨wb,8,none⟩ ⟨rfl,hz⟩
  rw [hcont] at q2
  refine goes_oper_k rfl rfl (by decide) (fun K hK=>?_)
  go_simp
  refine hK _ _ ⟨⟨rfl,fun e he=>by (have hm:=mem_listed he;simp [go_sem, *] at hm;subst hm;exact evC_read _ ⟨_,rfl,rfl,hz⟩ (by simp;omega))⟩,?_⟩
  clear hK K
  refine Goes.stop fun w₂ h₂=>⟨_,atIn_of (s:=Seat.one bk (.agg #[]) false Hm) rfl rfl (by decide) (fun w=>?_) (fun w=>?_) (hH _ hbk)⟩
  ·simp [go_sem,execOp,rcase,Act.eval,Seat.one]
  ·simp [go_sem,execOp,Act.eval]
noncomputable def tFr (wb:Nat) (u:Nat→Value):Frame:=(base 95).at ⟨#[Pt wb 0,u 1,u 2,u 3,u 4,u 5,u 6,u 7,u 8,u 9,u 10,u 11,u 12,u 13,u 14,u 15,u 16,u 17,u 18,u 19,u 20,u 21,u 22,u 23,u 24,u 25,u 26,u 27,u 28,u 29,u 30]++#[u 31,u 32,u 33,u 34,u 35,u 36,u 37,u 38,u 39,u 40,u 41,u 42,u 43,u 44,u 45,u 46,u 47,u 48,u 49,u 50,u 51,u 52,u 53,u 54,u 55,u 56,u 57,u 58,u 59,u 60,u 61],[]⟩ [.code TL,.inLoop TL,.inBlock 4]
theorem hire_done {z:Nat→Option Nat} {Ch:Nat→Prop} {Stop:Goroutine→World→Prop} {main:Bool} {w:World} {wb:Nat} (bsl:Value) (n:Nat) (u:Nat→Value) (cs:List Frame)
 (hk:∀ u',GoesI Tryd.prog main (DT (ScZ z) Ch) Stop (G (tFr wb u') cs) w):GoesI Tryd.prog main (DT (ScZ z) Ch) Stop (G (hFr wb bsl n n u) cs) w:=by
 have hi':¬ (n:Int)<(n:Int):=by omega
 have hk:=hk (fun m=>match m with|1=>bsl|2=>undef|3=>undef|30=>bsl|31=>I n|32=>I n|33=>.bool false|m=>u m)
 unfold tFr TL D35 B35 Tryd.f95 seq2 blockC loopC at hk
 unfold hFr D35 HL B35 Tryd.f95 seq2 seq1 blockC loopC
 simp only [Option.getD_some,List.append_toArray,List.cons_append,List.nil_append] at hk ⊢
 refine goesI_seq (dt_idle _ _) ?_
 refine goesI_region (dt_idle _ _) ?_
 simp only [List.size_toArray,List.length_cons,List.length_nil,Nat.reduceAdd,Nat.zero_add,List.range,List.range.loop]
 iterate 1
  (refine goesI_oper rfl rfl (by decide) (fun d K hK=>?_)
   go_simp
   refine hK _ _ ⟨dt_reads (fun e he=>?_),GoesI.at ?_ d⟩
   ·have hm:=mem_listed he
    simp [go_sem, *] at hm
    try exact ⟨_,_,hm⟩
   clear hK K)
 refine goesI_regionEnd (dt_idle _ _) ?_
 refine goesI_seq (dt_idle _ _) ?_
 refine goesI_cond (dt_idle _ _) (t:=false) rfl ?_
 simp only [if_true,if_false,Bool.false_eq_true]
 refine goesI_exit (dt_idle _ _) rfl ?_
 refine goesI_block (dt_idle _ _) ?_
 refine goesI_loop (dt_idle _ _) ?_
 exact hk
theorem turn_in {z:Nat→Option Nat} {Ch:Nat→Prop} {Stop:Goroutine→World→Prop} {main:Bool} {w:World} {wb:Nat} (u:Nat→Value) (cs:List Frame)
 (hk:∀ (bd:Frame) (ad:Act) (od:Array Oper) (qd:Nat) (rd:List Nat) (oe:Oper) (kd:List Item),od[qd]? = some oe →
   (∀ (z:Nat→Option Nat) (Ch:Nat→Prop) (Stop:Goroutine→World→Prop) (w:World),(∀ u',GoesI Tryd.prog main (DT (ScZ z) Ch) Stop (G (tFr wb u') cs) w)→GoesI Tryd.prog main (DT (ScZ z) Ch) Stop (G (bd.at (ad.put oe.dst (.bool true)) (.inRegion od rd :: kd)) cs) w) →
   (∀ (z:Nat→Option Nat) (Ch:Nat→Prop) (Stop:Goroutine→World→Prop) (w:World) (bc:Frame) (ac:Act) (ops:Array Oper) (q:Nat) (rest:List Nat) (oc:Oper) (k:List Item) (cs':List Frame),cs=bc.at ac (.inRegion ops (q :: rest) :: k) :: cs'→ops[q]? = some oc→GoesI Tryd.prog main (DT (ScZ z) Ch) Stop (G (bc.at (ac.put oc.dst (.tuple #[])) (.inRegion ops rest :: k)) cs') w →
     GoesI Tryd.prog main (DT (ScZ z) Ch) Stop (G (bd.at (ad.put oe.dst (.bool false)) (.inRegion od rd :: kd)) cs) w)→∀ code,Tryd.f125.body=some code →
   GoesI Tryd.prog main (DT (ScZ z) Ch) Stop (G ((base 125).at { tmps:=#[Pt wb 0]++Array.replicate 72 undef,defers:=[] } [.code code]) (bd.at ad (.inRegion od (qd :: rd) :: kd) :: cs)) w) :
 GoesI Tryd.prog main (DT (ScZ z) Ch) Stop (G (tFr wb u) cs) w:=by
 unfold tFr TL D35 B35 Tryd.f95 seq2 blockC loopC
 simp only [Option.getD_some,List.append_toArray,List.cons_append,List.nil_append]
 refine goesI_seq (dt_idle _ _) ?_
 refine goesI_seq (dt_idle _ _) ?_
 refine goesI_region (dt_idle _ _) ?_
 simp only [List.size_toArray,List.length_cons,List.length_nil,Nat.reduceAdd,Nat.zero_add,List.range,List.range.loop]
 iterate 1
  (refine goesI_oper rfl rfl (by decide) (fun d K hK=>?_)
   go_simp
   refine hK _ _ ⟨dt_reads (fun e he=>?_),GoesI.at ?_ d⟩
   ·have hm:=mem_listed he
    simp [go_sem, *] at hm
    try exact ⟨_,_,hm⟩
   clear hK K)
 refine goesI_into (f:=125) (fn:=Tryd.f125) (args:=#[Pt wb 0]) (dt_idle _ _) rfl rfl (by decide) rfl (by simp [Act.eval]) Tryd.func125 (by decide) rfl ?_
 refine hk _ _ _ _ _ _ _ rfl (fun z Ch Stop w hg=>?_) (fun z Ch Stop w bc ac ops q rest oc k cs' hcs ho hg=>?_) _ rfl
 ·have hg:=hg (fun m=>match m with|60=>Pt wb 0|61=>.bool true|m=>u m)
  unfold tFr TL D35 B35 Tryd.f95 seq2 blockC loopC at hg
  simp only [Option.getD_some,List.append_toArray,List.cons_append,List.nil_append] at hg
  refine goesI_regionEnd (dt_idle _ _) ?_
  refine goesI_cond (dt_idle _ _) (t:=true) rfl ?_
  simp only [if_true,if_false,Bool.false_eq_true]
  refine goesI_skip (dt_idle _ _) ?_
  refine goesI_block (dt_idle _ _) ?_
  refine goesI_skip (dt_idle _ _) ?_
  refine goesI_inBlock (dt_idle _ _) ?_
  refine goesI_inLoop (dt_idle _ _) ?_
  exact hg
 ·subst hcs
  refine goesI_regionEnd (dt_idle _ _) ?_
  refine goesI_cond (dt_idle _ _) (t:=false) rfl ?_
  simp only [if_true,if_false,Bool.false_eq_true]
  refine goesI_exit (dt_idle _ _) rfl ?_
  refine goesI_end (dt_idle _ _) ?_
  refine goesI_leave (b:=base 95) (fn:=Tryd.f95) rfl ?_ Tryd.func95 (fun w=>results_none rfl _ _ _) (fun w=>by simp [results,go_sem]) ho (dt_idle _ _) hg
  show (Act.put _ _ _).defers=[]
  unfold Act.put
  split<;>rfl
theorem ran_ev {z:Nat→Option Nat} {S:TS} {v:World} (h:Rep z S v):Ev z S v { S with ran:=true } (v.setCell ⟨S.wb,7,none⟩ (.bool true)):=by
 have hst:∀ k b,blk S k=some b→k≠0→(v.setCell ⟨S.wb,7,none⟩ (.bool true)).heap[b]? = v.heap[b]?:=fun k b hk h0=>Below.heap_setCell _ _ _ _ (fun e=>h0 (h.apart k 0 b hk (by rw [e];rfl)))
 have hblk:∀ k,blk { S with ran:=true } k=blk S k:=fun k=>by match k with|0=>rfl|1=>rfl|2=>rfl|3=>rfl|4=>rfl|k+5=>rfl
 refine ⟨⟨?_,fun i t ht=>?_,own_stay (fun b hb=>hst 3 b hb (by omega)) h.own,own_stay (fun b hb=>hst 1 b hb (by omega)) h.chg,own_stay (fun b hb=>hst 2 b hb (by omega)) h.ths,own_stay (fun b hb=>hst 4 b hb (by omega)) h.sch,?_,fun j k b hj hk=>?_,h.kept⟩,⟨rfl,rfl,by simp [World.setCell],fun b hb hs=>Below.heap_setCell _ _ _ _ (fun e=>hs ⟨0,by rw [e];rfl⟩)⟩,fun b ⟨k,hk⟩=>.inl ⟨k,by rw [←hblk];exact hk⟩⟩
 ·have:=heap_setCell_same (o:=7) h.wor (.bool true)
  simpa using this
 ·rw [hst (i+5) t.tb (by simp only [blk];rw [show S.thr[i]? = some t from ht];rfl) (by omega)]
  exact h.thr i t ht
 ·show S.base≤_
  simpa [World.setCell] using h.bs
 ·exact h.apart j k b (by rw [←hblk];exact hj) (by rw [←hblk];exact hk)
theorem run35_in {z:Nat→Option Nat} {Ch:Nat→Prop} {Stop:Goroutine→World→Prop} {main:Bool} {S:TS} {K:List (Nat×Int)} {v w:World} (p:Option Addr) (n cap:Nat) (cs:List Frame)
 (hvw:Rel z v w) (hn:NoRow Ch v) (hm:Mem z S K v) (hr:S.ran=false)
 (hk:∀ v' w' u,Rel z v' w'→NoRow Ch v'→Evo z S K v { S with ran:=true } K v'→GoesI Tryd.prog main (DT (ScZ z) Ch) Stop (G (hFr S.wb (.slice p n cap) n 0 u) cs) w') (code:Code) (hc:Tryd.f95.body=some code) :
 GoesI Tryd.prog main (DT (ScZ z) Ch) Stop (G ((base 95).at { tmps:=#[Pt S.wb 0,.slice p n cap]++Array.replicate 60 undef,defers:=[] } [.code code]) cs) w:=by
 have hc0:code=B35:=by
  unfold B35
  rw [hc]
  rfl
 subst hc0
 clear hc
 have e7:w.cell? ⟨S.wb,7,none⟩=some (.bool false):=by rw [hvw.cell?,hm.rep.wcell.2.2.2.2.2.2.2.1,hr]
 have c7:v.cell? ⟨S.wb,7,none⟩=some (.bool false):=by rw [hm.rep.wcell.2.2.2.2.2.2.2.1,hr]
 have f7:v.frozen? ⟨S.wb,7,none⟩=false:=fz_off hm.rep 7 (by omega)
 have HE:Hid (Evo z S K v { S with ran:=true } K (v.setCell ⟨S.wb,7,none⟩ (.bool true))):=⟨Evo.of_ev hm (ran_ev hm.rep) rfl⟩
 clear hm hr
 unfold B35 Tryd.f95
 simp only [Option.getD_some,Array.replicate_succ,Array.replicate_zero,List.push_toArray,List.append_toArray,List.nil_append,List.cons_append]
 refine goesI_seq (dt_idle _ _) ?_
 refine goesI_seq (dt_idle _ _) ?_
 refine goesI_region (dt_idle _ _) ?_
 simp only [List.size_toArray,List.length_cons,List.length_nil,Nat.reduceAdd,Nat.zero_add,List.range,List.range.loop]
 iterate 1
  (refine goesI_oper rfl rfl (by decide) (fun d K hK=>?_)
   go_simp
   refine hK _ _ ⟨dt_reads (fun e he=>?_),GoesI.at ?_ d⟩
   ·have hm:=mem_listed he
    simp [go_sem, *] at hm
    try exact ⟨_,_,hm⟩
   clear hK K)
 refine goesI_opZ (L:=LT) rfl rfl (by decide) (fineOp_ask callT extT (by kernel_rfl)) hvw hn (x:=.bool false) (v':=v) (by go_simp) rfl (fun w1 hvw1 _=>?_)
 replace e7:w1.cell? ⟨S.wb,7,none⟩=some (.bool false):=by rw [hvw1.cell?];exact c7
 clear hvw
 rename Rel z v w1=>hvw
 refine goesI_regionEnd (dt_idle _ _) ?_
 refine goesI_cond (dt_idle _ _) (t:=false) rfl ?_
 simp only [if_true,if_false,Bool.false_eq_true]
 refine goesI_skip (dt_idle _ _) ?_
 refine goesI_seq (dt_idle _ _) ?_
 refine goesI_seq (dt_idle _ _) ?_
 refine goesI_region (dt_idle _ _) ?_
 simp only [List.size_toArray,List.length_cons,List.length_nil,Nat.reduceAdd,Nat.zero_add,List.range,List.range.loop]
 iterate 4
  (refine goesI_oper rfl rfl (by decide) (fun d K hK=>?_)
   go_simp
   refine hK _ _ ⟨dt_reads (fun e he=>?_),GoesI.at ?_ d⟩
   ·have hm:=mem_listed he
    simp [go_sem, *] at hm
    try exact ⟨_,_,hm⟩
   clear hK K)
 refine goesI_regionEnd (dt_idle _ _) ?_
 refine goesI_cond (dt_idle _ _) (t:=false) rfl ?_
 simp only [if_true,if_false,Bool.false_eq_true]
 refine goesI_skip (dt_idle _ _) ?_
 refine goesI_seq (dt_idle _ _) ?_
 refine goesI_region (dt_idle _ _) ?_
 simp only [List.size_toArray,List.length_cons,List.length_nil,Nat.reduceAdd,Nat.zero_add,List.range,List.range.loop]
 iterate 3
  (refine goesI_oper rfl rfl (by decide) (fun d K hK=>?_)
   go_simp
   refine hK _ _ ⟨dt_reads (fun e he=>?_),GoesI.at ?_ d⟩
   ·have hm:=mem_listed he
    simp [go_sem, *] at hm
    try exact ⟨_,_,hm⟩
   clear hK K)
 clear e7
 refine goesI_doZ (L:=LT) rfl rfl (by decide) (fineOp_ask callT extT (by kernel_rfl)) hvw hn (v':=v.setCell ⟨S.wb,7,none⟩ (.bool true)) (by go_simp) rfl (fun w2 hr2 hn2=>?_)
 refine goesI_regionEnd (dt_idle _ _) ?_
 refine goesI_seq (dt_idle _ _) ?_
 refine goesI_seq (dt_idle _ _) ?_
 refine goesI_region (dt_idle _ _) ?_
 simp only [List.size_toArray,List.length_cons,List.length_nil,Nat.reduceAdd,Nat.zero_add,List.range,List.range.loop]
 iterate 3
  (refine goesI_oper rfl rfl (by decide) (fun d K hK=>?_)
   go_simp
   refine hK _ _ ⟨dt_reads (fun e he=>?_),GoesI.at ?_ d⟩
   ·have hm:=mem_listed he
    simp [go_sem, *] at hm
    try exact ⟨_,_,hm⟩
   clear hK K)
 refine goesI_regionEnd (dt_idle _ _) ?_
 refine goesI_block (dt_idle _ _) ?_
 refine goesI_loop (dt_idle _ _) ?_
 have hk:=hk _ w2 (fun m=>match m with|10=>Pt S.wb 0|11=>.bool false|23=>Pt S.wb 0|24=>Pt S.wb 0|25=>Pt S.wb 7|26=>.bool false|27=>Pt S.wb 0|28=>Pt S.wb 0|29=>Pt S.wb 7|_=>undef) hr2 hn2 HE.out
 unfold hFr D35 HL B35 Tryd.f95 seq2 seq1 blockC loopC at hk
 simp only [Option.getD_some,List.append_toArray,List.cons_append,List.nil_append] at hk
 exact hk
end Go.Proofs.YtfjjoohflcchnaaDoor
namespace Go.Proofs.YtfjjoohflcchnaaDoor.Gen
open Go Go.Lift Go.Conc Go.RowKit
open Go.ConcN (upd upd_same upd_ne)
variable {mc:Mc}
def FitsN:Ph→Thr→Prop
 |.turn op j _ _ _ _,t=>t.op=op∧t.ce=j
 |.wait _ _ _ _ _,_=>True
 |.done _,t=>t.st=3
theorem FitsN.fits {X:Fix mc} {l:Ph} {t:Thr} (h:FitsN l t):Fits X l t:=by
 match l,h with
 |.turn _ _ _ _ _ _,h=>exact h
 |.wait _ _ _ _ _,_=>trivial
 |.done _,_=>trivial
def StN:Ph→Thr→Prop
 |.turn _ _ _ _ _ _,t=>t.st=1
 |.wait _ _ _ _ _,t=>t.st=2
 |.done _,t=>t.st=3
theorem set_get {S:TS} {i:Nat} {t t':Thr} (ht:S.thr[i]? = some t):(S.thr.set i t')[i]? = some t':=by
 have hi:i<S.thr.length:=(List.getElem?_eq_some_iff.1 ht).1
 rw [List.getElem?_set,if_pos rfl,if_pos hi]
theorem did_thr {S:TS} {i:Nat} {tv:Value} {t t0:Thr} {b a:Int} (ht:S.thr[i]? = some t0):(didS S tv i t b a).thr[i]? = some t0:=by
 unfold didS
 split<;>exact ht
theorem flow_fs (i:Nat) (m:Mc):∀ (rest:List Cl) (ii:Nat) (sk:Bool) (ans:List (Int×Int)) (S:TS) (t:Thr),S.thr[i]? = some t→∃ t',(flow i m rest ii sk ans S).1.thr[i]? = some t'∧FitsN (flow i m rest ii sk ans S).2 t'∧StN (flow i m rest ii sk ans S).2 t'
 | [],ii,sk,ans,S,t,ht=>⟨{ thrI S i with st:=3 },set_get ht,rfl,rfl⟩
 |c :: rest,ii,true,ans,S,t,ht=>flow_fs i m rest (ii+1) true _ S t ht
 |c :: rest,ii,false,ans,S,t,ht=>by
  unfold flow
  split
  ·exact flow_fs i m rest (ii+1) _ _ _ t ht
  ·exact ⟨_,set_get (S:=noted S undef i 9 (-1) ii 0) ht,⟨rfl,rfl⟩,rfl⟩
  ·split
   ·exact flow_fs i m rest (ii+1) _ _ _ t ht
   ·exact ⟨_,set_get (S:=noted S undef i 9 (-1) ii 0) ht,trivial,rfl⟩
theorem on_fs (i:Nat) (m:Mc) (rest:List Cl) (ii:Nat) (ans:List (Int×Int)) (S:TS) (K:List (Nat×Int)) (x:Nx) (t:Thr) (ht:S.thr[i]? = some t):∃ t',(on i m rest ii ans S K x).1.thr[i]? = some t'∧FitsN (on i m rest ii ans S K x).2.2 t'∧StN (on i m rest ii ans S K x).2.2 t':=by
 cases x with
 |ans e x=>exact flow_fs i m rest (ii+1) _ _ (noted S undef i 10 (-1) ii e) t ht
 |turn op j q=>exact ⟨_,set_get ht,⟨rfl,rfl⟩,rfl⟩
 |wait j q =>
  rw [on_wait]
  split
  ·exact flow_fs i m rest (ii+1) _ _ (noted S undef i 10 (-1) ii _) t ht
  ·exact ⟨_,set_get ht,trivial,rfl⟩
theorem resume_fs (i:Nat) (m:Mc) (S:TS) (K:List (Nat×Int)) (t:Thr) (ht:S.thr[i]? = some t) (l:Ph) (hl:∀ a,l≠.done a):∃ t',(resume i m l S K).1.thr[i]? = some t'∧FitsN (resume i m l S K).2.2 t'∧StN (resume i m l S K).2.2 t':=by
 match l,hl with
 |.turn op j q rest ii ans,_=>rw [resume_turn];exact on_fs _ _ _ _ _ _ _ _ t (did_thr ht)
 |.wait j q rest ii ans,_ =>
  rw [resume_wait]
  split
  ·exact flow_fs i m rest (ii+1) _ _ (noted S undef i 10 (-1) ii _) t ht
  ·exact on_fs _ _ _ _ _ _ _ _ t ht
 |.done a,hl=>exact absurd rfl (hl a)
structure PSt where
 S:TS
 K:List (Nat×Int)
 l:Nat→Ph
def nextI (S:TS):Nat:=((rdyIds S S.thr.length)[pickAt S (rdyIds S S.thr.length)]?).getD 0
def pturn (nk:Mc) (p:PSt):Option PSt :=
 if rdyIds p.S p.S.thr.length=[] then
  if waits2 p.S p.S.thr.length then some ⟨stuckS p.S undef,p.K,p.l⟩ else none
 else
  some ⟨(resume (nextI p.S) nk (p.l (nextI p.S)) (going p.S (nextI p.S) (thrI p.S (nextI p.S))) p.K).1,(resume (nextI p.S) nk (p.l (nextI p.S)) (going p.S (nextI p.S) (thrI p.S (nextI p.S))) p.K).2.1,upd p.l (nextI p.S) (resume (nextI p.S) nk (p.l (nextI p.S)) (going p.S (nextI p.S) (thrI p.S (nextI p.S))) p.K).2.2⟩
section
variable {z:Nat→Option Nat} {Ch:Nat→Prop} {cont:Addr→Value} {v w:World} {c:Nat}
theorem kc_chan (hz:z c=none) (h:KC (ScZ z) cont w) (cap:Nat) (buf:Array Value) (cl:Bool) (a b:Nat) (tm:Bool):KC (ScZ z) cont (w.setChan c cap buf cl a b tm):=fun x hx=>by
 have hne:c≠x.block:=fun e=>by rw [e,hx.2] at hz;cases hz
 rw [World.cell?_of_block (heap_setChan_ne w cap buf cl a b tm hne)]
 exact h x hx
theorem rel_chan (hr:Rel z v w) (hz:z c=none) (cap:Nat) (buf:Array Value) (cl:Bool) (a b:Nat) (tm:Bool) (d:Nat):Rel z (v.setChan c cap buf cl a b tm) ((w.at d).setChan c cap buf cl a b tm):=by
 refine ⟨fun r=>?_,fun r n x e f hzr hh=>?_,fun r n hzr=>by simpa [World.setChan] using hr.low r n hzr,hr.os,hr.output⟩
 ·by_cases e:c=r
  ·subst e
   rw [hz]
   have hs:=hr.size
   by_cases hlt:c<v.heap.size
   ·have hlw:c<(w.at d).heap.size:=by show c<w.heap.size;omega
    rw [heap_setChan_self (w.at d) (Array.getElem?_eq_getElem hlw),heap_setChan_self v (Array.getElem?_eq_getElem hlt)]
    rfl
   ·have:¬ c<w.heap.size:=by omega
    simp [World.setChan,World.at,hlt,this]
  ·rw [heap_setChan_ne _ _ _ _ _ _ _ e,heap_setChan_ne _ _ _ _ _ _ _ e]
   exact hr.heap r
 ·have hne:c≠r:=fun e=>by rw [e,hzr] at hz;cases hz
  rw [heap_setChan_ne _ _ _ _ _ _ _ hne] at hh
  exact hr.kept r n x e f hzr hh
theorem has_chan {M:Nat→Option Obj} (h:Has M v) (hrow:∀ b o,M b=some o→∃ x e f,o=.cells x e f) (hc:∃ o,v.heap[c]? = some o∧∀ x e f,o≠.cells x e f) (cap:Nat) (buf:Array Value) (cl:Bool) (a b:Nat) (tm:Bool):Has M (v.setChan c cap buf cl a b tm):=fun y o ho=>by
 have hne:c≠y:=fun e=>by
  subst e
  obtain ⟨x,e,f,rfl⟩:=hrow _ o ho
  obtain ⟨o',h1,h2⟩:=hc
  rw [h _ _ ho] at h1
  cases h1
  exact h2 _ _ _ rfl
 rw [heap_setChan_ne _ _ _ _ _ _ _ hne]
 exact h y o ho
end
variable {mc:Mc}
section
variable {Wr:Nat→Prop} {z:Nat→Option Nat} {S S':TS} {K K':List (Nat×Int)} {v v':World}
theorem _root_.Go.Proofs.YtfjjoohflcchnaaDoor.Mem.row (h:Mem z S K v) {b:Nat} (hb:Own S K b):∃ c e f,v.heap[b]? = some (.cells c e f):=by
 have own:∀ {base:Nat} {e:TypeId} {size:Nat} {x:Value} {n:Nat} {xs:List Value},v.ownsRow base e size x n xs→x.ownBlock=some b→∃ c e f,v.heap[b]? = some (.cells c e f):=fun {base e size x n xs} ho hx=>by
  rcases ho.2 with ⟨rfl,_⟩|⟨g,cap,cur,rfl,_,h3,_⟩
  ·cases hx
  ·cases Option.some.inj hx
   exact ⟨_,_,_,h3⟩
 rcases hb with ⟨k,hk⟩|⟨j,c,hc,rfl⟩
 ·match k,hk with
  |0,hk=>cases hk;exact ⟨_,_,_,h.rep.wor⟩
  |1,hk=>exact own h.rep.chg hk
  |2,hk=>exact own h.rep.ths hk
  |3,hk=>exact own h.rep.own hk
  |4,hk=>exact own h.rep.sch hk
  |k+5,hk =>
   simp only [blk,Option.map_eq_some_iff] at hk
   obtain ⟨t,ht,rfl⟩:=hk
   exact ⟨_,_,_,h.rep.thr k t ht⟩
 ·exact ⟨_,_,_,h.cel j c hc⟩
theorem keepM (he:EvoP Wr z S K v S' K' v') {M:Nat→Option Obj} (hM:Has M v) (hfar:∀ b,M b≠none→¬ Own S K b) (hd:∀ b,M b≠none→¬ Wr b):Has M v'∧∀ b,M b≠none→¬ Own S' K' b:=by
 have k:∀ b o,M b=some o→v'.heap[b]? = v.heap[b]?∧¬ Own S' K' b:=fun b o hb=>he.keeps (Array.getElem?_eq_some_iff.1 (hM b o hb)).1 (hfar b (by rw [hb];simp)) (hd b (by rw [hb];simp))
 refine ⟨fun b o hb=>by rw [(k b o hb).1];exact hM b o hb,fun b hb=>?_⟩
 obtain ⟨o,ho⟩:=Option.ne_none_iff_exists'.1 hb
 exact (k b o ho).2
theorem Has.lt {M:Nat→Option Obj} (hM:Has M v) {b:Nat} (hb:M b≠none):b<v.heap.size:=by
 obtain ⟨o,ho⟩:=Option.ne_none_iff_exists'.1 hb
 exact (Array.getElem?_eq_some_iff.1 (hM b o ho)).1
end
structure Keep where
 M:Nat→Option Obj
 os:Os
 out:Array (Nat×ByteArray)
theorem has_ne {v:World} {M:Nat→Option Obj} {c:Nat} (h:Has M v) (hne:∀ b,M b≠none→b≠c) (cap:Nat) (buf:Array Value) (cl:Bool) (a b:Nat) (tm:Bool):Has M (v.setChan c cap buf cl a b tm):=fun y o ho=>by
 rw [heap_setChan_ne _ _ _ _ _ _ _ (fun e=>hne y (by rw [ho];simp) e.symm)]
 exact h y o ho
def Open (v:World) (c:Nat):Prop:=∃ cap n,v.heap[c]? = some (.chan cap #[] false n n false)
structure Crew (k:Nat) (X:Nat→Fix mc) (l:Nat→Ph) (E:Nat→Nat→Prop) (M:Nat→Nat→Option Obj) (Mm:Keep) (z:Nat→Option Nat) (cont:Addr→Value) (Ch:Nat→Prop) (S:TS) (K:List (Nat×Int)) (v:World) (gsz:Nat):Prop where
 len:k≤S.thr.length
 ok:∀ i,i<k→(X i).Ok∧(X i).i=i∧K.map (·.1)=(X i).kb
 thr:∀ i,i<k→∃ t,S.thr[i]? = some t∧t.tb=(X i).tb∧t.gc=(X i).gc∧FitsN (l i) t
 hinj:∀ i j,i<k→j<k→(X i).h=(X j).h→i=j
 ginj:∀ i j,i<k→j<k→(X i).gc=(X j).gc→i=j
 gbk:∀ i,i<k→(X i).gc≠S.bk
 hlt:∀ i,i<k→(X i).h<gsz
 zs:∀ i,i<k→z (X i).tb=some 2∧cont ⟨(X i).tb,2,none⟩=.chan (some (X i).gc)∧Ch (X i).gc
 z0:z S.wb=some 8∧cont ⟨S.wb,8,none⟩=.chan (some S.bk)∧Ch S.bk
 zc:∀ c,Ch c→z c=none
 opn:∀ c,Ch c→Open v c
 sees:∀ i,i<k→Sees (X i) (E i) (M i) (l i).ans∧Has (M i) v∧∀ b,M i b≠none→¬ Own S K b
 apart:∀ i j,i<k→j<k→i≠j→∀ b,M j b≠none→¬ (b=(X i).ab∨E i b)
 mine:Has Mm.M v∧(∀ b,Mm.M b≠none→¬ Own S K b)∧(∀ b,Mm.M b≠none→¬ Ch b)∧(∀ i,i<k→∀ b,Mm.M b≠none→¬ (b=(X i).ab∨E i b))∧v.os=Mm.os∧v.output=Mm.out
section
variable {k:Nat} {X:Nat→Fix mc} {l:Nat→Ph} {E:Nat→Nat→Prop} {M:Nat→Nat→Option Obj} {Mm:Keep} {z:Nat→Option Nat} {cont:Addr→Value} {Ch:Nat→Prop} {S S':TS} {K K':List (Nat×Int)} {v v':World} {gsz:Nat}
theorem Crew.noRow (h:Crew k X l E M Mm z cont Ch S K v gsz):NoRow Ch v:=fun c hc=>by
 obtain ⟨cap,n,hh⟩:=h.opn c hc
 exact ⟨_,hh,fun _ _ _ e=>by cases e⟩
theorem Crew.abM (h:Crew k X l E M Mm z cont Ch S K v gsz) {i:Nat} (hi:i<k) {b:Nat} (hb:b=(X i).ab∨E i b):M i b≠none:=by
 rcases hb with rfl|hb
 ·exact (h.sees i hi).1.pr _ (.inr (.inr (.inl rfl)))
 ·exact (h.sees i hi).1.ex _ hb
theorem open_stay {Wr:Nat→Prop} (hm:Mem z S K v) (he:EvoP Wr z S K v S' K' v') {c:Nat} (ho:Open v c) (hw:∀ b,Wr b→∃ x e f,v.heap[b]? = some (.cells x e f)):Open v' c:=by
 obtain ⟨cap,n,hh⟩:=ho
 refine ⟨cap,n,?_⟩
 rw [(he.keeps (b:=c) (Array.getElem?_eq_some_iff.1 hh).1 (fun h=>?_) (fun h=>?_)).1,hh]
 ·obtain ⟨x,e,f,h1⟩:=hm.row h
  rw [hh] at h1;cases h1
 ·obtain ⟨x,e,f,h1⟩:=hw c h
  rw [hh] at h1;cases h1
theorem Crew.chan (h:Crew k X l E M Mm z cont Ch S K v gsz) {c:Nat} (hc:Ch c) (cap n:Nat):Crew k X l E M Mm z cont Ch S K (v.setChan c cap #[] false n n false) gsz:=by
 obtain ⟨o,ho,hno⟩:=h.noRow c hc
 refine ⟨h.len,h.ok,h.thr,h.hinj,h.ginj,h.gbk,h.hlt,h.zs,h.z0,h.zc,fun c' hc'=>?_,fun i hi=>?_,h.apart,?_⟩
 ·by_cases e:c=c'
  ·subst e
   exact ⟨cap,n,heap_setChan_self v ho cap #[] false n n false⟩
  ·obtain ⟨cp,m,hh⟩:=h.opn c' hc'
   exact ⟨cp,m,by rw [heap_setChan_ne _ _ _ _ _ _ _ e];exact hh⟩
 ·have:=h.sees i hi
  exact ⟨this.1,has_chan this.2.1 this.1.row ⟨o,ho,hno⟩ cap #[] false n n false,this.2.2⟩
 ·exact ⟨has_ne h.mine.1 (fun b hb e=>h.mine.2.2.1 b hb (e▸hc)) cap #[] false n n false,h.mine.2⟩
theorem Crew.main (h:Crew k X l E M Mm z cont Ch S K v gsz) (hm:Mem z S K v) (he:Evo z S K v S' K v') (hwb:S'.wb=S.wb) (hbk:S'.bk=S.bk) (hlen:S'.thr.length=S.thr.length)
 (ht:∀ (i:Nat) (t:Thr),S.thr[i]? = some t→∃ t':Thr,S'.thr[i]? = some t'∧t'.tb=t.tb∧t'.gc=t.gc∧t'.op=t.op∧t'.ce=t.ce∧(t.st=3→t'.st=3)):Crew k X l E M Mm z cont Ch S' K v' gsz:=by
 have hp:EvoP (fun _=>False) z S K v S' K v':=he.toP
 refine ⟨by rw [hlen];exact h.len,h.ok,fun i hi=>?_,h.hinj,h.ginj,fun i hi=>by rw [hbk];exact h.gbk i hi,h.hlt,h.zs,by rw [hwb,hbk];exact h.z0,h.zc,fun c hc=>open_stay hm hp (h.opn c hc) (fun _ h=>h.elim),fun i hi=>?_,h.apart,?_⟩
 ·obtain ⟨t,h1,h2,h3,h4⟩:=h.thr i hi
  obtain ⟨t',k1,k2,k3,k4,k5,k6⟩:=ht i t h1
  refine ⟨t',k1,k2.trans h2,k3.trans h3,?_⟩
  match hl:l i,h4 with
  |.turn _ _ _ _ _ _,h4=>exact ⟨k4.trans h4.1,k5.trans h4.2⟩
  |.wait _ _ _ _ _,h4=>exact h4
  |.done _,h4=>exact k6 h4
 ·have:=h.sees i hi
  exact ⟨this.1,keepM hp this.2.1 this.2.2 (fun _ _ h=>h)⟩
 ·have:=keepM hp h.mine.1 h.mine.2.1 (fun _ _ h=>h)
  exact ⟨this.1,this.2,h.mine.2.2.1,h.mine.2.2.2.1,he.fr.os.trans h.mine.2.2.2.2.1,he.fr.output.trans h.mine.2.2.2.2.2⟩
theorem Crew.thread (h:Crew k X l E M Mm z cont Ch S K v gsz) (hm:Mem z S K v) {i:Nat} (hi:i<k) (he:EvoP (fun b=>b=(X i).ab∨E i b) z S K v S' K' v') (hst:Sta i S S') {l':Ph} {E':Nat→Prop} {M':Nat→Option Obj}
 (hfit:∃ t',S'.thr[i]? = some t'∧FitsN l' t') (hs:Sees (X i) E' M' l'.ans) (hM':Has M' v') (hfar:∀ b,M' b≠none→¬ Own S' K' b) (hnew:∀ b,E' b→E i b∨v.heap.size≤b) :
 Crew k X (upd l i l') (upd E i E') (upd M i M') Mm z cont Ch S' K' v' gsz:=by
 have hlt:∀ j,j<k→∀ b,M j b≠none→b<v.heap.size:=fun j hj b hb=>(h.sees j hj).2.1.lt hb
 have hrow:∀ b,(b=(X i).ab∨E i b)→∃ x e f,v.heap[b]? = some (.cells x e f):=fun b hb=>by
  obtain ⟨o,ho⟩:=Option.ne_none_iff_exists'.1 (h.abM hi hb)
  obtain ⟨x,e,f,rfl⟩:=(h.sees i hi).1.row b o ho
  exact ⟨x,e,f,(h.sees i hi).2.1 b _ ho⟩
 have hdom:∀ b,M' b≠none→M i b≠none∨v.heap.size≤b:=fun b hb=>by
  rcases hs.dom b hb with h1|h1
  ·exact .inl ((h.sees i hi).1.pr b h1)
  ·rcases hnew b h1 with h2|h2
   ·exact .inl ((h.sees i hi).1.ex b h2)
   ·exact .inr h2
 refine ⟨by rw [hst.len];exact h.len,fun j hj=>⟨(h.ok j hj).1,(h.ok j hj).2.1,he.blks.trans (h.ok j hj).2.2⟩,fun j hj=>?_,h.hinj,h.ginj,fun j hj=>by rw [hst.bk];exact h.gbk j hj,h.hlt,h.zs,by rw [hst.wb,hst.bk];exact h.z0,h.zc,fun c hc=>open_stay hm he (h.opn c hc) hrow,fun j hj=>?_,fun a j ha hj hne b hb hx=>?_,?_⟩
 ·obtain ⟨t,h1,h2,h3,h4⟩:=h.thr j hj
  by_cases e:j=i
  ·subst e
   obtain ⟨t',k1,k2⟩:=hfit
   obtain ⟨t2,q1,q2,q3⟩:=hst.own t h1
   rw [k1] at q1
   cases q1
   exact ⟨t',k1,q2.trans h2,q3.trans h3,by rw [upd_same];exact k2⟩
  ·exact ⟨t,by rw [hst.oth j e];exact h1,h2,h3,by rw [upd_ne _ _ e];exact h4⟩
 ·by_cases e:j=i
  ·subst e
   rw [upd_same,upd_same,upd_same]
   exact ⟨hs,hM',hfar⟩
  ·rw [upd_ne _ _ e,upd_ne _ _ e,upd_ne _ _ e]
   have:=h.sees j hj
   exact ⟨this.1,keepM he this.2.1 this.2.2 (h.apart i j hi hj (fun e'=>e e'.symm))⟩
 ·by_cases e1:j=i
  ·subst e1
   rw [upd_same] at hb
   have hne':a≠j:=hne
   rw [upd_ne _ _ hne'] at hx
   rcases hdom b hb with h1|h1
   ·exact h.apart a j ha hj hne b h1 hx
   ·have:=hlt a ha b (h.abM ha hx)
    omega
  ·rw [upd_ne _ _ e1] at hb
   by_cases e2:a=i
   ·subst e2
    rw [upd_same] at hx
    rcases hx with h1|h1
    ·exact h.apart a j ha hj hne b hb (.inl h1)
    ·rcases hnew b h1 with h2|h2
     ·exact h.apart a j ha hj hne b hb (.inr h2)
     ·have:=hlt j hj b hb;omega
   ·rw [upd_ne _ _ e2] at hx
    exact h.apart a j ha hj hne b hb hx
 ·have:=keepM he h.mine.1 h.mine.2.1 (h.mine.2.2.2.1 i hi)
  refine ⟨this.1,this.2,h.mine.2.2.1,fun a ha b hb hx=>?_,he.fr.os.trans h.mine.2.2.2.2.1,he.fr.output.trans h.mine.2.2.2.2.2⟩
  by_cases e2:a=i
  ·subst e2
   rw [upd_same] at hx
   rcases hx with h1|h1
   ·exact h.mine.2.2.2.1 a ha b hb (.inl h1)
   ·rcases hnew b h1 with h2|h2
    ·exact h.mine.2.2.2.1 a ha b hb (.inr h2)
    ·have:=h.mine.1.lt hb;omega
  ·rw [upd_ne _ _ e2] at hx
   exact h.mine.2.2.2.1 a ha b hb hx
end
structure Seats (k N:Nat) (X:Nat→Fix mc) (l:Nat→Ph) (E:Nat→Nat→Prop) (M:Nat→Nat→Option Obj) (bk:Nat) (Inb:Nat→Option Seat):Prop where
 seat:∀ i,i<k→∃ n,N≤n∧Inb (X i).h=seatOf (X i) (Home (X i) n) (l i) (E i) (M i)
 none:∀ g,g≠0→(∀ i,i<k→(X i).h≠g)→Inb g=none
 main:∀ s c,Inb 0=some s→s.has c→c=bk
section
variable {k N:Nat} {X:Nat→Fix mc} {l:Nat→Ph} {E:Nat→Nat→Prop} {M:Nat→Nat→Option Obj} {bk:Nat} {Inb:Nat→Option Seat}
theorem seatOf_has {Y:Fix mc} {Hm:Ph→(Nat→Prop)→(Nat→Option Obj)→Goroutine→Prop} {p:Ph} {e:Nat→Prop} {m:Nat→Option Obj} {s:Seat} (h:seatOf Y Hm p e m=some s):s=seatT Y.gc (Hm p e m)∧∀ a,p≠.done a:=by
 cases p with
 |turn=>cases h;exact ⟨rfl,fun _ h=>by cases h⟩
 |wait=>cases h;exact ⟨rfl,fun _ h=>by cases h⟩
 |done=>cases h
theorem Seats.who (h:Seats k N X l E M bk Inb) {g:Nat} {s:Seat} {c:Nat} (hg:Inb g=some s) (hc:s.has c):(g=0∧c=bk)∨∃ i,i<k∧(X i).h=g∧c=(X i).gc:=by
 by_cases e0:g=0
 ·subst e0
  exact .inl ⟨rfl,h.main s c hg hc⟩
 ·by_cases hx:∃ i,i<k∧(X i).h=g
  ·obtain ⟨i,hi,rfl⟩:=hx
   obtain ⟨n,_,hs⟩:=h.seat i hi
   rw [hs] at hg
   obtain ⟨rfl,_⟩:=seatOf_has hg
   exact .inr ⟨i,hi,rfl,Seat.one_has.1 hc⟩
  ·rw [h.none g e0 (fun i hi e=>hx ⟨i,hi,e⟩)] at hg
   cases hg
end
variable {mc:Mc}
def HomeT (wb:Nat) (cs:List Frame) (g:Goroutine):Prop:=∀ (z:Nat→Option Nat) (Ch:Nat→Prop) (Stop:Goroutine→World→Prop) (x:Value) (w:World),(∀ u,GoesI Tryd.prog true (DT (ScZ z) Ch) Stop (G (tFr wb u) cs) w)→GoesI Tryd.prog true (DT (ScZ z) Ch) Stop (Go.Conc.served g x) w
theorem atGive_at {K:World→Prop} {Still:Loc→Prop} {h c:Nat} {v:Value} {o:Option Seat} {F:World→Prop} {a:Goroutine} {w:World} (hF:∀ d,F w→F (w.at d)) (hg:Lift.AtGive Tryd.prog K Still h c v o F a w) (d:Nat):Lift.AtGive Tryd.prog K Still h c v o F a (w.at d):=by
 obtain ⟨h1,h2,a₂,z,es,nh,B₀,hB,hs,rest⟩:=hg
 exact ⟨h1,hF d h2,a₂,z,es,nh,B₀,hB,fun d'=>hs d',rest⟩
structure Holds (k N:Nat) (X:Nat→Fix mc) (l:Nat→Ph) (E:Nat→Nat→Prop) (M:Nat→Nat→Option Obj) (Mm:Keep) (z:Nat→Option Nat) (cont:Addr→Value) (Ch:Nat→Prop) (S:TS) (K:List (Nat×Int)) (v:World) (B:Nat) (Mb:Nat→Prop) (Inb:Nat→Option Seat) (h:Nat) (T:Trace) (gs:Array Goroutine) (w:World) (q:Nat→Nat):Prop where
 ring:Ring Tryd.prog (KC (ScZ z) cont) (StillC (ScZ z)) B Mb Inb h T gs w q
 mb:Mb h
 b:B≤w.heap.size
 rel:Rel z v w
 mem:Mem z S K v
 crew:Crew k X l E M Mm z cont Ch S K v gs.size
 seats:Seats k N X l E M S.bk Inb
 len:S.thr.length=k
 stt:∀ i,i<k→∀ t,S.thr[i]? = some t→StN (l i) t
section
variable {k N:Nat} {X:Nat→Fix mc} {l:Nat→Ph} {E:Nat→Nat→Prop} {M:Nat→Nat→Option Obj} {Mm:Keep} {z:Nat→Option Nat} {cont:Addr→Value} {Ch:Nat→Prop} {S:TS} {K:List (Nat×Int)} {v:World} {B:Nat} {Mb:Nat→Prop} {Inb:Nat→Option Seat} {h:Nat} {T:Trace} {gs:Array Goroutine} {w:World} {q:Nat→Nat}
theorem seat_ch {gsz:Nat} (cr:Crew k X l E M Mm z cont Ch S K v gsz) (st:Seats k N X l E M S.bk Inb):∀ g s c,Inb g=some s→s.has c→Ch c:=fun g s c hg hc=>by
 rcases st.who hg hc with ⟨_,rfl⟩|⟨i,hi,_,rfl⟩
 ·exact cr.z0.2.2
 ·exact (cr.zs i hi).2.2
theorem open_rel {v' w':World} (hr:Rel z v' w') (hn:NoRow Ch v') {c:Nat} (hc:Ch c) (ho:Open v' c):∃ cap k,w'.heap[c]? = some (.chan cap #[] false k k false):=by
 obtain ⟨cap,n,hh⟩:=ho
 exact ⟨cap,n,by rw [noRow_rel hr hn hc];exact hh⟩
theorem rdy_mem {i:Nat} (hi:(rdyIds S S.thr.length)[pickAt S (rdyIds S S.thr.length)]? = some i):i<S.thr.length∧(S.thr[i]?).any (rdy S)=true:=by
 have:=List.mem_of_getElem? hi
 unfold rdyIds at this
 rw [List.mem_filter,List.mem_range] at this
 exact this
theorem round_go {u:Nat→Value} {cs:List Frame} (H:Holds k (N+1) X l E M Mm z cont Ch S K v B Mb Inb 0 T gs w q) (hg:gs[0]? = some (G (tFr S.wb u) cs)) (h8:k≤8) (hsl:S.sched.length≤4611686018427387904) (hsc:∀ x∈S.sched,-9223372036854775808≤x∧x<9223372036854775808)
 {i:Nat} (hi:(rdyIds S S.thr.length)[pickAt S (rdyIds S S.thr.length)]? = some i) (sl:Option (Nat×Nat)) (hl:(resume i mc (l i) (nv (going S i (thrI S i))) K).1.n*40≤140737488355328) :
 ∃ (N':Nat) (gs':Array Goroutine) (w':World) (sl':Option (Nat×Nat)) (T':Trace) (q':Nat→Nat) (B':Nat) (Mb':Nat→Prop) (Inb':Nat→Option Seat) (S':TS) (v':World) (E':Nat→Nat→Prop) (M':Nat→Nat→Option Obj) (u':Nat→Value),
   runNT Tryd.prog N' (crowd gs w sl) T=(.next (crowd gs' w' sl'),T')∧gs'.size=gs.size∧gs'[0]? = some (G (tFr S'.wb u') cs)∧nv S'=(resume i mc (l i) (nv (going S i (thrI S i))) K).1 ∧
   Holds k N X (upd l i (resume i mc (l i) (nv (going S i (thrI S i))) K).2.2) E' M' Mm z cont Ch S' (resume i mc (l i) (nv (going S i (thrI S i))) K).2.1 v' B' Mb' Inb' 0 T' gs' w' q':=by
 have cr:=H.crew
 have st:=H.seats
 obtain ⟨hik,hrd⟩:=rdy_mem hi
 rw [H.len] at hik
 obtain ⟨t,ht,htb,hgc,hfit⟩:=cr.thr i hik
 obtain ⟨ok,hXi,hXk⟩:=cr.ok i hik
 have hst3:t.st≠3:=by
  rw [ht] at hrd
  simp only [Option.any_some] at hrd
  intro e
  unfold rdy at hrd
  rw [e] at hrd
  simp at hrd
 have eth:thrI S i=t:=thrI_of ht
 rw [eth] at hl ⊢
 have h0h:0≠(X i).h:=fun e=>by have:=ok.h;omega
 obtain ⟨n,hn,hseat⟩:=st.seat i hik
 obtain ⟨n',rfl⟩:∃ n',n=n'+1:=⟨n - 1,by omega⟩
 have hcons:∀ a,l i≠.done a:=fun a e=>by rw [e] at hfit;exact hst3 hfit
 have hseat':Inb (X i).h=some (seatT (X i).gc (Home (X i) (n'+1) (l i) (E i) (M i))):=by
  rw [hseat]
  match hli:l i,hcons with
  |.turn _ _ _ _ _ _,_=>rfl
  |.wait _ _ _ _ _,_=>rfl
  |.done a,hc=>exact absurd rfl (hc a)
 have hG:GoesI Tryd.prog ((0:Nat)==0) (DT (ScZ z) Ch) (Lift.AtGive Tryd.prog (KC (ScZ z) cont) (StillC (ScZ z)) 0 t.gc (.agg #[]) (some (Seat.one S.bk (.agg #[]) false (HomeT S.wb cs))) (Then z Ch S K v (going S i t) K)) (G (tFr S.wb u) cs) w :=
  turn_in u cs (fun bd ad od qd rd oe kd hoe hT hF code hcode=>turn50_goes cs (HomeT S.wb cs) hoe (fun g hb z Ch Stop x w h=>hb _ Stop x w (dt_idle _ _) (hT z Ch Stop w h)) H.rel cr.noRow H.mem (by rw [H.len];exact h8) hsl hsc (List.length_pos_of_mem (List.mem_of_getElem? hi)) hi ht cr.z0.1 cr.z0.2.1 (fun g w' hg=>hg) code hcode)
 rw [hgc] at hG
 have hch0:=seat_ch cr st
 have hup0:∀ g s c,upd Inb 0 (some (Seat.one S.bk (.agg #[]) false (HomeT S.wb cs))) g=some s→s.has c→Ch c:=fun g s c hg hc=>by
  by_cases e:g=0
  ·subst e;rw [upd_same] at hg;cases hg
   rw [Seat.one_has.1 hc];exact cr.z0.2.2
  ·rw [upd_ne _ _ e] at hg;exact hch0 g s c hg hc
 obtain ⟨N1,gs1,w1,g₂,d,kk,cap,sl1,T1,q1,B1,r1,⟨v1,hr1,hn1,he1⟩,z1,h1,hh,hch,⟨hB1,hB1b,hB1c⟩,C1⟩:=pass_on (Inb:=Inb) (Mem:=Mb) (h:=0) (j:=(X i).h) (c:=(X i).gc) (kk:=0) (z:=.agg #[]) (fun w d h=>kc_at w d h)
  (fun s hs=>by
    cases hs
    refine ⟨Seat.one_wf _ _ _ _,fun g s' c hg hs' hc hc'=>?_,fun w' hF c hc=>?_⟩
    ·rw [Seat.one_has.1 hc'] at hc
     rcases st.who hs' hc with ⟨e,_⟩|⟨j,hj,_,e⟩
     ·exact hg e
     ·exact cr.gbk j hj e.symm
    ·obtain ⟨v1,k1,k2,k3⟩:=hF
     rw [Seat.one_has.1 hc]
     exact open_rel k1 k2 cr.z0.2.2 (open_stay H.mem (Evo.toP (Pr:=fun _=>False) k3) (cr.opn _ cr.z0.2.2) (fun _ h=>h.elim)))
  (fun w g s c cap buf cl a b tm hg hc hK=>kc_chan (cr.zc c (hup0 g s c hg hc)) hK cap buf cl a b tm)
  (fun w g s c cap buf cl a b tm hg hc hK=>kc_chan (cr.zc c (hch0 g s c hg hc)) hK cap buf cl a b tm)
  (dh_of_dt hch0) (Ne.symm h0h) hseat' rfl H.mb hG gs sl T q B (cr.hlt i hik) hg H.ring
 have hgCh:=(cr.zs i hik).2.2
 have hS1:(going S i t).wb=S.wb∧(going S i t).bk=S.bk∧(going S i t).thr=S.thr.set i { t with st:=0 }:=by
  unfold going picked
  split<;>exact ⟨rfl,rfl,rfl⟩
 have ht1:(going S i t).thr[i]? = some { t with st:=0 }:=by rw [hS1.2.2];exact set_get ht
 have cr1:Crew k X l E M Mm z cont Ch (going S i t) K v1 gs.size:=cr.main H.mem he1 hS1.1 hS1.2.1 (by rw [hS1.2.2,List.length_set]) (fun j t0 hj=>by
  rw [hS1.2.2]
  by_cases e:j=i
  ·subst e
   rw [ht] at hj
   cases hj
   exact ⟨_,set_get ht,rfl,rfl,rfl,rfl,fun h=>absurd h hst3⟩
  ·exact ⟨t0,by rw [List.getElem?_set,if_neg (fun e'=>e e'.symm)];exact hj,rfl,rfl,rfl,rfl,id⟩)
 have hno1:∀ (x:Array Value) (e:TypeId) (f:Nat×Nat),Obj.chan cap #[] false kk kk false≠Obj.cells x e f:=fun _ _ _ h=>by cases h
 have hv1c:v1.heap[(X i).gc]? = some (.chan cap #[] false kk kk false):=by rw [←noRow_rel hr1 hn1 hgCh];exact hch
 have cr2:=cr1.chan hgCh cap (kk+1)
 have hm2:Mem z (going S i t) K (v1.setChan (X i).gc cap #[] false (kk+1) (kk+1) false):=he1.mem.chan hv1c hno1 cap #[] false (kk+1) (kk+1) false
 have hr2:=rel_chan hr1 (cr.zc _ hgCh) cap #[] false (kk+1) (kk+1) false d
 generalize hv2:v1.setChan (X i).gc cap #[] false (kk+1) (kk+1) false=v2 at cr2 hm2 hr2
 generalize hw2:(w1.at d).setChan (X i).gc cap #[] false (kk+1) (kk+1) false=w2 at hr2 C1 r1
 have hw2s:w2.heap.size=w1.heap.size:=by rw [←hw2];simp [World.setChan,World.at]
 have eR:resume (X i).i mc (l i) (nv (going S i t)) K=resume i mc (l i) (nv (going S i t)) K:=by rw [hXi]
 have hfit1:FitsN (l i) { t with st:=0 }:=by
  match hli:l i,hcons,hfit with
  |.turn _ _ _ _ _ _,_,hf=>exact hf
  |.wait _ _ _ _ _,_,hf=>exact hf
  |.done a,hc,_=>exact absurd rfl (hc a)
 have hG2:GoesI Tryd.prog ((X i).h==0) (DT (ScZ z) Ch) (fun g' w'=>∃ E' M',Gives (X i) (Home (X i) n') z cont Ch (going S i t) K v2 (E i) (resume i mc (l i) (nv (going S i t)) K).1 (resume i mc (l i) (nv (going S i t)) K).2.1 (resume i mc (l i) (nv (going S i t)) K).2.2 E' M' g' w') (Go.Conc.served g₂ (commResult (seatT (X i).gc (Home (X i) (n'+1) (l i) (E i) (M i))).cases (seatT (X i).gc (Home (X i) (n'+1) (l i) (E i) (M i))).shape ((0:Nat):Int) (.agg #[]) true)) w2:=by
  have hhome:Home (X i) (n'+1) (l i) (E i) (M i) g₂:=hh
  refine hhome z Ch _ cont _ w2 v2 (going S i t) K { t with st:=0 } hr2 cr2.noRow hm2 (by rw [hXi];exact ht1) htb hgc hfit1.fits hXk (cr.zs i hik).1 (cr.zs i hik).2.1 (cr2.sees i hik).2.1 (cr2.sees i hik).2.2 (by rw [eR];exact hl) (fun g' w' E' M' hgv=>⟨E',M',?_⟩)
  rw [eR] at hgv
  exact hgv
 generalize hR:resume i mc (l i) (nv (going S i t)) K=R at hG2 hl ⊢
 have st1:Seats k (N+1) X l E M S.bk (upd Inb 0 (some (Seat.one S.bk (.agg #[]) false (HomeT S.wb cs)))):=by
  refine ⟨fun j hj=>?_,fun g hg0 hgn=>by rw [upd_ne _ _ hg0];exact st.none g hg0 hgn,fun s c hs hc=>?_⟩
  ·rw [upd_ne _ _ (fun e=>by have:=(cr.ok j hj).1.h;omega)]
   exact st.seat j hj
  ·rw [upd_same] at hs;cases hs
   exact Seat.one_has.1 hc
 obtain ⟨N2,gs2,a2,w3,sl2,T2,q2,B2,r2,z2,h2,⟨E',M',hs',hnew',hat⟩,⟨hB2,hB2b,hB2c⟩,C2⟩:=hold_goes (fun w d h=>kc_at w d h) (dh_of_dt hup0) hG2 gs1 sl1 T1 q1 B1 h1 C1
 have hbk1:(going S i t).bk=S.bk:=hS1.2.1
 rw [hbk1] at hat
 have hwbk:Ch S.bk:=cr.z0.2.2
 have hupd2:∀ g s c,upd (upd Inb 0 (some (Seat.one S.bk (.agg #[]) false (HomeT S.wb cs)))) (X i).h (seatOf (X i) (Home (X i) n') R.2.2 E' M') g=some s→s.has c→Ch c:=fun g s c hg hc=>by
  by_cases e:g=(X i).h
  ·subst e;rw [upd_same] at hg
   obtain ⟨rfl,_⟩:=seatOf_has hg
   rw [Seat.one_has.1 hc];exact hgCh
  ·rw [upd_ne _ _ e] at hg;exact hup0 g s c hg hc
 have hrow2:∀ b,(b=(X i).ab∨E i b)→∃ x e f,v2.heap[b]? = some (.cells x e f):=fun b hb=>by
  obtain ⟨o,ho⟩:=Option.ne_none_iff_exists'.1 (cr2.abM hik hb)
  obtain ⟨x,e,f,rfl⟩:=(cr2.sees i hik).1.row b o ho
  exact ⟨x,e,f,(cr2.sees i hik).2.1 b _ ho⟩
 have hMi:Mb (X i).h:=(H.ring.mem _ _ hseat').1
 obtain ⟨N3,gs3,w4,g₃,d3,kk3,cap3,sl3,T3,q3,B3,r3,hF3,z3,h3,hh3,hch3,⟨hB3,hB3b,hB3c⟩,C3⟩:=pass_on (Inb:=upd Inb 0 (some (Seat.one S.bk (.agg #[]) false (HomeT S.wb cs)))) (h:=(X i).h) (j:=0) (c:=S.bk) (kk:=0) (z:=.agg #[]) (s:=Seat.one S.bk (.agg #[]) false (HomeT S.wb cs)) (fun w d h=>kc_at w d h)
  (fun s hs=>by
    obtain ⟨rfl,_⟩:=seatOf_has hs
    refine ⟨Seat.one_wf _ _ _ _,fun g s' c hg hs'' hc hc'=>?_,fun w' hF c hc=>?_⟩
    ·have ec:c=(X i).gc:=Seat.one_has.1 hc'
     rw [ec] at hc
     rcases st1.who hs'' hc with ⟨_,e⟩|⟨j,hj,hjg,e⟩
     ·exact cr.gbk i hik e
     ·exact hg (by rw [←hjg,cr.ginj i j hik hj e])
    ·obtain ⟨v3,S',k1,k2,k3,k4,k5⟩:=hF
     rw [show c=(X i).gc from Seat.one_has.1 hc]
     exact open_rel k1 k2 hgCh (open_stay hm2 k4 (cr2.opn _ hgCh) hrow2))
  (fun w g s c cap buf cl a b tm hg hc hK=>kc_chan (cr.zc c (hupd2 g s c hg hc)) hK cap buf cl a b tm)
  (fun w g s c cap buf cl a b tm hg hc hK=>kc_chan (cr.zc c (hup0 g s c hg hc)) hK cap buf cl a b tm)
  (D:=DT (ScZ z) Ch) (dh_of_dt hup0) h0h (upd_same _ _ _) rfl ⟨hMi,.inr rfl⟩
  (GoesI.stop (fun d=>atGive_at (fun d hF=>by obtain ⟨v3,S',k1,k2⟩:=hF;exact ⟨v3,S',k1.re rfl rfl rfl rfl rfl rfl,k2⟩) hat d)) gs2 sl2 T2 q2 B2 (by have:=(Array.getElem?_eq_some_iff.1 hg).1;omega) h2 C2
 obtain ⟨v3,S',hr3,hn3,hS',he3,hM3,hfar3⟩:=hF3
 have sR:=resume_sta i mc (l i) (nv (going S i t)) K
 rw [hR,←hS'] at sR
 have sR':Sta i (going S i t) S':=⟨sR.wb,sR.bk,sR.base,sR.us,sR.la,sR.sc,sR.cv,sR.ths,sR.sched,sR.stk,sR.ran,sR.n,sR.chg,sR.len,sR.oth,sR.own⟩
 have hfit':∃ t',S'.thr[i]? = some t'∧FitsN R.2.2 t':=by
  obtain ⟨t',k1,k2,_⟩:=resume_fs i mc (nv (going S i t)) K { t with st:=0 } ht1 (l i) hcons
  rw [hR,←hS'] at k1
  rw [hR] at k2
  exact ⟨t',k1,k2⟩
 have cr3:=cr2.thread hm2 hik he3 sR' hfit' hs' hM3 hfar3 hnew'
 have hwb':S'.wb=S.wb:=sR'.wb.trans hS1.1
 have hbk':S'.bk=S.bk:=sR'.bk.trans hS1.2.1
 have hv3c:v3.heap[S.bk]? = some (.chan cap3 #[] false kk3 kk3 false):=by rw [←noRow_rel hr3 hn3 hwbk];exact hch3
 have cr4:=cr3.chan hwbk cap3 (kk3+1)
 have hm4:Mem z S' R.2.1 (v3.setChan S.bk cap3 #[] false (kk3+1) (kk3+1) false):=he3.mem.chan hv3c (fun _ _ _ h=>by cases h) cap3 #[] false (kk3+1) (kk3+1) false
 have hr4:=rel_chan hr3 (cr.zc _ hwbk) cap3 #[] false (kk3+1) (kk3+1) false d3
 generalize hv4:v3.setChan S.bk cap3 #[] false (kk3+1) (kk3+1) false=v4 at cr4 hm4 hr4
 generalize hw5:(w4.at d3).setChan S.bk cap3 #[] false (kk3+1) (kk3+1) false=w5 at hr4 C3 r3
 have hw5s:w5.heap.size=w4.heap.size:=by rw [←hw5];simp [World.setChan,World.at]
 have hG4:GoesI Tryd.prog ((0:Nat)==0) (DT (ScZ z) Ch) (fun g w'=>(∃ u,g=G (tFr S.wb u) cs)∧Rel z v4 w') (Go.Conc.served g₃ (commResult (Seat.one S.bk (.agg #[]) false (HomeT S.wb cs)).cases (Seat.one S.bk (.agg #[]) false (HomeT S.wb cs)).shape ((0:Nat):Int) (.agg #[]) true)) w5:=by
  have hhome:HomeT S.wb cs g₃:=hh3
  exact hhome z Ch _ _ w5 (fun u=>GoesI.stop fun d=>⟨⟨u,rfl⟩,hr4.re rfl rfl rfl rfl rfl rfl⟩)
 obtain ⟨N4,gs4,a4,w6,sl4,T4,q4,B4,r4,z4,h4,⟨⟨u4,rfl⟩,hr6⟩,⟨hB4,hB4b,hB4c⟩,C4⟩:=hold_goes (fun w d h=>kc_at w d h) (dh_of_dt hupd2) hG4 gs3 sl3 T3 q3 B3 h3 C3
 have hsz:gs4.size=gs.size:=by omega
 refine ⟨N1+N2+N3+N4,gs4,w6,sl4,T4,q4,B4,_,_,S',v4,upd E i E',upd M i M',u4,runNT_then (runNT_then (runNT_then r1 r2) r3) r4,hsz,by rw [hwb'];exact h4,hS',⟨C4,⟨⟨H.mb,.inl (by rw [upd_same];simp)⟩,.inr rfl⟩,?_,hr6,hm4,by rw [hsz];exact cr4,?_,by rw [sR'.len,hS1.2.2,List.length_set];exact H.len,fun j hj t0 hj0=>?_⟩⟩
 ·have:=H.b
  omega
 ·rw [hbk']
  refine ⟨fun j hj=>?_,fun g hg0 hgn=>?_,fun s c hs hc=>?_⟩
  ·by_cases e:j=i
   ·subst e
    exact ⟨n',by omega,by rw [upd_same,upd_same,upd_same,upd_same]⟩
   ·have hne:(X j).h≠(X i).h:=fun e'=>e (cr.hinj j i hj hik e')
    obtain ⟨m,hm,hsm⟩:=st1.seat j hj
    exact ⟨m,by omega,by rw [upd_ne _ _ hne,upd_ne _ _ e,upd_ne _ _ e,upd_ne _ _ e];exact hsm⟩
  ·rw [upd_ne _ _ (fun e=>hgn i hik e.symm)]
   exact st1.none g hg0 hgn
  ·rw [upd_ne _ _ h0h] at hs
   exact st1.main s c hs hc
 ·by_cases e:j=i
  ·subst e
   obtain ⟨t',k1,_,k2⟩:=resume_fs j mc (nv (going S j t)) K { t with st:=0 } ht1 (l j) hcons
   rw [hR,←hS'] at k1
   rw [hR] at k2
   have e2:some t0=some t':=hj0.symm.trans k1
   cases e2
   rw [upd_same]
   exact k2
  ·rw [upd_ne _ _ e]
   rw [sR'.oth j e,hS1.2.2,List.getElem?_set,if_neg (fun e'=>e e'.symm)] at hj0
   exact H.stt j hj t0 hj0
end
end Go.Proofs.YtfjjoohflcchnaaDoor.Gen
