/- Of the proof of OnceAlone. Part 9 of 30. (Joined, by program, and written short, of: None, Until, Carry, Hire, Hire2, Hire3, Main35, Alone.) -/
import Derived.Test.YtfjjoohflcchnaaDoorOnceAlone06
import Derived.Test.YtfjjoohflcchnaaDoorOnceAlone07
import Derived.Test.YtfjjoohflcchnaaDoorOnceAlone08
import Derived.Conc.SmallLaws
set_option linter.unusedSimpArgs false
set_option linter.unusedVariables false
set_option maxHeartbeats 4000000
set_option maxRecDepth 100000
namespace Go.Proofs.YtfjjoohflcchnaaDoor
open Go Go.Lift Go.Conc Go.RowKit
theorem noted_ev {z:Nat→Option Nat} {S:TS} {v v':World} {news:List Value} (h:Rep z S v) (hN:Noted S.wb S.tv S.n S.base S.tr news v v'):∃ tv',Ev z S v { S with tv:=tv',n:=S.n+1,tr:=S.tr++news } v':=by
 obtain ⟨g,cap,hw,hown,hat,hfr⟩:=hN
 have hst:∀ k b,blk S k=some b→k≠0→k≠3→v'.heap[b]? = v.heap[b]?:=fun k b hk h0 h3=>hfr.block b (h.lt hk) (fun hS=>by
  rcases hS with rfl|hS
  ·exact h0 (h.apart k 0 _ hk rfl)
  ·exact h3 (h.apart k 3 b hk hS.symm))
 have hnew:∀ k b,blk { S with tv:=.slice (some ⟨g,0,none⟩) (S.n+1) cap,n:=S.n+1,tr:=S.tr++news } k=some b→(blk S k=some b)∨(k=3∧b=g):=fun k b hk=>by
  match k,hk with
  |0,hk=>exact .inl hk
  |1,hk=>exact .inl hk
  |2,hk=>exact .inl hk
  |3,hk=>cases hk;exact .inr ⟨rfl,rfl⟩
  |4,hk=>exact .inl hk
  |k+5,hk=>exact .inl hk
 refine ⟨.slice (some ⟨g,0,none⟩) (S.n+1) cap,⟨?_,fun j t' ht'=>?_,hown,?_,?_,?_,Nat.le_trans h.bs hfr.size,fun j k b hj hk=>?_,h.kept⟩,hfr.mono (fun x _ hx=>?_),fun b ⟨k,hk⟩=>?_⟩
 ·have:=hw _ _ _ h.wor
  simpa using this
 ·rw [hst (j+5) t'.tb (by simp [blk,ht']) (by omega) (by omega)]
  exact h.thr j t' ht'
 ·exact own_stay (fun b hb=>hst 1 b hb (by omega) (by omega)) h.chg
 ·exact own_stay (fun b hb=>hst 2 b hb (by omega) (by omega)) h.ths
 ·exact own_stay (fun b hb=>hst 4 b hb (by omega) (by omega)) h.sch
 ·rcases hnew j b hj with e1|⟨rfl,rfl⟩<;>rcases hnew k b hk with e2|⟨rfl,e2⟩
  ·exact h.apart j k b e1 e2
  ·subst e2
   rcases hat with ha|ha
   ·exact h.apart j 3 b e1 ha
   ·have:=h.lt e1;omega
  ·rcases hat with ha|ha
   ·exact h.apart 3 k b ha e2
   ·have:=h.lt e2;omega
  ·rfl
 ·rcases hx with rfl|hx
  ·exact ⟨0,rfl⟩
  ·exact ⟨3,hx.symm⟩
 ·rcases hnew k b hk with e1|⟨_,rfl⟩
  ·exact .inl ⟨k,e1⟩
  ·rcases hat with ha|ha
   ·exact .inl ⟨3,ha⟩
   ·exact .inr ha
def stuckS (S:TS) (tv:Value):TS:={ S with stk:=true,tv:=tv,n:=S.n+1,tr:=S.tr++[I (-1),I (-1),I 7,I 0,I 0] }
theorem news5n (w:World) (a b c d e:Int) (t:TypeId) {n:Nat} (hn:n=w.heap.size):∀ j u,[I a,I b,I c,I d,I e][j]? = some u→(w.alloc (.cells #[I a,I b,I c,I d,I e] t)).cell? ((⟨n,0,none⟩:Addr).add j)=some u:=by
 subst hn;exact news5 w a b c d e t
theorem end_wp {S:TS} {v:World} (p:Option Addr) (cap:Nat) (u6 u8 u9 u10 u11 u12 u13 u14 u15 u16 u17 u18 u19 u20 u21 u22 u23 u24 u25 u26 u27 u28 u29 u30 u31:Value) :
 c510.wp Tryd.prog (fun e a w'=>e=.ret∧∃ x,(results Tryd.f125 a.tmps).run Tryd.prog w'=.ok x w'∧(x=.bool false∧w'=v)) { tmps:=#[Pt S.wb 0,undef,.bool false,.slice p 0 cap,.bool false,undef,u6,undef,u8,u9,u10,u11,u12,u13,u14,u15,u16,u17,u18,u19,u20,u21,u22,u23,u24,u25,u26,u27,u28,u29,u30,u31]++Array.replicate 41 undef,defers:=[] } v:=by
 show Code.wp Tryd.prog c510 _ _ _
 unfold c510 Tryd.f125 seq1 seq2
 simp only [Option.getD_some,Array.replicate_succ,Array.replicate_zero,List.push_toArray,List.append_toArray,List.nil_append,List.cons_append]
 go_wp2_with fail
 exact results_tmp (t:=2) rfl _ _ _
theorem stuck_wp {z:Nat→Option Nat} {S:TS} {v:World} (h:Rep z S v) (hn:(S.n+1)*40≤140737488355328) (p:Option Addr) (cap:Nat) (u6 u8 u9 u10 u11 u12 u13 u14 u15 u16 u17 u18 u19 u20 u21 u22 u23 u24 u25 u26 u27 u28 u29 u30 u31:Value) :
 c510.wp Tryd.prog (fun e a w'=>e=.ret∧∃ x,(results Tryd.f125 a.tmps).run Tryd.prog w'=.ok x w'∧(x=.bool true∧∃ tv,Ev z S v (stuckS S tv) w')) { tmps:=#[Pt S.wb 0,undef,.bool false,.slice p 0 cap,.bool true,undef,u6,undef,u8,u9,u10,u11,u12,u13,u14,u15,u16,u17,u18,u19,u20,u21,u22,u23,u24,u25,u26,u27,u28,u29,u30,u31]++Array.replicate 41 undef,defers:=[] } v:=by
 have c5:=h.wcell.2.2.2.2.2.1
 have c6:=h.wcell.2.2.2.2.2.2.1
 have f5:=fz_off h 5 (by omega)
 have f6:=fz_off h 6 (by omega)
 have h1:=world_set h S.us S.la true 6 (.bool true) (by simp)
 have HV:Hid (Ev z S v { S with us:=S.us,la:=S.la,stk:=true } (v.setCell ⟨S.wb,6,none⟩ (.bool true))):=⟨h1⟩
 have K5:Hid ((v.setCell ⟨S.wb,6,none⟩ (.bool true)).cell? ⟨S.wb,5,none⟩=some S.tv∧(v.setCell ⟨S.wb,6,none⟩ (.bool true)).frozen? ⟨S.wb,5,none⟩=false):=⟨⟨h1.rep.wcell.2.2.2.2.2.1,fz_off h1.rep 5 (by omega)⟩⟩
 have n1:S.tv.ownBlock≠some S.wb:=fun e=>by have:=h.apart 3 0 S.wb e rfl;omega
 have q5:S.wb<v.heap.size:=World.block_lt_of_cell? _ _ c5
 have qb:S.base≤v.heap.size:=h.bs
 have HO:Hid ((v.setCell ⟨S.wb,6,none⟩ (.bool true)).ownsRow S.base 60 5 S.tv S.n S.tr):=⟨h1.rep.own⟩
 obtain ⟨tp,tc,htv⟩:=own_form h.own
 rw [htv] at c5
 have HO':Hid ((v.setCell ⟨S.wb,6,none⟩ (.bool true)).ownsRow S.base 60 5 (.slice tp S.n tc) S.n S.tr):=⟨by rw [←htv];exact HO.out⟩
 have n1':(Value.slice tp S.n tc).ownBlock≠some S.wb:=by rw [←htv];exact n1
 have HTV:Hid (S.tv=.slice tp S.n tc):=⟨htv⟩
 clear htv
 obtain ⟨j0,hj,hj0,hj1,hj2⟩:=info_parts info34
 have hne:S.wb≠v.heap.size:=by omega
 have hne':v.heap.size≠S.wb:=by omega
 clear h h1
 show Code.wp Tryd.prog c510 _ _ _
 unfold c510 Tryd.f125 seq1 seq2
 simp only [Option.getD_some,Array.replicate_succ,Array.replicate_zero,List.push_toArray,List.append_toArray,List.nil_append,List.cons_append]
 go_wp2_with (first
  |(refine wpList_append_lies _ rfl (.tmp 43) (.tmp 45) 41 rfl S.base 60 j0 _ 5 40 Tryd.underlying41 hj hj0 hj1 hj2 rfl (by decide) (.slice tp S.n tc) S.n S.tr rfl (own_later (below_alloc (Below.refl _ _) _) HO'.out) ⟨_,0,none⟩ 1 1 [I (-1),I (-1),I 7,I 0,I 0] rfl rfl (news5n _ _ _ _ _ _ _ (by simp [World.setCell])) (one5 _ _ _ _ _) (by decide) (by unfold maxLen;omega) (by omega) (by simp;omega) _ rfl ?_
    intro g cpg w6 hown6 hgrow6 hat6 hlt6
    obtain ⟨_,_,k5,k6⟩:=keep4g (keep4 ⟨K5.out.1,K5.out.1,K5.out.1,K5.out.2⟩ (below_alloc (Below.refl _ _) _)) hgrow6 n1' n1' n1'))
 refine ⟨_,results_tmp (t:=2) rfl _ _ _,rfl,?_⟩
 have hN:Noted S.wb S.tv S.n S.base S.tr [I (-1),I (-1),I 7,I 0,I 0] (v.setCell ⟨S.wb,6,none⟩ (.bool true)) (w6.setCell ⟨S.wb,5,none⟩ (.slice (some ⟨g,0,none⟩) (S.n+1) cpg)):=by
  rw [HTV.out]
  exact noted_of (below_alloc (Below.refl _ _) _) (by simpa [World.setCell] using q5) hgrow6 hown6 hat6 n1'
 obtain ⟨tv,hev⟩:=noted_ev HV.out.rep hN
 exact ⟨tv,HV.out.trans hev⟩
def blockC:Code→Code
 |.block _ c=>c
 |c=>c
def loopC:Code→Code
 |.loop c=>c
 |c=>c
noncomputable def L34:Code:=loopC (blockC (seq2 (seq2 (Tryd.f94.body.getD .skip))))
noncomputable def cFr (tb:Nat) (csl F asl:Value) (n ii:Nat) (sk:Bool) (u:Nat→Value):Frame :=
 (base 94).at ⟨#[Pt tb 0,csl,F,asl,undef,undef,undef,undef,.bool sk,u 9,u 10,csl,I n,I ii,u 14,u 15,u 16,u 17,u 18,u 19,u 20,u 21,u 22,u 23]++#[u 24,u 25,u 26,u 27,u 28,u 29,u 30,u 31,u 32,u 33,u 34,u 35,u 36,u 37,u 38,u 39,u 40,u 41,u 42,u 43,u 44,u 45,u 46,u 47],[]⟩ [.code L34,.inLoop L34,.inBlock 0]
theorem carry_in {z:Nat→Option Nat} {Ch:Nat→Prop} {Stop:Goroutine→World→Prop} {main:Bool} {w:World} {tb:Nat} (F asl:Value) (p:Option Addr) (n cap:Nat) (cs:List Frame)
 (hk:∀ u,GoesI Tryd.prog main (DT (ScZ z) Ch) Stop (G (cFr tb (.slice p n cap) F asl n 0 false u) cs) w) (code:Code) (hc:Tryd.f94.body=some code) :
 GoesI Tryd.prog main (DT (ScZ z) Ch) Stop (G ((base 94).at { tmps:=#[Pt tb 0,.slice p n cap,F,asl]++Array.replicate 44 undef,defers:=[] } [.code code]) cs) w:=by
 obtain rfl:=Option.some.inj hc
 clear hc
 simp only [Array.replicate_succ,Array.replicate_zero,List.push_toArray,List.append_toArray,List.nil_append,List.cons_append]
 refine goesI_seq (dt_idle _ _) ?_
 refine goesI_region (dt_idle _ _) ?_
 simp only [List.size_toArray,List.length_cons,List.length_nil,Nat.reduceAdd,Nat.zero_add,List.range,List.range.loop]
 (refine goesI_oper rfl rfl (by decide) (fun d K hK=>?_)
  go_simp
  refine hK _ _ ⟨dt_reads (fun e he=>?_),GoesI.at ?_ d⟩
  ·have hm:=mem_listed he
   simp [go_sem, *] at hm
  clear hK K)
 refine goesI_regionEnd (dt_idle _ _) ?_
 refine goesI_seq (dt_idle _ _) ?_
 refine goesI_region (dt_idle _ _) ?_
 simp only [List.size_toArray,List.length_cons,List.length_nil,Nat.reduceAdd,Nat.zero_add,List.range,List.range.loop]
 iterate 3
  (refine goesI_oper rfl rfl (by decide) (fun d K hK=>?_)
   go_simp
   refine hK _ _ ⟨dt_reads (fun e he=>?_),GoesI.at ?_ d⟩
   ·have hm:=mem_listed he
    simp [go_sem, *] at hm
   clear hK K)
 refine goesI_regionEnd (dt_idle _ _) ?_
 refine goesI_block (dt_idle _ _) ?_
 refine goesI_loop (dt_idle _ _) ?_
 have hk:=hk (fun _=>undef)
 unfold cFr L34 Tryd.f94 seq2 blockC loopC at hk
 simp only [Option.getD_some,List.append_toArray,List.cons_append,List.nil_append] at hk
 exact hk
theorem carry_end {z:Nat→Option Nat} {Ch:Nat→Prop} {Stop:Goroutine→World→Prop} {main:Bool} {w:World} {tb:Nat} (csl F asl:Value) (n:Nat) (sk:Bool) (u:Nat→Value) (cs:List Frame) {bc:Frame} {ac:Act} {ops:Array Oper} {q:Nat} {rest:List Nat} {oc:Oper} {k:List Item} (hoc:ops[q]? = some oc)
 (hk:GoesI Tryd.prog main (DT (ScZ z) Ch) Stop (G (bc.at (ac.put oc.dst (.tuple #[])) (.inRegion ops rest :: k)) cs) w) :
 GoesI Tryd.prog main (DT (ScZ z) Ch) Stop (G (cFr tb csl F asl n n sk u) (bc.at ac (.inRegion ops (q :: rest) :: k) :: cs)) w:=by
 unfold cFr L34 Tryd.f94 seq2 blockC loopC
 simp only [Option.getD_some,List.append_toArray,List.cons_append,List.nil_append]
 refine goesI_seq (dt_idle _ _) ?_
 refine goesI_region (dt_idle _ _) ?_
 simp only [List.size_toArray,List.length_cons,List.length_nil,Nat.reduceAdd,Nat.zero_add,List.range,List.range.loop]
 (refine goesI_oper rfl rfl (by decide) (fun d K hK=>?_)
  go_simp
  refine hK _ _ ⟨dt_reads (fun e he=>?_),GoesI.at ?_ d⟩
  ·have hm:=mem_listed he
   simp [go_sem, *] at hm
  clear hK K)
 refine goesI_regionEnd (dt_idle _ _) ?_
 refine goesI_seq (dt_idle _ _) ?_
 refine goesI_cond (dt_idle _ _) (t:=false) (by simp [Act.eval]) ?_
 simp only [if_true,if_false,Bool.false_eq_true]
 refine goesI_exit (dt_idle _ _) rfl ?_
 refine goesI_end (dt_idle _ _) ?_
 exact goesI_leave (b:=base 94) (fn:=Tryd.f94) rfl rfl Tryd.func94 (fun w=>results_none rfl _ _ _) (fun w=>by simp [results,go_sem]) hoc (dt_idle _ _) hk
theorem und55:∃ dir e i,Tryd.prog.underlying 94=some (.chan dir e)∧Tryd.prog.info? e=some i∧i.bytes=0:=by
 have h:((Tryd.prog.underlying 94).map fun t=>match t with|.chan d e=>((Tryd.prog.info? e).map fun i=>i.bytes)==some 0|_=>false)=some true:=by kernel_rfl
 cases hu:Tryd.prog.underlying 94 with
 |none=>rw [hu] at h;cases h
 |some t =>
  rw [hu] at h
  cases t with
  |chan d e =>
   simp only [Option.map_some,Option.some.injEq,beq_iff_eq] at h
   obtain ⟨i,hi,hb⟩:=Option.map_eq_some_iff.1 h
   exact ⟨d,e,i,rfl,hi,hb⟩
  |_=>cases h
theorem run_mk (v:World):(Instr.makeChan 94 (.int .i64 0)).run Tryd.prog v=.ok (.chan (some v.heap.size)) (v.alloc (.chan 0 #[] false 0 0 false)):=by
 obtain ⟨d,e,i,h1,h2,h3⟩:=und55
 exact run_makeChan h1 h2 .i64 0 (by decide) (by rw [h3];decide)
noncomputable def B35:Code:=Tryd.f95.body.getD .skip
noncomputable def HL:Code:=loopC (blockC (seq2 (seq1 (seq2 (seq2 (seq2 B35))))))
noncomputable def D35:Code:=seq2 (seq2 (seq2 (seq2 B35)))
noncomputable def TL:Code:=loopC (blockC D35)
noncomputable def HB:Code:=blockC (seq1 (seq2 (seq2 HL)))
noncomputable def R18:Code:=seq2 (seq2 (seq2 HL))
noncomputable def hFr (wb:Nat) (bsl:Value) (n ii:Nat) (u:Nat→Value):Frame :=
 (base 95).at ⟨#[Pt wb 0,bsl,undef,undef,u 4,u 5,u 6,u 7,u 8,u 9,u 10,u 11,u 12,u 13,u 14,u 15,u 16,u 17,u 18,u 19,u 20,u 21,u 22,u 23,u 24,u 25,u 26,u 27,u 28,u 29,bsl]++#[I n,I ii,u 33,u 34,u 35,u 36,u 37,u 38,u 39,u 40,u 41,u 42,u 43,u 44,u 45,u 46,u 47,u 48,u 49,u 50,u 51,u 52,u 53,u 54,u 55,u 56,u 57,u 58,u 59,u 60,u 61],[]⟩ [.code HL,.inLoop HL,.inBlock 2,.code D35]
noncomputable def ops3514:Array Oper:=opsOf (seq1 (seq2 HB))
noncomputable def R15:Code:=seq2 (seq2 HB)
noncomputable def bFr1 (wb:Nat) (bsl F:Value) (n ii bb gc:Nat) (u:Nat→Value):Frame :=
 (base 95).at ⟨#[Pt wb 0,bsl,undef,undef,u 4,u 5,u 6,I ii,F,u 9,u 10,u 11,u 12,u 13,u 14,u 15,u 16,u 17,u 18,u 19,u 20,u 21,u 22,u 23,u 24,u 25,u 26,u 27,u 28,u 29,bsl]++#[I n,I ii,.bool true,I ii,Pt bb ii,F,Pt wb 0,I ii,.chan (some gc),.agg (trow wb ii gc 0 0 0 0),u 41,u 42,u 43,u 44,u 45,u 46,u 47,u 48,u 49,u 50,u 51,u 52,u 53,u 54,u 55,u 56,u 57,u 58,u 59,u 60,u 61],[]⟩ [.inRegion ops3514 [4,5],.code R15,.inBlock 3,.code R18,.inLoop HL,.inBlock 2,.code D35]
noncomputable def bFr2 (wb:Nat) (bsl F:Value) (n ii bb gc tb:Nat) (u:Nat→Value):Frame :=
 (base 95).at ⟨#[Pt wb 0,bsl,undef,undef,u 4,u 5,u 6,I ii,F,u 9,u 10,u 11,u 12,u 13,u 14,u 15,u 16,u 17,u 18,u 19,u 20,u 21,u 22,u 23,u 24,u 25,u 26,u 27,u 28,u 29,bsl]++#[I n,I ii,.bool true,I ii,Pt bb ii,F,Pt wb 0,I ii,.chan (some gc),.agg (trow wb ii gc 0 0 0 0),Pt tb 0,u 42,u 43,u 44,u 45,u 46,u 47,u 48,u 49,u 50,u 51,u 52,u 53,u 54,u 55,u 56,u 57,u 58,u 59,u 60,u 61],[]⟩ [.inRegion ops3514 [5],.code R15,.inBlock 3,.code R18,.inLoop HL,.inBlock 2,.code D35]
theorem hire_a {z:Nat→Option Nat} {Ch:Nat→Prop} {Stop:Goroutine→World→Prop} {main:Bool} {v w:World} {wb:Nat} (F:Value) (bb n cap ii:Nat) (u:Nat→Value) (cs:List Frame) (hi:ii<n)
 (h1:v.cell? ⟨bb,ii,none⟩=some F) (hvw:Rel z v w) (hn:NoRow Ch v)
 (hk:∀ v' w' u',Rel z v' w'→NoRow Ch v'→v'={ v with heap:=v.heap.push (.chan 0 #[] false 0 0 false) }→GoesI Tryd.prog main (DT (ScZ z) Ch) Stop (G (bFr1 wb (.slice (some ⟨bb,0,none⟩) n cap) F n ii bb v.heap.size u') cs) w') :
 GoesI Tryd.prog main (DT (ScZ z) Ch) Stop (G (hFr wb (.slice (some ⟨bb,0,none⟩) n cap) n ii u) cs) w:=by
 have hi':(ii:Int)<(n:Int):=by omega
 have e0:w.cell? ⟨bb,ii,none⟩=some F:=by rw [hvw.cell?];exact h1
 have hk:=hk { v with heap:=v.heap.push (.chan 0 #[] false 0 0 false) }
 unfold hFr HL B35 Tryd.f95 seq2 seq1 blockC loopC
 simp only [Option.getD_some,List.append_toArray,List.cons_append,List.nil_append]
 refine goesI_seq (dt_idle _ _) ?_
 refine goesI_region (dt_idle _ _) ?_
 simp only [List.size_toArray,List.length_cons,List.length_nil,Nat.reduceAdd,Nat.zero_add,List.range,List.range.loop]
 iterate 1
  (refine goesI_oper rfl rfl (by decide) (fun d K hK=>?_)
   go_simp
   refine hK _ _ ⟨dt_reads (fun e he=>?_),GoesI.at ?_ d⟩
   ·have hm:=mem_listed he
    simp [go_sem, *] at hm
    try exact ⟨_,_,hm⟩
   clear hK K)
 refine goesI_regionEnd (dt_idle _ _) ?_
 refine goesI_seq (dt_idle _ _) ?_
 refine goesI_cond (dt_idle _ _) (t:=true) rfl ?_
 simp only [if_true,if_false,Bool.false_eq_true]
 refine goesI_skip (dt_idle _ _) ?_
 refine goesI_seq (dt_idle _ _) ?_
 refine goesI_block (dt_idle _ _) ?_
 refine goesI_seq (dt_idle _ _) ?_
 refine goesI_region (dt_idle _ _) ?_
 simp only [List.size_toArray,List.length_cons,List.length_nil,Nat.reduceAdd,Nat.zero_add,List.range,List.range.loop]
 iterate 5
  (refine goesI_oper rfl rfl (by decide) (fun d K hK=>?_)
   go_simp
   refine hK _ _ ⟨dt_reads (fun e he=>?_),GoesI.at ?_ d⟩
   ·have hm:=mem_listed he
    simp [go_sem, *] at hm
    try exact ⟨_,_,hm⟩
   clear hK K)
 refine goesI_regionEnd (dt_idle _ _) ?_
 refine goesI_seq (dt_idle _ _) ?_
 refine goesI_region (dt_idle _ _) ?_
 simp only [List.size_toArray,List.length_cons,List.length_nil,Nat.reduceAdd,Nat.zero_add,List.range,List.range.loop]
 iterate 2
  (refine goesI_oper rfl rfl (by decide) (fun d K hK=>?_)
   go_simp
   refine hK _ _ ⟨dt_reads (fun e he=>?_),GoesI.at ?_ d⟩
   ·have hm:=mem_listed he
    simp [go_sem, *] at hm
    try exact ⟨_,_,hm⟩
   clear hK K)
 clear e0 hi'
 refine goesI_opZ (L:=LT) rfl rfl (by decide) (fineOp_ask callT extT (by kernel_rfl)) hvw hn (v':={ v with heap:=v.heap.push (.chan 0 #[] false 0 0 false) }) (x:=.chan (some v.heap.size)) (by go_simp;rw [run_mk];rfl) rfl (fun w2 hr2 hn2=>?_)
 iterate 1
  (refine goesI_oper rfl rfl (by decide) (fun d K hK=>?_)
   go_simp
   refine hK _ _ ⟨dt_reads (fun e he=>?_),GoesI.at ?_ d⟩
   ·have hm:=mem_listed he
    simp [go_sem, *] at hm
    try exact ⟨_,_,hm⟩
   clear hK K)
 have hk:=hk w2 (fun m=>match m with|7=>I ii|8=>F|m=>u m) hr2 hn2 rfl
 unfold bFr1 R15 R18 HB ops3514 D35 HL B35 Tryd.f95 seq2 seq1 blockC loopC opsOf at hk
 simp only [Option.getD_some,List.append_toArray,List.cons_append,List.nil_append] at hk
 exact hk
noncomputable def r15:Code:=seq1 R15
noncomputable def R1617:Code:=seq2 R15
theorem fineR15:fineCode Tryd.prog true LT r15:=fineCode_ask callT extT (by kernel_rfl)
def Threaded (wb:Nat) (tv:Value) (n base:Nat) (xs:List Value) (x:Value) (w w':World):Prop :=
 ∃ g cap,(∀ c t f,w.heap[wb]? = some (.cells c t f)→w'.heap[wb]? = some (.cells (c.setIfInBounds 4 (.slice (some ⟨g,0,none⟩) (n+1) cap)) t f)) ∧
   w'.ownsRow base 48 1 (.slice (some ⟨g,0,none⟩) (n+1) cap) (n+1) (xs++[x])∧(tv.ownBlock=some g∨w.heap.size≤g)∧Fr (fun b=>b=wb∨some b=tv.ownBlock) w w'
theorem threaded_of {wb:Nat} {tv x:Value} {n base:Nat} {xs:List Value} {w u w6:World} {g cap:Nat} (hb:Below w.heap.size w u) (hw:wb<w.heap.size) (hg:u.grownBy w6 tv.ownBlock) (hown:w6.ownsRow base 48 1 (.slice (some ⟨g,0,none⟩) (n+1) cap) (n+1) (xs++[x]))
 (hat:tv.ownBlock=some g∨g=u.heap.size) (hne:tv.ownBlock≠some wb):Threaded wb tv n base xs x w (w6.setCell ⟨wb,4,none⟩ (.slice (some ⟨g,0,none⟩) (n+1) cap)):=by
 have hgw:g≠wb:=by
  rcases hat with h|h
  ·exact fun e=>hne (by rw [h,e])
  ·have:=hb.size;omega
 have e6:w6.heap[wb]? = w.heap[wb]?:=(hg.block wb (Nat.lt_of_lt_of_le hw hb.size) (Ne.symm hne)).trans (hb.block wb hw)
 refine ⟨g,cap,fun c t f h=>heap_setCell_same (by rw [e6];exact h) _,own_set hown _ _ (fun e=>hgw (Option.some.inj e)),?_,?_⟩
 ·rcases hat with h|h
  ·exact .inl h
  ·exact .inr (by have:=hb.size;omega)
 ·refine ⟨by show w6.os=_;rw [hg.os,hb.os],by show w6.output=_;rw [hg.output,hb.output],?_,fun b hlt hs=>?_⟩
  ·have:=hb.size
   have:=hg.size
   simp only [World.setCell,Array.size_modify]
   omega
  ·rw [Below.heap_setCell _ _ _ _ (fun e=>hs (.inl e)),hg.block b (Nat.lt_of_lt_of_le hlt hb.size) (fun e=>hs (.inr e)),hb.block b hlt]
theorem keep2g {u u':World} {row:Option Nat} {a:Addr} {x:Value} (h:u.cell? a=some x∧u.frozen? a=false) (hg:u.grownBy u' row) (hr:row≠some a.block):u'.cell? a=some x∧u'.frozen? a=false:=by
 obtain ⟨_,_,h3,h4⟩:=keep4g (a1:=a) (a2:=a) ⟨h.1,h.1,h.1,h.2⟩ hg hr hr hr
 exact ⟨h3,h4⟩
theorem r15_wp {v:World} (wb n ii bb gc tb:Nat) (bsl F tv:Value) (k base:Nat) (xs:List Value) (u:Nat→Value) (h4:v.cell? ⟨wb,4,none⟩=some tv) (hf:v.frozen? ⟨wb,4,none⟩=false) (hown:v.ownsRow base 48 1 tv k xs) (hne:tv.ownBlock≠some wb) (hk:(k+1)*8≤140737488355328) (hbase:base≤v.heap.size) :
 r15.wp Tryd.prog (fun e a w'=>e=.normal∧(∃ u:Nat→Value,a={ tmps:=#[Pt wb 0,bsl,undef,undef,u 4,u 5,u 6,I ii,F,Pt tb 0,u 10,u 11,u 12,u 13,u 14,u 15,u 16,u 17,u 18,u 19,u 20,u 21,u 22,u 23,u 24,u 25,u 26,u 27,u 28,u 29,bsl]++#[I n,I ii,.bool true,I ii,Pt bb ii,F,Pt wb 0,I ii,.chan (some gc),.agg (trow wb ii gc 0 0 0 0),Pt tb 0,u 42,u 43,u 44,u 45,u 46,u 47,u 48,u 49,u 50,u 51,u 52,u 53,u 54,u 55,u 56,u 57,u 58,u 59,u 60,u 61],defers:=[] })∧Threaded wb tv k base xs (Pt tb 0) v w') { tmps:=#[Pt wb 0,bsl,undef,undef,u 4,u 5,u 6,I ii,F,Pt tb 0,u 10,u 11,u 12,u 13,u 14,u 15,u 16,u 17,u 18,u 19,u 20,u 21,u 22,u 23,u 24,u 25,u 26,u 27,u 28,u 29,bsl]++#[I n,I ii,.bool true,I ii,Pt bb ii,F,Pt wb 0,I ii,.chan (some gc),.agg (trow wb ii gc 0 0 0 0),Pt tb 0,u 42,u 43,u 44,u 45,u 46,u 47,u 48,u 49,u 50,u 51,u 52,u 53,u 54,u 55,u 56,u 57,u 58,u 59,u 60,u 61],defers:=[] } v:=by
 have q4:wb<v.heap.size:=World.block_lt_of_cell? _ _ h4
 obtain ⟨tp,tc,htv⟩:=own_form hown
 have HO:Hid (v.ownsRow base 48 1 (.slice tp k tc) k xs):=⟨by rw [←htv];exact hown⟩
 have n1:(Value.slice tp k tc).ownBlock≠some wb:=by rw [←htv];exact hne
 have HT:Hid (tv=.slice tp k tc):=⟨htv⟩
 rw [htv] at h4
 clear hown htv hne
 obtain ⟨j0,hj,hj0,hj1,hj2⟩:=info_parts info46
 have hne:wb≠v.heap.size:=by omega
 have hne':v.heap.size≠wb:=by omega
 have K4:Hid (v.cell? ⟨wb,4,none⟩=some (.slice tp k tc)∧v.frozen? ⟨wb,4,none⟩=false):=⟨⟨h4,hf⟩⟩
 show Code.wp Tryd.prog r15 _ _ _
 unfold r15 R15 HB HL B35 Tryd.f95 seq1 seq2 blockC loopC
 simp only [Option.getD_some,List.append_toArray,List.cons_append,List.nil_append]
 go_wp2_with (first
  |(refine wpList_append_lies _ rfl (.tmp 46) (.tmp 48) 95 rfl base 48 j0 _ 1 8 Tryd.underlying95 hj hj0 hj1 hj2 rfl (by decide) (.slice tp k tc) k xs rfl (own_later (below_alloc (Below.refl _ _) _) HO.out) ⟨_,0,none⟩ 1 1 [Pt tb 0] rfl rfl (news1 _ _ _) (one1 _) (by decide) (by unfold maxLen;omega) (by omega) (by simp;omega) _ rfl ?_
    intro g cpg w6 hown6 hgrow6 hat6 hlt6
    obtain ⟨k5,k6⟩:=keep2g ⟨kcell (below_alloc (Below.refl _ _) _) K4.out.1,by rw [(below_alloc (Below.refl _ _) _).frozen q4];exact K4.out.2⟩ hgrow6 n1))
 refine ⟨⟨fun m=>match m with|42=>Pt wb 0|43=>Pt wb 0|44=>Pt wb 0|45=>Pt wb 4|46=>.slice tp k tc|47=>Pt tb 0|48=>.slice (some ⟨v.heap.size,0,none⟩) 1 1|49=>.slice (some ⟨g,0,none⟩) (k+1) cpg|50=>Pt wb 0|51=>Pt wb 4|m=>u m,by simp⟩,?_⟩
 ·rw [HT.out]
  exact threaded_of (below_alloc (Below.refl _ _) _) q4 hgrow6 hown6 hat6 n1
end Go.Proofs.YtfjjoohflcchnaaDoor
namespace Go.Lift
open Go.Conc
theorem hire_at {P:Program} {K:World→Prop} {Still:Loc→Prop} {h:Nat} {o:Option Seat} {F:Goroutine→World→Prop} {b:Frame} {a:Act} {kk:List Item} {cs:List Frame} {ops:Array Oper} {i:Nat} {rest:List Nat} {op:Oper} {w:World} {d:Deferred} {f:Fn} {c:Array Value} (nh B₀:Nat)
 (ho:ops[i]? = some op) (hw:Region.wanted op (yielded ops a.tmps)=true) (hk:b.kind≠.early) (hr:∀ w,(execOp a.eval op).run P w=.ok (.spawn d) w) (hd:d.target=.fn f c) (he:∀ w,(execOp a.eval op).events P w #[]=#[]) (hF:F (born P d) w) (hB₀:B₀≤w.heap.size)
 (hI:∀ B,B₀≤B→∀ T,Deaf T h=0→Idle P K Still B T h nh (G (b.at (a.put op.dst undef) (.inRegion ops rest :: kk)) cs) o):AtHire P K Still h o F (G (b.at a (.inRegion ops (i :: rest) :: kk)) cs) w :=
 ⟨rfl,_,born P d,#[],nh,B₀,hB₀,hF,fun d'=>by rw [stepG_spawn ho hw hk (hr _) hd,listed_none (he _)],fun B _ e he=>by simp at he,hI⟩
end Go.Lift
namespace Go.Proofs.YtfjjoohflcchnaaDoor
open Go Go.Lift Go.Conc Go.RowKit
theorem hire_box {main:Bool} (wb:Nat) (bsl F:Value) (n ii bb gc:Nat) (u:Nat→Value) (cs:List Frame) (w:World) :
 stepG Tryd.prog main (G (bFr1 wb bsl F n ii bb gc u) cs) w=.go (G (bFr2 wb bsl F n ii bb gc w.heap.size u) cs) (w.alloc (.cells (trow wb ii gc 0 0 0 0) 107)) #[]:=by
 unfold bFr1 bFr2 ops3514 R15 R18 HB D35 HL B35 Tryd.f95 seq2 seq1 blockC loopC opsOf
 simp only [Option.getD_some,List.append_toArray,List.cons_append,List.nil_append]
 rw [stepG_value (v:=Pt w.heap.size 0) (w':=w.alloc (.cells (trow wb ii gc 0 0 0 0) 107)) rfl rfl (by decide) (by go_simp),listed_none (by simp [go_sem,execOp])]
 rfl
abbrev d49 (tb:Nat) (F:Value):Deferred:={ target:=.fn (.func 124) #[],args:=#[Pt tb 0,F] }
theorem eR15:R15=.seq r15 R1617:=by kernel_rfl
noncomputable def ops3517:Array Oper:=opsOf (seq2 R1617)
def HBack (wb:Nat) (bsl:Value) (n ii:Nat) (cs:List Frame) (g:Goroutine):Prop:=∀ (D:World→World→Array Event→Prop) (Stop:Goroutine→World→Prop) (x:Value) (w:World),(∀ w,D w w #[])→(∀ u,GoesI Tryd.prog true D Stop (G (hFr wb bsl n ii u) cs) w)→GoesI Tryd.prog true D Stop (Go.Conc.served g x) w
theorem back35 (wb:Nat) (bsl F:Value) (n ii bb gc tb bk:Nat) (hb:(n:Int)<9223372036854775808) (hi:ii<n) (u:Nat→Value) (cs:List Frame) :
 HBack wb bsl n (ii+1) cs (G ((base 95).at ⟨#[Pt wb 0,bsl,undef,undef,u 4,u 5,u 6,I ii,F,Pt tb 0,u 10,u 11,u 12,u 13,u 14,u 15,u 16,u 17,u 18,u 19,u 20,u 21,u 22,u 23,u 24,u 25,u 26,u 27,u 28,u 29,bsl]++#[I n,I ii,.bool true,I ii,Pt bb ii,F,Pt wb 0,I ii,.chan (some gc),.agg (trow wb ii gc 0 0 0 0),Pt tb 0,u 42,u 43,u 44,u 45,u 46,u 47,u 48,u 49,u 50,u 51,Pt tb 0,F,Pt wb 0,Pt wb 0,Pt wb 8,.chan (some bk),u 58,u 59,u 60,u 61],[]⟩ [.inRegion ops3517 [4],.inBlock 3,.code R18,.inLoop HL,.inBlock 2,.code D35]) cs):=by
 have HW:IntKind.i64.wrap ((ii:Int)+1)=((ii+1:Nat):Int):=by rw [IntKind.wrap_i64];omega
 intro D Stop x w hD h
 have h:=h (fun m=>match m with|7=>I ii|8=>F|9=>Pt tb 0|33=>.bool true|34=>I ii|35=>Pt bb ii|36=>F|37=>Pt wb 0|38=>I ii|39=>.chan (some gc)|40=>.agg (trow wb ii gc 0 0 0 0)|41=>Pt tb 0|52=>Pt tb 0|53=>F|54=>Pt wb 0|55=>Pt wb 0|56=>Pt wb 8|57=>.chan (some bk)|58=>x|59=>I ((ii+1:Nat):Int)|m=>u m)
 unfold ops3517 R1617 R15 R18 HB D35 HL B35 Tryd.f95 seq2 seq1 blockC loopC opsOf
 unfold hFr D35 HL B35 Tryd.f95 seq2 seq1 blockC loopC at h
 simp only [Option.getD_some,List.append_toArray,List.cons_append,List.nil_append] at h ⊢
 rw [served_fr,Frame.finish_at]
 refine goesI_regionEnd hD ?_
 refine goesI_inBlock hD ?_
 refine goesI_region hD ?_
 simp only [List.size_toArray,List.length_cons,List.length_nil,Nat.reduceAdd,Nat.zero_add,List.range,List.range.loop]
 refine goesI_value (v:=fun _=>I ((ii+1:Nat):Int)) (w':=fun d=>w.at d) rfl rfl (by decide) (fun d=>by go_simp) (fun d=>by rw [listed_none (by simp [go_sem,execOp])];exact hD _) (fun d=>GoesI.at ?_ d)
 refine goesI_value (v:=fun _=>I ((ii+1:Nat):Int)) (w':=fun d=>w.at d) rfl rfl (by decide) (fun d=>by go_simp) (fun d=>by rw [listed_none (by simp [go_sem,execOp])];exact hD _) (fun d=>GoesI.at ?_ d)
 refine goesI_regionEnd hD ?_
 refine goesI_inLoop hD ?_
 exact h
theorem hire_b {z:Nat→Option Nat} {Ch:Nat→Prop} {Stop:Goroutine→World→Prop} {cont:Addr→Value} {v w:World} (wb n ii bb gc tb bk:Nat) (bsl F tv:Value) (k bs:Nat) (xs:List Value) (u:Nat→Value) (cs:List Frame) (Hm:Goroutine→Prop)
 (hH:∀ g,HBack wb bsl n (ii+1) cs g→Hm g) (hb:(n:Int)<9223372036854775808) (hi:ii<n)
 (hvw:Rel z v w) (hn:NoRow Ch v) (h4:v.cell? ⟨wb,4,none⟩=some tv) (hf:v.frozen? ⟨wb,4,none⟩=false) (hown:v.ownsRow bs 48 1 tv k xs) (hne:tv.ownBlock≠some wb) (hk:(k+1)*8≤140737488355328) (hbase:bs≤v.heap.size) (hz:z wb=some 8) (hcont:cont ⟨wb,8,none⟩=.chan (some bk))
 (hstop:∀ g w',Lift.AtHire Tryd.prog (KC (ScZ z) cont) (StillC (ScZ z)) 0 (some (Seat.one bk (.agg #[]) false Hm)) (fun child w'=>child=born Tryd.prog (d49 tb F)∧∃ v',Rel z v' w'∧NoRow Ch v'∧Threaded wb tv k bs xs (Pt tb 0) v v') g w'→Stop g w') :
 GoesI Tryd.prog true (DT (ScZ z) Ch) Stop (G (bFr2 wb bsl F n ii bb gc tb u) cs) w:=by
 have HO:Hid (v.ownsRow bs 48 1 tv k xs):=⟨hown⟩
 have q4:wb<v.heap.size:=World.block_lt_of_cell? _ _ h4
 clear hown
 have hop:(ops3514.getD 5 default).op=.assign (.tmp 41):=by kernel_rfl
 have hds:(ops3514.getD 5 default).dst=some 9:=by kernel_rfl
 have hgd:(ops3514.getD 5 default).guard=none:=by kernel_rfl
 have hoo:ops3514[5]? = some (ops3514.getD 5 default):=by kernel_rfl
 unfold bFr2
 simp only [List.append_toArray,List.cons_append,List.nil_append]
 refine goesI_value (o:=ops3514.getD 5 default) (v:=fun _=>Pt tb 0) (w':=fun d=>w.at d) hoo (by unfold Region.wanted;rw [hgd]) (by decide) (fun d=>by unfold execOp;rw [hop];simp [go_sem,Act.eval]) (fun d=>by rw [listed_none (by unfold execOp;rw [hop];simp [go_sem])];exact dt_idle _ _ _) (fun d=>GoesI.at ?_ d)
 rw [hds]
 clear hop hds hgd hoo
 refine goesI_regionEnd (dt_idle _ _) ?_
 rw [eR15]
 refine goesI_seq (dt_idle _ _) ?_
 rw [show (Act.put { tmps:=(#[Pt wb 0,bsl,undef,undef,u 4,u 5,u 6,I ii,F,u 9,u 10,u 11,u 12,u 13,u 14,u 15,u 16,u 17,u 18,u 19,u 20,u 21,u 22,u 23,u 24,u 25,u 26,u 27,u 28,u 29,bsl,I n,I ii,.bool true,I ii,Pt bb ii,F,Pt wb 0,I ii,.chan (some gc),.agg (trow wb ii gc 0 0 0 0),Pt tb 0,u 42,u 43,u 44,u 45,u 46,u 47,u 48,u 49,u 50,u 51,u 52,u 53,u 54,u 55,u 56,u 57,u 58,u 59,u 60,u 61]),defers:=[] } (some 9) (Pt tb 0))={ tmps:=(#[Pt wb 0,bsl,undef,undef,u 4,u 5,u 6,I ii,F,Pt tb 0,u 10,u 11,u 12,u 13,u 14,u 15,u 16,u 17,u 18,u 19,u 20,u 21,u 22,u 23,u 24,u 25,u 26,u 27,u 28,u 29,bsl]++#[I n,I ii,.bool true,I ii,Pt bb ii,F,Pt wb 0,I ii,.chan (some gc),.agg (trow wb ii gc 0 0 0 0),Pt tb 0,u 42,u 43,u 44,u 45,u 46,u 47,u 48,u 49,u 50,u 51,u 52,u 53,u 54,u 55,u 56,u 57,u 58,u 59,u 60,u 61]),defers:=[] } from by kernel_rfl]
 refine goesI_plain (z:=z) (wr:=true) (L:=LT) (I:=NoRow Ch) hE fineT noRow_keeps (fun v v' w w' es hi hr ho he=>dt_of_z v v' w w' es hi hr ho he) hvw fineR15 rfl (by simp [base]) hn
  (Q:=fun a w'=>(∃ u:Nat→Value,a={ tmps:=#[Pt wb 0,bsl,undef,undef,u 4,u 5,u 6,I ii,F,Pt tb 0,u 10,u 11,u 12,u 13,u 14,u 15,u 16,u 17,u 18,u 19,u 20,u 21,u 22,u 23,u 24,u 25,u 26,u 27,u 28,u 29,bsl]++#[I n,I ii,.bool true,I ii,Pt bb ii,F,Pt wb 0,I ii,.chan (some gc),.agg (trow wb ii gc 0 0 0 0),Pt tb 0,u 42,u 43,u 44,u 45,u 46,u 47,u 48,u 49,u 50,u 51,u 52,u 53,u 54,u 55,u 56,u 57,u 58,u 59,u 60,u 61],defers:=[] })∧Threaded wb tv k bs xs (Pt tb 0) v w') (fun τ=>?_) ?_
 ·refine wp_mono (r15_wp (v:=onTape v τ 0) wb n ii bb gc tb bsl F tv k bs xs u h4 hf HO.out hne hk hbase) (fun e a w' hq=>⟨hq.1,hq.2.1,?_⟩)
  obtain ⟨g,cap,q1,q2,q3,q5⟩:=hq.2.2
  exact ⟨g,cap,q1,q2,q3,⟨q5.os,q5.output,q5.size,q5.block⟩⟩
 rintro a' v' w' ⟨⟨u',rfl⟩,hT⟩ hr' hn' -
 have hwbl:wb<w'.heap.size:=by
  obtain ⟨g,cap,q1,q2,q3,q5⟩:=hT
  rw [hr'.size]
  exact Nat.lt_of_lt_of_le q4 q5.size
 have HF:Hid (∃ v',Rel z v' w'∧NoRow Ch v'∧Threaded wb tv k bs xs (Pt tb 0) v v'):=⟨⟨v',hr',hn',hT⟩⟩
 have hbk:=back35 wb bsl F n ii bb gc tb bk hb hi u' cs
 clear hT hr' hn' hvw hn h4 hf HO hne hk hbase q4
 unfold ops3517 R1617 R15 R18 HB D35 HL B35 Tryd.f95 seq2 seq1 blockC loopC opsOf at hbk
 unfold R1617 R15 R18 HB D35 HL B35 Tryd.f95 seq2 seq1 blockC loopC
 simp only [Option.getD_some,List.append_toArray,List.cons_append,List.nil_append] at hbk ⊢
 refine goesI_seq (dt_idle _ _) ?_
 refine goesI_region (dt_idle _ _) ?_
 simp only [List.size_toArray,List.length_cons,List.length_nil,Nat.reduceAdd,Nat.zero_add,List.range,List.range.loop]
 iterate 2
  (refine goesI_oper rfl rfl (by decide) (fun d K hK=>?_)
   go_simp
   refine hK _ _ ⟨dt_reads (fun e he=>?_),GoesI.at ?_ d⟩
   ·have hm:=mem_listed he
    simp [go_sem, *] at hm
    try exact ⟨_,_,hm⟩
   clear hK K)
 refine GoesI.stop fun d=>hstop _ _ (hire_at (h:=0) (d:=d49 tb F) 7 (wb+1) rfl rfl (by decide) (fun w=>by simp [go_sem,execOp,resolve,Act.eval]) rfl (fun w=>by simp [go_sem,execOp,resolve,Act.eval]) ⟨rfl,?_⟩ (Nat.succ_le_of_lt hwbl) (fun B hB T hT=>?_))
 ·obtain ⟨v',k1,k2⟩:=HF.out
  exact ⟨v',k1.re rfl rfl rfl rfl rfl rfl,k2⟩
 ·clear HF hstop hwbl
  refine .inl ⟨6,w',rfl,?_⟩
  k_c stepG_region_end
  k_reg
  iterate 3
   (k_in
    refine goes_oper_k rfl rfl (by decide) (fun K hK=>?_)
    go_simp
    refine hK _ _ ⟨⟨rfl,fun e he=>by (have hm:=mem_listed he;simp [go_sem, *] at hm)⟩,?_⟩
    clear hK K)
  k_in
  have q2:=h₁ ⟨wb,8,none⟩ ⟨rfl,hz⟩
  rw [hcont] at q2
  refine goes_oper_k rfl rfl (by decide) (fun K hK=>?_)
  go_simp
  refine hK _ _ ⟨⟨rfl,fun e he=>by (have hm:=mem_listed he;simp [go_sem, *] at hm;subst hm;exact evC_read _ ⟨_,rfl,rfl,hz⟩ (by simp;omega))⟩,?_⟩
  clear hK K
  refine Goes.stop fun w₂ h₂=>⟨_,atIn_of (s:=Seat.one bk (.agg #[]) false Hm) rfl rfl (by decide) (fun w=>?_) (fun w=>?_) (hH _ hbk)⟩
  ·simp [go_sem,execOp,rcase,Act.eval,Seat.one]
  ·simp [go_sem,execOp,Act.eval]
noncomputable def tFr (wb:Nat) (u:Nat→Value):Frame:=(base 95).at ⟨#[Pt wb 0,u 1,u 2,u 3,u 4,u 5,u 6,u 7,u 8,u 9,u 10,u 11,u 12,u 13,u 14,u 15,u 16,u 17,u 18,u 19,u 20,u 21,u 22,u 23,u 24,u 25,u 26,u 27,u 28,u 29,u 30]++#[u 31,u 32,u 33,u 34,u 35,u 36,u 37,u 38,u 39,u 40,u 41,u 42,u 43,u 44,u 45,u 46,u 47,u 48,u 49,u 50,u 51,u 52,u 53,u 54,u 55,u 56,u 57,u 58,u 59,u 60,u 61],[]⟩ [.code TL,.inLoop TL,.inBlock 4]
theorem hire_done {z:Nat→Option Nat} {Ch:Nat→Prop} {Stop:Goroutine→World→Prop} {main:Bool} {w:World} {wb:Nat} (bsl:Value) (n:Nat) (u:Nat→Value) (cs:List Frame)
 (hk:∀ u',GoesI Tryd.prog main (DT (ScZ z) Ch) Stop (G (tFr wb u') cs) w):GoesI Tryd.prog main (DT (ScZ z) Ch) Stop (G (hFr wb bsl n n u) cs) w:=by
 have hi':¬ (n:Int)<(n:Int):=by omega
 have hk:=hk (fun m=>match m with|1=>bsl|2=>undef|3=>undef|30=>bsl|31=>I n|32=>I n|33=>.bool false|m=>u m)
 unfold tFr TL D35 B35 Tryd.f95 seq2 blockC loopC at hk
 unfold hFr D35 HL B35 Tryd.f95 seq2 seq1 blockC loopC
 simp only [Option.getD_some,List.append_toArray,List.cons_append,List.nil_append] at hk ⊢
 refine goesI_seq (dt_idle _ _) ?_
 refine goesI_region (dt_idle _ _) ?_
 simp only [List.size_toArray,List.length_cons,List.length_nil,Nat.reduceAdd,Nat.zero_add,List.range,List.range.loop]
 iterate 1
  (refine goesI_oper rfl rfl (by decide) (fun d K hK=>?_)
   go_simp
   refine hK _ _ ⟨dt_reads (fun e he=>?_),GoesI.at ?_ d⟩
   ·have hm:=mem_listed he
    simp [go_sem, *] at hm
    try exact ⟨_,_,hm⟩
   clear hK K)
 refine goesI_regionEnd (dt_idle _ _) ?_
 refine goesI_seq (dt_idle _ _) ?_
 refine goesI_cond (dt_idle _ _) (t:=false) rfl ?_
 simp only [if_true,if_false,Bool.false_eq_true]
 refine goesI_exit (dt_idle _ _) rfl ?_
 refine goesI_block (dt_idle _ _) ?_
 refine goesI_loop (dt_idle _ _) ?_
 exact hk
theorem turn_in {z:Nat→Option Nat} {Ch:Nat→Prop} {Stop:Goroutine→World→Prop} {main:Bool} {w:World} {wb:Nat} (u:Nat→Value) (cs:List Frame)
 (hk:∀ (bd:Frame) (ad:Act) (od:Array Oper) (qd:Nat) (rd:List Nat) (oe:Oper) (kd:List Item),od[qd]? = some oe →
   (∀ (z:Nat→Option Nat) (Ch:Nat→Prop) (Stop:Goroutine→World→Prop) (w:World),(∀ u',GoesI Tryd.prog main (DT (ScZ z) Ch) Stop (G (tFr wb u') cs) w)→GoesI Tryd.prog main (DT (ScZ z) Ch) Stop (G (bd.at (ad.put oe.dst (.bool true)) (.inRegion od rd :: kd)) cs) w) →
   (∀ (z:Nat→Option Nat) (Ch:Nat→Prop) (Stop:Goroutine→World→Prop) (w:World) (bc:Frame) (ac:Act) (ops:Array Oper) (q:Nat) (rest:List Nat) (oc:Oper) (k:List Item) (cs':List Frame),cs=bc.at ac (.inRegion ops (q :: rest) :: k) :: cs'→ops[q]? = some oc→GoesI Tryd.prog main (DT (ScZ z) Ch) Stop (G (bc.at (ac.put oc.dst (.tuple #[])) (.inRegion ops rest :: k)) cs') w →
     GoesI Tryd.prog main (DT (ScZ z) Ch) Stop (G (bd.at (ad.put oe.dst (.bool false)) (.inRegion od rd :: kd)) cs) w)→∀ code,Tryd.f125.body=some code →
   GoesI Tryd.prog main (DT (ScZ z) Ch) Stop (G ((base 125).at { tmps:=#[Pt wb 0]++Array.replicate 72 undef,defers:=[] } [.code code]) (bd.at ad (.inRegion od (qd :: rd) :: kd) :: cs)) w) :
 GoesI Tryd.prog main (DT (ScZ z) Ch) Stop (G (tFr wb u) cs) w:=by
 unfold tFr TL D35 B35 Tryd.f95 seq2 blockC loopC
 simp only [Option.getD_some,List.append_toArray,List.cons_append,List.nil_append]
 refine goesI_seq (dt_idle _ _) ?_
 refine goesI_seq (dt_idle _ _) ?_
 refine goesI_region (dt_idle _ _) ?_
 simp only [List.size_toArray,List.length_cons,List.length_nil,Nat.reduceAdd,Nat.zero_add,List.range,List.range.loop]
 iterate 1
  (refine goesI_oper rfl rfl (by decide) (fun d K hK=>?_)
   go_simp
   refine hK _ _ ⟨dt_reads (fun e he=>?_),GoesI.at ?_ d⟩
   ·have hm:=mem_listed he
    simp [go_sem, *] at hm
    try exact ⟨_,_,hm⟩
   clear hK K)
 refine goesI_into (f:=125) (fn:=Tryd.f125) (args:=#[Pt wb 0]) (dt_idle _ _) rfl rfl (by decide) rfl (by simp [Act.eval]) Tryd.func125 (by decide) rfl ?_
 refine hk _ _ _ _ _ _ _ rfl (fun z Ch Stop w hg=>?_) (fun z Ch Stop w bc ac ops q rest oc k cs' hcs ho hg=>?_) _ rfl
 ·have hg:=hg (fun m=>match m with|60=>Pt wb 0|61=>.bool true|m=>u m)
  unfold tFr TL D35 B35 Tryd.f95 seq2 blockC loopC at hg
  simp only [Option.getD_some,List.append_toArray,List.cons_append,List.nil_append] at hg
  refine goesI_regionEnd (dt_idle _ _) ?_
  refine goesI_cond (dt_idle _ _) (t:=true) rfl ?_
  simp only [if_true,if_false,Bool.false_eq_true]
  refine goesI_skip (dt_idle _ _) ?_
  refine goesI_block (dt_idle _ _) ?_
  refine goesI_skip (dt_idle _ _) ?_
  refine goesI_inBlock (dt_idle _ _) ?_
  refine goesI_inLoop (dt_idle _ _) ?_
  exact hg
 ·subst hcs
  refine goesI_regionEnd (dt_idle _ _) ?_
  refine goesI_cond (dt_idle _ _) (t:=false) rfl ?_
  simp only [if_true,if_false,Bool.false_eq_true]
  refine goesI_exit (dt_idle _ _) rfl ?_
  refine goesI_end (dt_idle _ _) ?_
  refine goesI_leave (b:=base 95) (fn:=Tryd.f95) rfl ?_ Tryd.func95 (fun w=>results_none rfl _ _ _) (fun w=>by simp [results,go_sem]) ho (dt_idle _ _) hg
  show (Act.put _ _ _).defers=[]
  unfold Act.put
  split<;>rfl
theorem ran_ev {z:Nat→Option Nat} {S:TS} {v:World} (h:Rep z S v):Ev z S v { S with ran:=true } (v.setCell ⟨S.wb,7,none⟩ (.bool true)):=by
 have hst:∀ k b,blk S k=some b→k≠0→(v.setCell ⟨S.wb,7,none⟩ (.bool true)).heap[b]? = v.heap[b]?:=fun k b hk h0=>Below.heap_setCell _ _ _ _ (fun e=>h0 (h.apart k 0 b hk (by rw [e];rfl)))
 have hblk:∀ k,blk { S with ran:=true } k=blk S k:=fun k=>by match k with|0=>rfl|1=>rfl|2=>rfl|3=>rfl|4=>rfl|k+5=>rfl
 refine ⟨⟨?_,fun i t ht=>?_,own_stay (fun b hb=>hst 3 b hb (by omega)) h.own,own_stay (fun b hb=>hst 1 b hb (by omega)) h.chg,own_stay (fun b hb=>hst 2 b hb (by omega)) h.ths,own_stay (fun b hb=>hst 4 b hb (by omega)) h.sch,?_,fun j k b hj hk=>?_,h.kept⟩,⟨rfl,rfl,by simp [World.setCell],fun b hb hs=>Below.heap_setCell _ _ _ _ (fun e=>hs ⟨0,by rw [e];rfl⟩)⟩,fun b ⟨k,hk⟩=>.inl ⟨k,by rw [←hblk];exact hk⟩⟩
 ·have:=heap_setCell_same (o:=7) h.wor (.bool true)
  simpa using this
 ·rw [hst (i+5) t.tb (by simp only [blk];rw [show S.thr[i]? = some t from ht];rfl) (by omega)]
  exact h.thr i t ht
 ·show S.base≤_
  simpa [World.setCell] using h.bs
 ·exact h.apart j k b (by rw [←hblk];exact hj) (by rw [←hblk];exact hk)
theorem run35_in {z:Nat→Option Nat} {Ch:Nat→Prop} {Stop:Goroutine→World→Prop} {main:Bool} {S:TS} {K:List (Nat×Int)} {v w:World} (p:Option Addr) (n cap:Nat) (cs:List Frame)
 (hvw:Rel z v w) (hn:NoRow Ch v) (hm:Mem z S K v) (hr:S.ran=false)
 (hk:∀ v' w' u,Rel z v' w'→NoRow Ch v'→Evo z S K v { S with ran:=true } K v'→GoesI Tryd.prog main (DT (ScZ z) Ch) Stop (G (hFr S.wb (.slice p n cap) n 0 u) cs) w') (code:Code) (hc:Tryd.f95.body=some code) :
 GoesI Tryd.prog main (DT (ScZ z) Ch) Stop (G ((base 95).at { tmps:=#[Pt S.wb 0,.slice p n cap]++Array.replicate 60 undef,defers:=[] } [.code code]) cs) w:=by
 have hc0:code=B35:=by
  unfold B35
  rw [hc]
  rfl
 subst hc0
 clear hc
 have e7:w.cell? ⟨S.wb,7,none⟩=some (.bool false):=by rw [hvw.cell?,hm.rep.wcell.2.2.2.2.2.2.2.1,hr]
 have c7:v.cell? ⟨S.wb,7,none⟩=some (.bool false):=by rw [hm.rep.wcell.2.2.2.2.2.2.2.1,hr]
 have f7:v.frozen? ⟨S.wb,7,none⟩=false:=fz_off hm.rep 7 (by omega)
 have HE:Hid (Evo z S K v { S with ran:=true } K (v.setCell ⟨S.wb,7,none⟩ (.bool true))):=⟨Evo.of_ev hm (ran_ev hm.rep) rfl⟩
 clear hm hr
 unfold B35 Tryd.f95
 simp only [Option.getD_some,Array.replicate_succ,Array.replicate_zero,List.push_toArray,List.append_toArray,List.nil_append,List.cons_append]
 refine goesI_seq (dt_idle _ _) ?_
 refine goesI_seq (dt_idle _ _) ?_
 refine goesI_region (dt_idle _ _) ?_
 simp only [List.size_toArray,List.length_cons,List.length_nil,Nat.reduceAdd,Nat.zero_add,List.range,List.range.loop]
 iterate 1
  (refine goesI_oper rfl rfl (by decide) (fun d K hK=>?_)
   go_simp
   refine hK _ _ ⟨dt_reads (fun e he=>?_),GoesI.at ?_ d⟩
   ·have hm:=mem_listed he
    simp [go_sem, *] at hm
    try exact ⟨_,_,hm⟩
   clear hK K)
 refine goesI_opZ (L:=LT) rfl rfl (by decide) (fineOp_ask callT extT (by kernel_rfl)) hvw hn (x:=.bool false) (v':=v) (by go_simp) rfl (fun w1 hvw1 _=>?_)
 replace e7:w1.cell? ⟨S.wb,7,none⟩=some (.bool false):=by rw [hvw1.cell?];exact c7
 clear hvw
 rename Rel z v w1=>hvw
 refine goesI_regionEnd (dt_idle _ _) ?_
 refine goesI_cond (dt_idle _ _) (t:=false) rfl ?_
 simp only [if_true,if_false,Bool.false_eq_true]
 refine goesI_skip (dt_idle _ _) ?_
 refine goesI_seq (dt_idle _ _) ?_
 refine goesI_seq (dt_idle _ _) ?_
 refine goesI_region (dt_idle _ _) ?_
 simp only [List.size_toArray,List.length_cons,List.length_nil,Nat.reduceAdd,Nat.zero_add,List.range,List.range.loop]
 iterate 4
  (refine goesI_oper rfl rfl (by decide) (fun d K hK=>?_)
   go_simp
   refine hK _ _ ⟨dt_reads (fun e he=>?_),GoesI.at ?_ d⟩
   ·have hm:=mem_listed he
    simp [go_sem, *] at hm
    try exact ⟨_,_,hm⟩
   clear hK K)
 refine goesI_regionEnd (dt_idle _ _) ?_
 refine goesI_cond (dt_idle _ _) (t:=false) rfl ?_
 simp only [if_true,if_false,Bool.false_eq_true]
 refine goesI_skip (dt_idle _ _) ?_
 refine goesI_seq (dt_idle _ _) ?_
 refine goesI_region (dt_idle _ _) ?_
 simp only [List.size_toArray,List.length_cons,List.length_nil,Nat.reduceAdd,Nat.zero_add,List.range,List.range.loop]
 iterate 3
  (refine goesI_oper rfl rfl (by decide) (fun d K hK=>?_)
   go_simp
   refine hK _ _ ⟨dt_reads (fun e he=>?_),GoesI.at ?_ d⟩
   ·have hm:=mem_listed he
    simp [go_sem, *] at hm
    try exact ⟨_,_,hm⟩
   clear hK K)
 clear e7
 refine goesI_doZ (L:=LT) rfl rfl (by decide) (fineOp_ask callT extT (by kernel_rfl)) hvw hn (v':=v.setCell ⟨S.wb,7,none⟩ (.bool true)) (by go_simp) rfl (fun w2 hr2 hn2=>?_)
 refine goesI_regionEnd (dt_idle _ _) ?_
 refine goesI_seq (dt_idle _ _) ?_
 refine goesI_seq (dt_idle _ _) ?_
 refine goesI_region (dt_idle _ _) ?_
 simp only [List.size_toArray,List.length_cons,List.length_nil,Nat.reduceAdd,Nat.zero_add,List.range,List.range.loop]
 iterate 3
  (refine goesI_oper rfl rfl (by decide) (fun d K hK=>?_)
   go_simp
   refine hK _ _ ⟨dt_reads (fun e he=>?_),GoesI.at ?_ d⟩
   ·have hm:=mem_listed he
    simp [go_sem, *] at hm
    try exact ⟨_,_,hm⟩
   clear hK K)
 refine goesI_regionEnd (dt_idle _ _) ?_
 refine goesI_block (dt_idle _ _) ?_
 refine goesI_loop (dt_idle _ _) ?_
 have hk:=hk _ w2 (fun m=>match m with|10=>Pt S.wb 0|11=>.bool false|23=>Pt S.wb 0|24=>Pt S.wb 0|25=>Pt S.wb 7|26=>.bool false|27=>Pt S.wb 0|28=>Pt S.wb 0|29=>Pt S.wb 7|_=>undef) hr2 hn2 HE.out
 unfold hFr D35 HL B35 Tryd.f95 seq2 seq1 blockC loopC at hk
 simp only [Option.getD_some,List.append_toArray,List.cons_append,List.nil_append] at hk
 exact hk
structure Alone (gs:Array Goroutine) (w:World) (T:Trace) (q:Nat→Nat):Prop where
 left:Leavers Tryd.prog T gs q
 past:∃ B,B≤w.heap.size∧Past (fun _=>False) B T
theorem alone_goes {gs:Array Goroutine} {w:World} {T:Trace} {q:Nat→Nat} (A:Alone gs w T q) {a:Goroutine} {Stop:Goroutine→World→Prop} (hg:gs[0]? = some a) (sl:Option (Nat×Nat)) (hG:GoesI Tryd.prog true (DT (ScZ zn) (fun _=>False)) Stop a w) :
 ∃ (N':Nat) (gs':Array Goroutine) (a':Goroutine) (w':World) (sl':Option (Nat×Nat)) (T':Trace) (q':Nat→Nat),runNT Tryd.prog N' (crowd gs w sl) T=(.next (crowd gs' w' sl'),T')∧gs'.size=gs.size∧gs'[0]? = some a'∧Stop a' w'∧Alone gs' w' T' q':=by
 obtain ⟨B,hB,hP⟩:=A.past
 have hno:∀ a,¬ ScZ zn a:=fun a ha=>by have:=ha.2;cases this
 have C0:Ring Tryd.prog (KC (ScZ zn) (fun _=>undef)) (StillC (ScZ zn)) B (fun g=>g=0) (fun _=>none) 0 T gs w q:=ring_begin (fun x hx=>by obtain ⟨a,_,h⟩:=hx;exact absurd h (hno a)) A.left hP (fun a ha=>absurd ha (hno a))
 obtain ⟨N1,gs1,a1,w1,sl1,T1,q1,B1,r1,z1,h1,hs1,⟨hB1,hB1b,hB1c⟩,C1⟩:=hold_goes (Inb:=fun _=>none) (Mem:=fun g=>g=0) (h:=0) (fun w d h=>kc_at w d h) (dh_of_dt (fun i s c e=>by cases e)) hG gs sl T q B hg C0
 obtain ⟨hL,hP'⟩:=ring_end C1 rfl (fun _ _=>rfl)
 exact ⟨N1,gs1,a1,w1,sl1,T1,q1,r1,z1,h1,hs1,hL,B1,by omega,hP'⟩
end Go.Proofs.YtfjjoohflcchnaaDoor
