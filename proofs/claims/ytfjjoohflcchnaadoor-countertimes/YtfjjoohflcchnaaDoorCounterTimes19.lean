/- Of the proof of CounterTimes. Part 19 of 31. (Joined, by program, and written short, of: CtT, CtC, GNow, CtPk.) -/
import Derived.Test.YtfjjoohflcchnaaDoorCounterTimes05
import Derived.Test.YtfjjoohflcchnaaDoorCounterTimes09
import Derived.Test.YtfjjoohflcchnaaDoorCounterTimes10
import Derived.Test.YtfjjoohflcchnaaDoorCounterTimes18
import Derived.RegionTactic
import Derived.Laws.CopyRow
set_option linter.unusedSimpArgs false
set_option linter.unusedVariables false
set_option maxHeartbeats 4000000
set_option maxRecDepth 100000
namespace Go.Proofs.YtfjjoohflcchnaaDoor.Gen
open Go Go.Lift Go.Conc Go.RowKit
theorem info3:(Tryd.prog.info? 3).map (fun i=>(i.zero,i.size,i.bytes))=some (some (I 0),1,8):=by kernel_rfl
theorem make_nums (n:Nat) (hn:n≤1048576) (w:World) :
 (Instr.makeSlice 22 (.int .i64 (n:Int)) (.int .i64 (n:Int))).run Tryd.prog w=.ok (.slice (some ⟨w.heap.size,0,none⟩) n n) (w.alloc (.cells (madeCells #[I 0] n) 3)):=by
 cases hq:Tryd.prog.info? 3 with
 |none=>have:=info3;rw [hq] at this;cases this
 |some i =>
  have hi:=info3
  rw [hq] at hi
  simp only [Option.map_some,Option.some.injEq,Prod.mk.injEq] at hi
  obtain ⟨hz,hs,hb⟩:=hi
  have:=run_make (P:=Tryd.prog) w 22 3 i _ Tryd.underlying22 hq hz .i64 .i64 (n:Int) (n:Int) (by omega) (by omega) (by rw [hb];omega) (by omega)
  rw [hs] at this
  rw [this]
  simp [Value.cells]
def rowI (l:List Int):Obj:=.cells (l.map I).toArray 3 (0,0)
theorem rowI_cell {v:World} {b:Nat} {l:List Int} (h:v.heap[b]? = some (rowI l)) {k:Nat} {x:Int} (hk:l[k]? = some x):v.cell? ⟨b,k,none⟩=some (I x):=by
 simp only [World.cell?,h,rowI]
 simp [hk]
theorem rowI_froz {v:World} {b:Nat} {l:List Int} (h:v.heap[b]? = some (rowI l)) (k:Nat):v.frozen? ⟨b,k,none⟩=false:=by
 simp only [World.frozen?,h,rowI]
 simp
theorem made_rowI (s:Nat):(.cells (madeCells #[I 0] s) 3:Obj)=rowI (List.replicate s 0):=by
 unfold rowI
 congr 1
 apply Array.ext_getElem?
 intro i
 by_cases h:i<s
 ·simp [madeCells,h,Nat.mod_one]
 ·simp [madeCells,h]
theorem rowI_set {v:World} {b:Nat} {l:List Int} (h:v.heap[b]? = some (rowI l)) (k:Nat) (x:Int):(v.setCell ⟨b,k,none⟩ (I x)).heap[b]? = some (rowI (l.set k x)):=by
 have:=heap_setCell_same (o:=k) (show v.heap[b]? = some (.cells (l.map I).toArray 3 (0,0)) from h) (I x)
 rw [this]
 unfold rowI
 congr 2
 apply Array.ext_getElem?
 intro i
 simp [List.map_set]
theorem setRow_rowI {v:World} {b:Nat} {m:List Int} (h:v.heap[b]? = some (rowI m)) (l:List Int):(v.setRow b (l.map I).toArray).heap[b]? = some (rowI l):=setRow_heap v b (m.map I).toArray _ 3 (0,0) h
noncomputable def a57:Code:=seq1 (seq2 (Tryd.f57.body.getD .skip))
noncomputable def L57:Code:=loopC (blockC (seq2 (seq2 (Tryd.f57.body.getD .skip))))
noncomputable def B57:Code:=blockC L57
noncomputable def ops572:Array Oper:=opsOf (seq1 B57)
noncomputable def ops574:Array Oper:=opsOf (seq1 (seq2 (seq2 B57)))
theorem fine_a57:fineCode Tryd.prog true LT a57:=fineCode_ask callT extT (by kernel_rfl)
noncomputable def sFr (a:Act):Frame:=(base 57).at a [.code L57,.inLoop L57,.inBlock 0]
noncomputable def sOne (a:Act):Frame:=(base 57).at a [.inRegion ops572 [3],.code (seq2 B57),.inBlock 1,.inLoop L57,.inBlock 0]
noncomputable def sOneB (a:Act):Frame:=(base 57).at (a.put (some 22) (.tuple #[])) [.inRegion ops572 [],.code (seq2 B57),.inBlock 1,.inLoop L57,.inBlock 0]
noncomputable def sTwo (a:Act):Frame:=(base 57).at a [.inRegion ops574 [3],.code (seq2 (seq2 (seq2 B57))),.inBlock 1,.inLoop L57,.inBlock 0]
noncomputable def sTwoB (a:Act):Frame:=(base 57).at (a.put (some 29) (.tuple #[])) [.inRegion ops574 [],.code (seq2 (seq2 (seq2 B57))),.inBlock 1,.inLoop L57,.inBlock 0]
theorem a57_wp (v:World) (c sb s tb:Nat) (hs1:s≤16) (h0:v.cell? ⟨c,0,none⟩=some (.slice (some ⟨sb,0,none⟩) s s)) (u:Nat→Value) :
 a57.wp Tryd.prog (fun e a w'=>e=.normal∧∃ nb fb,Fl 35 [(0,Pt c 0),(1,Pt tb 0),(5,.slice (some ⟨nb,0,none⟩) s s),(6,.slice (some ⟨fb,0,none⟩) s s)] a∧((nb=v.heap.size∧fb=v.heap.size+1)∨(nb=v.heap.size+1∧fb=v.heap.size))∧w'.heap=(v.heap.push (rowI (List.replicate s 0))).push (rowI (List.replicate s 0))∧w'.os=v.os∧w'.output=v.output) { tmps:=#[Pt c 0,Pt tb 0,u 2,u 3,u 4,u 5,u 6,u 7,u 8,u 9,u 10,u 11,u 12,u 13,u 14,u 15,u 16,u 17,u 18,u 19,u 20,u 21,u 22,u 23,u 24,u 25,u 26,u 27,u 28,u 29,u 30,u 31,u 32,u 33,u 34],defers:=[] } v:=by
 have hmk:=make_nums s (by omega)
 have hc:c<v.heap.size:=World.block_lt_of_cell? _ _ h0
 rw [←made_rowI]
 unfold a57 Tryd.f57 seq1 seq2
 simp only [Option.getD_some]
 go_wp2_with fail
 go_region
 ·exact ⟨rfl,_,_,⟨rfl,rfl,by
  intro p hp
  simp only [List.mem_cons,List.not_mem_nil,or_false] at hp
  rcases hp with rfl|rfl|rfl|rfl<;>rfl⟩,.inl ⟨rfl,rfl⟩,rfl,rfl,rfl⟩
 ·exact ⟨rfl,_,_,⟨rfl,rfl,by
  intro p hp
  simp only [List.mem_cons,List.not_mem_nil,or_false] at hp
  rcases hp with rfl|rfl|rfl|rfl<;>rfl⟩,.inr ⟨rfl,rfl⟩,rfl,rfl,rfl⟩
theorem sum_in {z:Nat→Option Nat} {Ch:Nat→Prop} {Stop:Goroutine→World→Prop} {main:Bool} {v w:World} {c sb s tb:Nat} (hs1:s≤16) (h0:v.cell? ⟨c,0,none⟩=some (.slice (some ⟨sb,0,none⟩) s s)) (cs:List Frame) (hvw:Rel z v w) (hn:NoRow Ch v)
 (hk:∀ a v' w' nb fb,Fl 35 [(0,Pt c 0),(1,Pt tb 0),(5,.slice (some ⟨nb,0,none⟩) s s),(6,.slice (some ⟨fb,0,none⟩) s s)] a→((nb=v.heap.size∧fb=v.heap.size+1)∨(nb=v.heap.size+1∧fb=v.heap.size))→Rel z v' w'→NoRow Ch v'→v'.heap=(v.heap.push (rowI (List.replicate s 0))).push (rowI (List.replicate s 0))→v'.os=v.os→v'.output=v.output→GoesI Tryd.prog main (DT (ScZ z) Ch) Stop (G (sFr a) cs) w') (code:Code) (hc:Tryd.f57.body=some code) :
 GoesI Tryd.prog main (DT (ScZ z) Ch) Stop (G ((base 57).at { tmps:=#[Pt c 0,Pt tb 0]++Array.replicate 33 undef,defers:=[] } [.code code]) cs) w:=by
 have hw0:code=.seq (seq1 (Tryd.f57.body.getD .skip)) (.seq a57 (.block 0 (.loop L57))):=by
  rw [show code=Tryd.f57.body.getD .skip by rw [hc];rfl];rfl
 subst hw0
 clear hc
 simp only [Array.replicate_succ,Array.replicate_zero,List.push_toArray,List.append_toArray,List.nil_append,List.cons_append]
 refine goesI_seq (dt_idle _ _) ?_
 generalize hT:Code.seq a57 (.block 0 (.loop L57))=T
 unfold Tryd.f57 seq1
 simp only [Option.getD_some]
 refine goesI_region (dt_idle _ _) ?_
 simp only [List.size_toArray,List.length_cons,List.length_nil,Nat.reduceAdd,Nat.zero_add,List.range,List.range.loop]
 iterate 1
  (refine goesI_oper rfl rfl (by decide) (fun d K hK=>?_)
   go_simp
   refine hK _ _ ⟨dt_reads (fun e he=>?_),GoesI.at ?_ d⟩
   ·have hm:=mem_listed he
    simp [go_sem, *] at hm
    try exact ⟨_,_,hm⟩
   clear hK K)
 refine goesI_regionEnd (dt_idle _ _) ?_
 subst hT
 refine goesI_seq (dt_idle _ _) ?_
 refine goesI_plain (z:=z) (wr:=true) (L:=LT) (I:=NoRow Ch) hE fineT noRow_keeps (fun v v' w w' es hi hr ho he=>dt_of_z v v' w w' es hi hr ho he) hvw fine_a57 rfl (by simp [base]) hn
  (Q:=fun a w'=>∃ nb fb,Fl 35 [(0,Pt c 0),(1,Pt tb 0),(5,.slice (some ⟨nb,0,none⟩) s s),(6,.slice (some ⟨fb,0,none⟩) s s)] a∧((nb=v.heap.size∧fb=v.heap.size+1)∨(nb=v.heap.size+1∧fb=v.heap.size))∧w'.heap=(v.heap.push (rowI (List.replicate s 0))).push (rowI (List.replicate s 0))∧w'.os=v.os∧w'.output=v.output) (fun τ=>a57_wp (onTape v τ 0) c sb s tb hs1 h0 (fun m=>match m with|4=>I 0|m=>undef)) ?_
 rintro a' v' w' ⟨nb,fb,hA,hb,q1,q2,q3⟩ hr' hn' -
 refine goesI_block (dt_idle _ _) ?_
 refine goesI_loop (dt_idle _ _) ?_
 exact hk a' v' w' nb fb hA hb hr' hn' q1 q2 q3
theorem sum_first {z:Nat→Option Nat} {Ch:Nat→Prop} {Stop:Goroutine→World→Prop} {main:Bool} {v w:World} {c sb s nb fb tb:Nat} {a:Act} (hA:Fl 35 [(0,Pt c 0),(1,Pt tb 0),(5,.slice (some ⟨nb,0,none⟩) s s),(6,.slice (some ⟨fb,0,none⟩) s s)] a) (cs:List Frame)
 (hk:∀ a,Fl 35 [(0,Pt c 0),(1,Pt tb 0),(5,.slice (some ⟨nb,0,none⟩) s s),(6,.slice (some ⟨fb,0,none⟩) s s)] a→∀ code,Tryd.f88.body=some code→GoesI Tryd.prog main (DT (ScZ z) Ch) Stop (G ((base 88).at { tmps:=#[Pt c 0,Pt tb 0,.slice (some ⟨nb,0,none⟩) s s]++Array.replicate 22 undef,defers:=[] } [.code code]) (sOne a :: cs)) w) :
 GoesI Tryd.prog main (DT (ScZ z) Ch) Stop (G (sFr a) cs) w:=by
 unfold sOne ops572 B57 L57 Tryd.f57 seq1 seq2 blockC loopC opsOf at hk
 simp only [Option.getD_some] at hk
 obtain ⟨hsz,hd,hpp⟩:=hA
 obtain ⟨u,rfl,hg⟩:=litN hsz hd
 have u0:=(hg 0).symm.trans (hpp (0,Pt c 0) (by simp))
 have u1:=(hg 1).symm.trans (hpp (1,Pt tb 0) (by simp))
 have u5:=(hg 5).symm.trans (hpp (5,.slice (some ⟨nb,0,none⟩) s s) (by simp))
 have u6:=(hg 6).symm.trans (hpp (6,.slice (some ⟨fb,0,none⟩) s s) (by simp))
 clear hg hpp hsz hd
 unfold sFr L57 Tryd.f57 seq2 blockC loopC
 simp only [Option.getD_some,lits,Nat.reduceAdd,u0,u1,u5,u6]
 clear u0 u1 u5 u6
 refine goesI_block (dt_idle _ _) ?_
 refine goesI_seq (dt_idle _ _) ?_
 refine goesI_region (dt_idle _ _) ?_
 simp only [List.size_toArray,List.length_cons,List.length_nil,Nat.reduceAdd,Nat.zero_add,List.range,List.range.loop]
 iterate 3
  (refine goesI_oper rfl rfl (by decide) (fun d K hK=>?_)
   go_simp
   refine hK _ _ ⟨dt_reads (fun e he=>?_),GoesI.at ?_ d⟩
   ·have hm:=mem_listed he
    simp [go_sem, *] at hm
    try exact ⟨_,_,hm⟩
   clear hK K)
 refine goesI_into (f:=88) (fn:=Tryd.f88) (args:=#[Pt c 0,Pt tb 0,.slice (some ⟨nb,0,none⟩) s s]) (dt_idle _ _) rfl rfl (by decide) rfl (by simp [Act.eval]) Tryd.func88 (by decide) rfl ?_
 exact hk _ ⟨rfl,rfl,by
  intro p hp
  simp only [List.mem_cons,List.not_mem_nil,or_false] at hp
  rcases hp with rfl|rfl|rfl|rfl<;>rfl⟩ _ rfl
theorem gx_cell {v v':World} (g:Grows v v') {a:Addr} {x:Value} (h:v.cell? a=some x):v'.cell? a=some x:=by rw [World.cell?_of_block (w:=v) (w':=v') (g.old _ (World.block_lt_of_cell? _ _ h))];exact h
theorem gx_trans {v v' v2:World} (a:Grows v v') (b:Grows v' v2):Grows v v2:=⟨Nat.le_trans a.size b.size,fun q hq=>by rw [b.old q (Nat.lt_of_lt_of_le hq a.size),a.old q hq],b.os.trans a.os,b.output.trans a.output⟩
theorem size3:(Tryd.prog.info? 3).map (·.size)=some 1:=by kernel_rfl
theorem run_copyI (v:World) (ty:TypeId) (nb fb s:Nat) (l m:List Int) (hl:l.length=s) (hm:m.length=s) (h1:v.heap[nb]? = some (rowI l)) (h2:v.heap[fb]? = some (rowI m)) :
 (Builtin.copy_ #[22,22] ty #[.slice (some ⟨fb,0,none⟩) s s,.slice (some ⟨nb,0,none⟩) s s]).run Tryd.prog v=.ok (goInt s) (v.setRow fb (l.map I).toArray):=by
 have:=run_copy_row (P:=Tryd.prog) v 22 22 ty 3 fb 0 s s ⟨nb,0,none⟩ s s (m.map I).toArray 3 (l.map I) Tryd.underlying22 size3 h2 (by simp [hl]) (fun j u hj=>by
  rw [List.getElem?_map] at hj
  cases hx:l[j]? with
  |none=>rw [hx] at hj;cases hj
  |some x =>
   rw [hx] at hj
   cases hj
   have:=rowI_cell h1 hx
   rw [show (⟨nb,0,none⟩:Addr).add j=⟨nb,j,none⟩ by unfold Addr.add;split<;>simp_all]
   exact this) (by simp [hl,hm]) (fun u hu=>by
  obtain ⟨x,_,rfl⟩:=List.mem_map.1 hu
  rfl)
 rw [this]
 have hd:(m.map I).drop s=[]:=List.drop_eq_nil_iff.2 (by rw [List.length_map,hm];exact Nat.le_refl _)
 simp [hl,hd]
theorem sum_mid {z:Nat→Option Nat} {Ch:Nat→Prop} {Stop:Goroutine→World→Prop} {main:Bool} {v w:World} {c sb s nb fb tb:Nat} {a:Act} (hA:Fl 35 [(0,Pt c 0),(1,Pt tb 0),(5,.slice (some ⟨nb,0,none⟩) s s),(6,.slice (some ⟨fb,0,none⟩) s s)] a) (l m:List Int) (hl:l.length=s) (hm:m.length=s) (h1:v.heap[nb]? = some (rowI l)) (h2:v.heap[fb]? = some (rowI m)) (cs:List Frame) (hvw:Rel z v w) (hn:NoRow Ch v)
 (hk:∀ a w',Fl 35 [(0,Pt c 0),(1,Pt tb 0),(5,.slice (some ⟨nb,0,none⟩) s s),(6,.slice (some ⟨fb,0,none⟩) s s)] a→Rel z (v.setRow fb (l.map I).toArray) w'→NoRow Ch (v.setRow fb (l.map I).toArray)→∀ code,Tryd.f88.body=some code→GoesI Tryd.prog main (DT (ScZ z) Ch) Stop (G ((base 88).at { tmps:=#[Pt c 0,Pt tb 0,.slice (some ⟨nb,0,none⟩) s s]++Array.replicate 22 undef,defers:=[] } [.code code]) (sTwo a :: cs)) w') :
 GoesI Tryd.prog main (DT (ScZ z) Ch) Stop (G (sOneB a) cs) w:=by
 have hcp:=run_copyI v 3 nb fb s l m hl hm h1 h2
 unfold sTwo ops574 B57 L57 Tryd.f57 seq1 seq2 blockC loopC opsOf at hk
 simp only [Option.getD_some] at hk
 obtain ⟨hsz,hd,hpp⟩:=hA
 obtain ⟨u,rfl,hg⟩:=litN hsz hd
 have u0:=(hg 0).symm.trans (hpp (0,Pt c 0) (by simp))
 have u1:=(hg 1).symm.trans (hpp (1,Pt tb 0) (by simp))
 have u5:=(hg 5).symm.trans (hpp (5,.slice (some ⟨nb,0,none⟩) s s) (by simp))
 have u6:=(hg 6).symm.trans (hpp (6,.slice (some ⟨fb,0,none⟩) s s) (by simp))
 clear hg hpp hsz hd
 unfold sOneB ops572 B57 L57 Tryd.f57 seq2 seq1 blockC loopC opsOf
 simp only [Option.getD_some,lits,Nat.reduceAdd,u0,u1,u5,u6]
 clear u0 u1 u5 u6
 walk_nrm
 refine goesI_regionEnd (dt_idle _ _) ?_
 refine goesI_seq (dt_idle _ _) ?_
 refine goesI_region (dt_idle _ _) ?_
 simp only [List.size_toArray,List.length_cons,List.length_nil,Nat.reduceAdd,Nat.zero_add,List.range,List.range.loop]
 iterate 2
  (refine goesI_oper rfl rfl (by decide) (fun d K hK=>?_)
   go_simp
   refine hK _ _ ⟨dt_reads (fun e he=>?_),GoesI.at ?_ d⟩
   ·have hm:=mem_listed he
    simp [go_sem, *] at hm
    try exact ⟨_,_,hm⟩
   clear hK K)
 refine goesI_opZ (L:=LT) rfl rfl (by decide) (fineOp_ask callT extT (by kernel_rfl)) hvw hn (x:=goInt s) (v':=v.setRow fb (l.map I).toArray) (by simp [execOp,resolve,Act.eval,hcp,go_sem]) rfl (fun w1 hvw1 hn1=>?_)
 walk_nrm
 refine goesI_regionEnd (dt_idle _ _) ?_
 refine goesI_seq (dt_idle _ _) ?_
 refine goesI_region (dt_idle _ _) ?_
 simp only [List.size_toArray,List.length_cons,List.length_nil,Nat.reduceAdd,Nat.zero_add,List.range,List.range.loop]
 iterate 3
  (refine goesI_oper rfl rfl (by decide) (fun d K hK=>?_)
   go_simp
   refine hK _ _ ⟨dt_reads (fun e he=>?_),GoesI.at ?_ d⟩
   ·have hm:=mem_listed he
    simp [go_sem, *] at hm
    try exact ⟨_,_,hm⟩
   clear hK K)
 refine goesI_into (f:=88) (fn:=Tryd.f88) (args:=#[Pt c 0,Pt tb 0,.slice (some ⟨nb,0,none⟩) s s]) (dt_idle _ _) rfl rfl (by decide) rfl (by simp [Act.eval]) Tryd.func88 (by decide) rfl ?_
 exact hk _ _ ⟨rfl,rfl,by
  intro p hp
  simp only [List.mem_cons,List.not_mem_nil,or_false] at hp
  rcases hp with rfl|rfl|rfl|rfl<;>rfl⟩ hvw1 hn1 _ rfl
noncomputable def yes57:Code:=condA (seq2 (seq2 (seq2 (seq2 B57))))
theorem fine_yes57:fineCode Tryd.prog true LT yes57:=fineCode_ask callT extT (by kernel_rfl)
theorem sum_end {z:Nat→Option Nat} {Ch:Nat→Prop} {Stop:Goroutine→World→Prop} {main:Bool} {v w:World} {c sb s nb fb tb:Nat} {a:Act} (hA:Fl 35 [(0,Pt c 0),(1,Pt tb 0),(5,.slice (some ⟨nb,0,none⟩) s s),(6,.slice (some ⟨fb,0,none⟩) s s)] a) (l m:List Int) (hs1:s≤16) (hl:l.length=s) (hm:m.length=s) (hF:R1.Flds v) (h1:v.heap[nb]? = some (rowI l)) (h2:v.heap[fb]? = some (rowI m)) (cs:List Frame) {bc:Frame} {ac:Act} {ops:Array Oper} {q:Nat} {rest:List Nat} {oc:Oper} {k:List Item} (hoc:ops[q]? = some oc) (hvw:Rel z v w) (hn:NoRow Ch v)
 (hyes:m=l→∀ v' w',Rel z v' w'→NoRow Ch v'→Grows v v'→GoesI Tryd.prog main (DT (ScZ z) Ch) Stop (G (bc.at (ac.put oc.dst (I (R1.totI l))) (.inRegion ops rest :: k)) cs) w')
 (hno:m≠l→∀ a v' w',Fl 35 [(0,Pt c 0),(1,Pt tb 0),(5,.slice (some ⟨nb,0,none⟩) s s),(6,.slice (some ⟨fb,0,none⟩) s s)] a→Rel z v' w'→NoRow Ch v'→Grows v v'→GoesI Tryd.prog main (DT (ScZ z) Ch) Stop (G (sFr a) (bc.at ac (.inRegion ops (q :: rest) :: k) :: cs)) w') :
 GoesI Tryd.prog main (DT (ScZ z) Ch) Stop (G (sTwoB a) (bc.at ac (.inRegion ops (q :: rest) :: k) :: cs)) w:=by
 unfold sFr L57 Tryd.f57 seq2 blockC loopC at hno
 simp only [Option.getD_some] at hno
 obtain ⟨hsz,hd,hpp⟩:=hA
 obtain ⟨u,rfl,hg⟩:=litN hsz hd
 have u0:=(hg 0).symm.trans (hpp (0,Pt c 0) (by simp))
 have u1:=(hg 1).symm.trans (hpp (1,Pt tb 0) (by simp))
 have u5:=(hg 5).symm.trans (hpp (5,.slice (some ⟨nb,0,none⟩) s s) (by simp))
 have u6:=(hg 6).symm.trans (hpp (6,.slice (some ⟨fb,0,none⟩) s s) (by simp))
 clear hg hpp hsz hd
 unfold sTwoB ops574 B57 L57 Tryd.f57 seq2 seq1 blockC loopC opsOf
 simp only [Option.getD_some,lits,Nat.reduceAdd,u0,u1,u5,u6]
 clear u0 u1 u5 u6
 walk_nrm
 refine goesI_regionEnd (dt_idle _ _) ?_
 refine goesI_seq (dt_idle _ _) ?_
 refine goesI_region (dt_idle _ _) ?_
 simp only [List.size_toArray,List.length_cons,List.length_nil,Nat.reduceAdd,Nat.zero_add,List.range,List.range.loop]
 iterate 2
  (refine goesI_oper rfl rfl (by decide) (fun d K hK=>?_)
   go_simp
   refine hK _ _ ⟨dt_reads (fun e he=>?_),GoesI.at ?_ d⟩
   ·have hm:=mem_listed he
    simp [go_sem, *] at hm
    try exact ⟨_,_,hm⟩
   clear hK K)
 refine goesI_call (f:=89) (fn:=Tryd.f89) (args:=#[.slice (some ⟨fb,0,none⟩) s s,.slice (some ⟨nb,0,none⟩) s s]) hE fineT rfl rfl (by decide) rfl (by simp [Act.eval]) Tryd.func89 (by kernel_rfl) rfl (fineFn_body fineT (by simp [LT,plainFs]) Tryd.func89 rfl) (fun tmps=>⟨_,fun w=>results_tmp rfl _ _ _,fun w=>by simp [results,go_sem,Tryd.f89]⟩) hvw hn
  (R:=fun r v4=>r=.bool (decide (m=l))∧Grows v v4) (fun τ=>?_) (fun r v4 w4 hR hvw4 hn4=>?_)
 ·have:=R1.equal_any m l fb nb s s (onTape v τ 0) (by omega) (by omega) (fun k x hk=>rowI_cell (v:=onTape v τ 0) h2 hk) (fun k x hk=>rowI_cell (v:=onTape v τ 0) h1 hk) _ rfl
  rw [hl,hm] at this
  exact wp_mono this (bp_mono fun r u hq=>⟨hq.1,⟨(blw_grows hq.2).size,(blw_grows hq.2).old,hq.2.os,hq.2.output⟩⟩)
 obtain ⟨rfl,hg4⟩:=hR
 walk_nrm
 refine goesI_regionEnd (dt_idle _ _) ?_
 by_cases hml:m=l
 ·subst hml
  refine goesI_cond (dt_idle _ _) (t:=true) (by simp [Act.eval]) ?_
  simp only [if_true,if_false,Bool.false_eq_true]
  refine goesI_outZ (c:=yes57) (f:=57) (fn:=Tryd.f57) (L:=LT) hE fineT hvw4 hn4 Tryd.func57 fine_yes57 rfl hoc (R:=fun r w'=>r=I (R1.totI m)∧Grows v4 w') (fun τ=>?_) (fun r v' w' hR hr' hn'=>?_)
  ·have HT:Hid (Body Tryd.f90 #[.slice (some ⟨nb,0,none⟩) m.length s] (onTape v4 τ 0) _):=⟨R1.total_any m nb s (onTape v4 τ 0) (by omega) (hF.of fun a x ha=>by
    have:=gx_cell hg4 ha
    exact this) (fun k x hk=>by
    have:=gx_cell hg4 (rowI_cell h1 hk)
    exact this)⟩
   rw [hm] at HT
   show Code.wp Tryd.prog (condA (seq2 (seq2 (seq2 (seq2 (blockC (loopC (blockC (seq2 (seq2 (Tryd.f57.body.getD .skip)))))))))) ) _ _ _
   unfold Tryd.f57 condA seq2 blockC loopC
   simp only [Option.getD_some]
   go_wp2_with (first
    |(go_at_call 90;refine (HT.out.calls Tryd.func90 rfl).mono ?_;rintro e w1 ⟨_,rfl,rfl,hb⟩))
   exact ⟨_,results_tmp rfl _ _ _,rfl,⟨hb.size,fun b hbb=>hb.block b hbb,hb.os,hb.output⟩⟩
  ·obtain ⟨rfl,hg5⟩:=hR
   exact hyes rfl v' w' hr' hn' (gx_trans hg4 hg5)
 ·refine goesI_cond (dt_idle _ _) (t:=false) (by simp [Act.eval,hml]) ?_
  simp only [if_true,if_false,Bool.false_eq_true]
  refine goesI_skip (dt_idle _ _) ?_
  refine goesI_inBlock (dt_idle _ _) ?_
  refine goesI_inLoop (dt_idle _ _) ?_
  exact hno hml _ _ _ ⟨rfl,rfl,by
   intro p hp
   simp only [List.mem_cons,List.not_mem_nil,or_false] at hp
   rcases hp with rfl|rfl|rfl|rfl<;>rfl⟩ hvw4 hn4 hg4
def CBack {α:Type} (main:Bool) (pb:Nat) (enc:α→Value) (f:α→Int×Int) (cu:Value→Goroutine) (cl:Value→Goroutine):Prop :=
 ∀ (z:Nat→Option Nat) (Ch:Nat→Prop) (Stop:Goroutine→World→Prop) (w v:World) (S:TS) (K:List (Nat×Int)) (x:α),Rel z v w→NoRow Ch v→Mem z S K v→v.heap[pb]? = some (.cells #[I 0,I 0] 38 (0,0))→¬ Own S K pb →
   (∀ v' w',Rel z v' w'→NoRow Ch v'→EvoP (· = pb) z S K v S K v'→GoesI Tryd.prog main (DT (ScZ z) Ch) Stop (cl (.agg #[I (f x).1,I (f x).2])) w') →
   GoesI Tryd.prog main (DT (ScZ z) Ch) Stop (cu (enc x)) w
noncomputable def c860:Code:=seq1 (Tryd.f86.body.getD .skip)
theorem fine_c860:fineCode Tryd.prog true LT c860:=fineCode_ask callT extT (by kernel_rfl)
theorem call_add {z:Nat→Option Nat} {Ch:Nat→Prop} {Stop:Goroutine→World→Prop} {main:Bool} {v w:World} {c tb:Nat} (ca cb cc:Int) (cs:List Frame) {bc:Frame} {ac:Act} {ops:Array Oper} {q:Nat} {rest:List Nat} {oc:Oper} {k:List Item} (hoc:ops[q]? = some oc)
 (hvw:Rel z v w) (hn:NoRow Ch v)
 (hstop:∀ v' w' (bd:Frame) (ad:Act) (od:Array Oper) (qd:Nat) (rd:List Nat) (oe:Oper) (kd:List Item),Rel z v' w'→NoRow Ch v'→Grows v v'→v'.heap[v.heap.size+1]? = some (.cells #[I 0,I 0] 38 (0,0))→od[qd]? = some oe →
   CBack main (v.heap.size+1) (fun _:Unit=>.tuple #[]) (fun _=>(0,0)) (fun r=>G (bd.at (ad.put oe.dst r) (.inRegion od rd :: kd)) (bc.at ac (.inRegion ops (q :: rest) :: k) :: cs)) (fun r=>G (bc.at (ac.put oc.dst r) (.inRegion ops rest :: k)) cs)→∀ code,Tryd.f55.body=some code →
   GoesI Tryd.prog main (DT (ScZ z) Ch) Stop (G ((base 55).at { tmps:=#[Pt c 0,Pt tb 0,I (ca.tmod 1000)]++Array.replicate 29 undef,defers:=[] } [.code code]) (bd.at ad (.inRegion od (qd :: rd) :: kd) :: bc.at ac (.inRegion ops (q :: rest) :: k) :: cs)) w') (code:Code) (hc:Tryd.f86.body=some code) :
 GoesI Tryd.prog main (DT (ScZ z) Ch) Stop (G ((base 86).at { tmps:=#[Pt c 0,Pt tb 0,.agg #[I 1,I ca,I cb,I cc]]++Array.replicate 22 undef,defers:=[] } [.code code]) (bc.at ac (.inRegion ops (q :: rest) :: k) :: cs)) w:=by
 have hw0:code=.seq c860 (seq2 (Tryd.f86.body.getD .skip)):=by
  rw [show code=Tryd.f86.body.getD .skip by rw [hc];rfl];rfl
 subst hw0
 clear hc
 refine goesI_seq (dt_idle _ _) ?_
 refine goesI_plain (z:=z) (wr:=true) (L:=LT) (I:=NoRow Ch) hE fineT noRow_keeps (fun v v' w w' es hi hr ho he=>dt_of_z v v' w w' es hi hr ho he) hvw fine_c860 rfl (by simp [base]) hn
  (Q:=fun a w'=>a={ tmps:=#[Pt c 0,Pt tb 0,.agg #[I 1,I ca,I cb,I cc],undef,undef,Pt v.heap.size 0,Pt (v.heap.size+1) 0]++Array.replicate 18 undef,defers:=[] } ∧
    w'.heap=(v.heap.push (.cells #[I 1,I ca,I cb,I cc] 35)).push (.cells #[I 0,I 0] 38)∧w'.os=v.os∧w'.output=v.output) (fun τ=>?_) ?_
 ·show Code.wp Tryd.prog (seq1 (Tryd.f86.body.getD .skip)) _ _ _
  unfold Tryd.f86 seq1
  simp only [Option.getD_some,Array.replicate_succ,Array.replicate_zero,List.push_toArray,List.append_toArray,List.nil_append,List.cons_append]
  go_wp2_with fail
  exact ⟨rfl,rfl,rfl,rfl⟩
 rintro a' v' w' ⟨rfl,hv1,hv2,hv3⟩ hr' hn' -
 have hsz:v'.heap.size=v.heap.size+2:=by rw [hv1];simp
 have hg:Grows v v':=⟨by omega,fun b hb=>by rw [hv1,Array.getElem?_push,if_neg (by simp;omega),Array.getElem?_push,if_neg (by omega)],hv2,hv3⟩
 have hbox:v'.heap[v.heap.size]? = some (.cells #[I 1,I ca,I cb,I cc] 35):=by rw [hv1,Array.getElem?_push,if_neg (by simp)];exact Array.getElem?_push_size
 have hans:v'.heap[v.heap.size+1]? = some (.cells #[I 0,I 0] 38):=by rw [hv1,Array.getElem?_push,if_pos (by simp)]
 have b0:w'.cell? ⟨v.heap.size,0,none⟩=some (I 1):=by rw [hr'.cell?];simp [World.cell?,hbox]
 have b1:w'.cell? ⟨v.heap.size,1,none⟩=some (I ca):=by rw [hr'.cell?];simp [World.cell?,hbox]
 have HV:Hid (Grows v v'∧v'.heap[v.heap.size+1]? = some (.cells #[I 0,I 0] 38)∧NoRow Ch v'∧Rel z v' w'):=⟨⟨hg,hans,hn',hr'⟩⟩
 clear hv1 hv2 hv3 hsz hg hbox hans hn' hvw hn hr'
 generalize hN:v.heap.size=N at b0 b1 HV hstop ⊢
 simp only [Array.replicate_succ,Array.replicate_zero,List.push_toArray,List.append_toArray,List.nil_append,List.cons_append]
 show GoesI Tryd.prog main (DT (ScZ z) Ch) Stop (G ((base 86).at _ [.code (seq2 (Tryd.f86.body.getD .skip))]) _) w'
 unfold Tryd.f86 seq2
 simp only [Option.getD_some]
 refine goesI_seq (dt_idle _ _) ?_
 refine goesI_seq (dt_idle _ _) ?_
 refine goesI_region (dt_idle _ _) ?_
 simp only [List.size_toArray,List.length_cons,List.length_nil,Nat.reduceAdd,Nat.zero_add,List.range,List.range.loop]
 iterate 2
  (refine goesI_oper rfl rfl (by decide) (fun d K hK=>?_)
   go_simp
   refine hK _ _ ⟨dt_reads (fun e he=>?_),GoesI.at ?_ d⟩
   ·have hm:=mem_listed he
    simp [go_sem, *] at hm
    try exact ⟨_,_,hm⟩
   clear hK K)
 refine goesI_regionEnd (dt_idle _ _) ?_
 refine goesI_block (dt_idle _ _) ?_
 refine goesI_seq (dt_idle _ _) ?_
 refine goesI_region (dt_idle _ _) ?_
 simp only [List.size_toArray,List.length_cons,List.length_nil,Nat.reduceAdd,Nat.zero_add,List.range,List.range.loop]
 iterate 2
  (refine goesI_oper rfl rfl (by decide) (fun d K hK=>?_)
   go_simp
   refine hK _ _ ⟨dt_reads (fun e he=>?_),GoesI.at ?_ d⟩
   ·have hm:=mem_listed he
    simp [go_sem, *] at hm
    try exact ⟨_,_,hm⟩
   clear hK K)
 refine goesI_regionEnd (dt_idle _ _) ?_
 refine goesI_cond (dt_idle _ _) (t:=true) (by simp [Act.eval]) ?_
 simp only [if_true,if_false,Bool.false_eq_true]
 refine goesI_seq (dt_idle _ _) ?_
 refine goesI_region (dt_idle _ _) ?_
 simp only [List.size_toArray,List.length_cons,List.length_nil,Nat.reduceAdd,Nat.zero_add,List.range,List.range.loop]
 iterate 5
  (refine goesI_oper rfl rfl (by decide) (fun d K hK=>?_)
   go_simp
   refine hK _ _ ⟨dt_reads (fun e he=>?_),GoesI.at ?_ d⟩
   ·have hm:=mem_listed he
    simp [go_sem, *] at hm
    try exact ⟨_,_,hm⟩
   clear hK K)
 refine goesI_into (f:=55) (fn:=Tryd.f55) (args:=#[Pt c 0,Pt tb 0,I (ca.tmod 1000)]) (dt_idle _ _) rfl rfl (by decide) rfl (by simp [Act.eval]) Tryd.func55 (by decide) rfl ?_
 refine hstop v' w' _ _ _ _ _ _ _ HV.out.2.2.2 HV.out.2.2.1 HV.out.1 HV.out.2.1 rfl ?_ _ rfl
 clear b0 b1 HV hstop
 intro z1 Ch1 St w2 v2 S1 K1 x r2 n2 m2 hpb2 hown2 hk
 have q0:v2.cell? ⟨N+1,0,none⟩=some (I 0):=by simp [World.cell?,hpb2]
 have q1:v2.cell? ⟨N+1,1,none⟩=some (I 0):=by simp [World.cell?,hpb2]
 have p0:v2.frozen? ⟨N+1,0,none⟩=false:=by simp [World.frozen?,hpb2]
 have p1:v2.frozen? ⟨N+1,1,none⟩=false:=by simp [World.frozen?,hpb2]
 have e3:=m2.other (v':=(v2.setCell ⟨N+1,0,none⟩ (I 0)).setCell ⟨N+1,1,none⟩ (I 0)) hown2 (fun b hb=>by rw [Below.heap_setCell _ _ _ _ hb,Below.heap_setCell _ _ _ _ hb]) (by simp [World.setCell]) rfl rfl
 have hrow:((v2.setCell ⟨N+1,0,none⟩ (I 0)).setCell ⟨N+1,1,none⟩ (I 0)).heap[N+1]? = some (.cells #[I 0,I 0] 38 (0,0)):=by
  have:=heap_setCell_same (o:=1) (heap_setCell_same (o:=0) hpb2 (I 0)) (I 0)
  simpa using this
 have HM:Hid (Mem z1 S1 K1 v2∧v2.heap[N+1]? = some (.cells #[I 0,I 0] 38 (0,0))):=⟨⟨m2,hpb2⟩⟩
 clear m2 hpb2
 show GoesI Tryd.prog main (DT (ScZ z1) Ch1) St _ w2
 walk_nrm
 refine goesI_regionEnd (dt_idle _ _) ?_
 refine goesI_seq (dt_idle _ _) ?_
 refine goesI_region (dt_idle _ _) ?_
 simp only [List.size_toArray,List.length_cons,List.length_nil,Nat.reduceAdd,Nat.zero_add,List.range,List.range.loop]
 iterate 1
  (refine goesI_oper rfl rfl (by decide) (fun d K hK=>?_)
   go_simp
   refine hK _ _ ⟨dt_reads (fun e he=>?_),GoesI.at ?_ d⟩
   ·have hm:=mem_listed he
    simp [go_sem, *] at hm
    try exact ⟨_,_,hm⟩
   clear hK K)
 refine goesI_doZ (L:=LT) rfl rfl (by decide) (fineOp_ask callT extT (by kernel_rfl)) r2 n2 (v':=(v2.setCell ⟨N+1,0,none⟩ (I 0)).setCell ⟨N+1,1,none⟩ (I 0)) (by go_simp) rfl (fun w3 r3 n3=>?_)
 refine goesI_regionEnd (dt_idle _ _) ?_
 refine GoesI.ctl rfl (fun _=>stepG_ret') (dt_idle _ _) ?_
 refine goesI_leaveZ (f:=86) (fn:=Tryd.f86) (x:=.agg #[I 0,I 0]) r3 n3 Tryd.func86 rfl hoc ?_ (fun w' r'=>hk _ w' r' n3 e3)
 generalize ((v2.setCell ⟨N+1,0,none⟩ (I 0)).setCell ⟨N+1,1,none⟩ (I 0))=V at hrow
 have k0:V.cell? ⟨N+1,0,none⟩=some (I 0):=by simp [World.cell?,hrow]
 have k1:V.cell? ⟨N+1,1,none⟩=some (I 0):=by simp [World.cell?,hrow]
 simp [results,go_sem,Tryd.f86, *]
theorem call_sum {z:Nat→Option Nat} {Ch:Nat→Prop} {Stop:Goroutine→World→Prop} {main:Bool} {v w:World} {c tb:Nat} (ca cb cc:Int) (cs:List Frame) {bc:Frame} {ac:Act} {ops:Array Oper} {q:Nat} {rest:List Nat} {oc:Oper} {k:List Item} (hoc:ops[q]? = some oc)
 (hvw:Rel z v w) (hn:NoRow Ch v)
 (hstop:∀ v' w' (bd:Frame) (ad:Act) (od:Array Oper) (qd:Nat) (rd:List Nat) (oe:Oper) (kd:List Item),Rel z v' w'→NoRow Ch v'→Grows v v'→v'.heap[v.heap.size+1]? = some (.cells #[I 0,I 0] 38 (0,0))→od[qd]? = some oe →
   CBack main (v.heap.size+1) (fun x:Int=>I x) (fun x=>(0,x)) (fun r=>G (bd.at (ad.put oe.dst r) (.inRegion od rd :: kd)) (bc.at ac (.inRegion ops (q :: rest) :: k) :: cs)) (fun r=>G (bc.at (ac.put oc.dst r) (.inRegion ops rest :: k)) cs)→∀ code,Tryd.f57.body=some code →
   GoesI Tryd.prog main (DT (ScZ z) Ch) Stop (G ((base 57).at { tmps:=#[Pt c 0,Pt tb 0]++Array.replicate 33 undef,defers:=[] } [.code code]) (bd.at ad (.inRegion od (qd :: rd) :: kd) :: bc.at ac (.inRegion ops (q :: rest) :: k) :: cs)) w') (code:Code) (hc:Tryd.f86.body=some code) :
 GoesI Tryd.prog main (DT (ScZ z) Ch) Stop (G ((base 86).at { tmps:=#[Pt c 0,Pt tb 0,.agg #[I 2,I ca,I cb,I cc]]++Array.replicate 22 undef,defers:=[] } [.code code]) (bc.at ac (.inRegion ops (q :: rest) :: k) :: cs)) w:=by
 have hw0:code=.seq c860 (seq2 (Tryd.f86.body.getD .skip)):=by
  rw [show code=Tryd.f86.body.getD .skip by rw [hc];rfl];rfl
 subst hw0
 clear hc
 refine goesI_seq (dt_idle _ _) ?_
 refine goesI_plain (z:=z) (wr:=true) (L:=LT) (I:=NoRow Ch) hE fineT noRow_keeps (fun v v' w w' es hi hr ho he=>dt_of_z v v' w w' es hi hr ho he) hvw fine_c860 rfl (by simp [base]) hn
  (Q:=fun a w'=>a={ tmps:=#[Pt c 0,Pt tb 0,.agg #[I 2,I ca,I cb,I cc],undef,undef,Pt v.heap.size 0,Pt (v.heap.size+1) 0]++Array.replicate 18 undef,defers:=[] } ∧
    w'.heap=(v.heap.push (.cells #[I 2,I ca,I cb,I cc] 35)).push (.cells #[I 0,I 0] 38)∧w'.os=v.os∧w'.output=v.output) (fun τ=>?_) ?_
 ·show Code.wp Tryd.prog (seq1 (Tryd.f86.body.getD .skip)) _ _ _
  unfold Tryd.f86 seq1
  simp only [Option.getD_some,Array.replicate_succ,Array.replicate_zero,List.push_toArray,List.append_toArray,List.nil_append,List.cons_append]
  go_wp2_with fail
  exact ⟨rfl,rfl,rfl,rfl⟩
 rintro a' v' w' ⟨rfl,hv1,hv2,hv3⟩ hr' hn' -
 have hsz:v'.heap.size=v.heap.size+2:=by rw [hv1];simp
 have hg:Grows v v':=⟨by omega,fun b hb=>by rw [hv1,Array.getElem?_push,if_neg (by simp;omega),Array.getElem?_push,if_neg (by omega)],hv2,hv3⟩
 have hbox:v'.heap[v.heap.size]? = some (.cells #[I 2,I ca,I cb,I cc] 35):=by rw [hv1,Array.getElem?_push,if_neg (by simp)];exact Array.getElem?_push_size
 have hans:v'.heap[v.heap.size+1]? = some (.cells #[I 0,I 0] 38):=by rw [hv1,Array.getElem?_push,if_pos (by simp)]
 have b0:w'.cell? ⟨v.heap.size,0,none⟩=some (I 2):=by rw [hr'.cell?];simp [World.cell?,hbox]
 have b1:w'.cell? ⟨v.heap.size,1,none⟩=some (I ca):=by rw [hr'.cell?];simp [World.cell?,hbox]
 have HV:Hid (Grows v v'∧v'.heap[v.heap.size+1]? = some (.cells #[I 0,I 0] 38)∧NoRow Ch v'∧Rel z v' w'):=⟨⟨hg,hans,hn',hr'⟩⟩
 clear hv1 hv2 hv3 hsz hg hbox hans hn' hvw hn hr'
 generalize hN:v.heap.size=N at b0 b1 HV hstop ⊢
 simp only [Array.replicate_succ,Array.replicate_zero,List.push_toArray,List.append_toArray,List.nil_append,List.cons_append]
 show GoesI Tryd.prog main (DT (ScZ z) Ch) Stop (G ((base 86).at _ [.code (seq2 (Tryd.f86.body.getD .skip))]) _) w'
 unfold Tryd.f86 seq2
 simp only [Option.getD_some]
 refine goesI_seq (dt_idle _ _) ?_
 refine goesI_seq (dt_idle _ _) ?_
 refine goesI_region (dt_idle _ _) ?_
 simp only [List.size_toArray,List.length_cons,List.length_nil,Nat.reduceAdd,Nat.zero_add,List.range,List.range.loop]
 iterate 2
  (refine goesI_oper rfl rfl (by decide) (fun d K hK=>?_)
   go_simp
   refine hK _ _ ⟨dt_reads (fun e he=>?_),GoesI.at ?_ d⟩
   ·have hm:=mem_listed he
    simp [go_sem, *] at hm
    try exact ⟨_,_,hm⟩
   clear hK K)
 refine goesI_regionEnd (dt_idle _ _) ?_
 refine goesI_block (dt_idle _ _) ?_
 refine goesI_seq (dt_idle _ _) ?_
 refine goesI_region (dt_idle _ _) ?_
 simp only [List.size_toArray,List.length_cons,List.length_nil,Nat.reduceAdd,Nat.zero_add,List.range,List.range.loop]
 iterate 2
  (refine goesI_oper rfl rfl (by decide) (fun d K hK=>?_)
   go_simp
   refine hK _ _ ⟨dt_reads (fun e he=>?_),GoesI.at ?_ d⟩
   ·have hm:=mem_listed he
    simp [go_sem, *] at hm
    try exact ⟨_,_,hm⟩
   clear hK K)
 refine goesI_regionEnd (dt_idle _ _) ?_
 refine goesI_cond (dt_idle _ _) (t:=false) (by simp [Act.eval]) ?_
 simp only [if_true,if_false,Bool.false_eq_true]
 refine goesI_seq (dt_idle _ _) ?_
 refine goesI_region (dt_idle _ _) ?_
 simp only [List.size_toArray,List.length_cons,List.length_nil,Nat.reduceAdd,Nat.zero_add,List.range,List.range.loop]
 iterate 2
  (refine goesI_oper rfl rfl (by decide) (fun d K hK=>?_)
   go_simp
   refine hK _ _ ⟨dt_reads (fun e he=>?_),GoesI.at ?_ d⟩
   ·have hm:=mem_listed he
    simp [go_sem, *] at hm
    try exact ⟨_,_,hm⟩
   clear hK K)
 refine goesI_regionEnd (dt_idle _ _) ?_
 refine goesI_cond (dt_idle _ _) (t:=true) (by simp [Act.eval]) ?_
 simp only [if_true,if_false,Bool.false_eq_true]
 refine goesI_seq (dt_idle _ _) ?_
 refine goesI_region (dt_idle _ _) ?_
 simp only [List.size_toArray,List.length_cons,List.length_nil,Nat.reduceAdd,Nat.zero_add,List.range,List.range.loop]
 iterate 2
  (refine goesI_oper rfl rfl (by decide) (fun d K hK=>?_)
   go_simp
   refine hK _ _ ⟨dt_reads (fun e he=>?_),GoesI.at ?_ d⟩
   ·have hm:=mem_listed he
    simp [go_sem, *] at hm
    try exact ⟨_,_,hm⟩
   clear hK K)
 refine goesI_into (f:=57) (fn:=Tryd.f57) (args:=#[Pt c 0,Pt tb 0]) (dt_idle _ _) rfl rfl (by decide) rfl (by simp [Act.eval]) Tryd.func57 (by decide) rfl ?_
 refine hstop v' w' _ _ _ _ _ _ _ HV.out.2.2.2 HV.out.2.2.1 HV.out.1 HV.out.2.1 rfl ?_ _ rfl
 clear b0 b1 HV hstop
 intro z1 Ch1 St w2 v2 S1 K1 x r2 n2 m2 hpb2 hown2 hk
 have q0:v2.cell? ⟨N+1,0,none⟩=some (I 0):=by simp [World.cell?,hpb2]
 have q1:v2.cell? ⟨N+1,1,none⟩=some (I 0):=by simp [World.cell?,hpb2]
 have p0:v2.frozen? ⟨N+1,0,none⟩=false:=by simp [World.frozen?,hpb2]
 have p1:v2.frozen? ⟨N+1,1,none⟩=false:=by simp [World.frozen?,hpb2]
 have e3:=m2.other (v':=(v2.setCell ⟨N+1,0,none⟩ (I 0)).setCell ⟨N+1,1,none⟩ (I x)) hown2 (fun b hb=>by rw [Below.heap_setCell _ _ _ _ hb,Below.heap_setCell _ _ _ _ hb]) (by simp [World.setCell]) rfl rfl
 have hrow:((v2.setCell ⟨N+1,0,none⟩ (I 0)).setCell ⟨N+1,1,none⟩ (I x)).heap[N+1]? = some (.cells #[I 0,I x] 38 (0,0)):=by
  have:=heap_setCell_same (o:=1) (heap_setCell_same (o:=0) hpb2 (I 0)) (I x)
  simpa using this
 have HM:Hid (Mem z1 S1 K1 v2∧v2.heap[N+1]? = some (.cells #[I 0,I 0] 38 (0,0))):=⟨⟨m2,hpb2⟩⟩
 clear m2 hpb2
 show GoesI Tryd.prog main (DT (ScZ z1) Ch1) St _ w2
 walk_nrm
 iterate 1
  (refine goesI_oper rfl rfl (by decide) (fun d K hK=>?_)
   go_simp
   refine hK _ _ ⟨dt_reads (fun e he=>?_),GoesI.at ?_ d⟩
   ·have hm:=mem_listed he
    simp [go_sem, *] at hm
    try exact ⟨_,_,hm⟩
   clear hK K)
 refine goesI_doZ (L:=LT) rfl rfl (by decide) (fineOp_ask callT extT (by kernel_rfl)) r2 n2 (v':=(v2.setCell ⟨N+1,0,none⟩ (I 0)).setCell ⟨N+1,1,none⟩ (I x)) (by go_simp) rfl (fun w3 r3 n3=>?_)
 refine goesI_regionEnd (dt_idle _ _) ?_
 refine GoesI.ctl rfl (fun _=>stepG_ret') (dt_idle _ _) ?_
 refine goesI_leaveZ (f:=86) (fn:=Tryd.f86) (x:=.agg #[I 0,I x]) r3 n3 Tryd.func86 rfl hoc ?_ (fun w' r'=>hk _ w' r' n3 e3)
 generalize ((v2.setCell ⟨N+1,0,none⟩ (I 0)).setCell ⟨N+1,1,none⟩ (I x))=V at hrow
 have k0:V.cell? ⟨N+1,0,none⟩=some (I 0):=by simp [World.cell?,hrow]
 have k1:V.cell? ⟨N+1,1,none⟩=some (I x):=by simp [World.cell?,hrow]
 simp [results,go_sem,Tryd.f86, *]
theorem call_none {z:Nat→Option Nat} {Ch:Nat→Prop} {Stop:Goroutine→World→Prop} {main:Bool} {v w:World} {c tb:Nat} (ca cb cc:Int) (cs:List Frame) {bc:Frame} {ac:Act} {ops:Array Oper} {q:Nat} {rest:List Nat} {oc:Oper} {k:List Item} (hoc:ops[q]? = some oc)
 (hvw:Rel z v w) (hn:NoRow Ch v) (po:Int) (h1:po≠1) (h2:po≠2)
 (hstop:∀ v' w',Rel z v' w'→NoRow Ch v'→Grows v v'→v'.heap[v.heap.size+1]? = some (.cells #[I 1,I 0] 38 (0,0))→GoesI Tryd.prog main (DT (ScZ z) Ch) Stop (G (bc.at (ac.put oc.dst (.agg #[I 1,I 0])) (.inRegion ops rest :: k)) cs) w') (code:Code) (hc:Tryd.f86.body=some code) :
 GoesI Tryd.prog main (DT (ScZ z) Ch) Stop (G ((base 86).at { tmps:=#[Pt c 0,Pt tb 0,.agg #[I po,I ca,I cb,I cc]]++Array.replicate 22 undef,defers:=[] } [.code code]) (bc.at ac (.inRegion ops (q :: rest) :: k) :: cs)) w:=by
 have hw0:code=.seq c860 (seq2 (Tryd.f86.body.getD .skip)):=by
  rw [show code=Tryd.f86.body.getD .skip by rw [hc];rfl];rfl
 subst hw0
 clear hc
 refine goesI_seq (dt_idle _ _) ?_
 refine goesI_plain (z:=z) (wr:=true) (L:=LT) (I:=NoRow Ch) hE fineT noRow_keeps (fun v v' w w' es hi hr ho he=>dt_of_z v v' w w' es hi hr ho he) hvw fine_c860 rfl (by simp [base]) hn
  (Q:=fun a w'=>a={ tmps:=#[Pt c 0,Pt tb 0,.agg #[I po,I ca,I cb,I cc],undef,undef,Pt v.heap.size 0,Pt (v.heap.size+1) 0]++Array.replicate 18 undef,defers:=[] } ∧
    w'.heap=(v.heap.push (.cells #[I po,I ca,I cb,I cc] 35)).push (.cells #[I 0,I 0] 38)∧w'.os=v.os∧w'.output=v.output) (fun τ=>?_) ?_
 ·show Code.wp Tryd.prog (seq1 (Tryd.f86.body.getD .skip)) _ _ _
  unfold Tryd.f86 seq1
  simp only [Option.getD_some,Array.replicate_succ,Array.replicate_zero,List.push_toArray,List.append_toArray,List.nil_append,List.cons_append]
  go_wp2_with fail
  exact ⟨rfl,rfl,rfl,rfl⟩
 rintro a' v' w' ⟨rfl,hv1,hv2,hv3⟩ hr' hn' -
 have hsz:v'.heap.size=v.heap.size+2:=by rw [hv1];simp
 have hg:Grows v v':=⟨by omega,fun b hb=>by rw [hv1,Array.getElem?_push,if_neg (by simp;omega),Array.getElem?_push,if_neg (by omega)],hv2,hv3⟩
 have hbox:v'.heap[v.heap.size]? = some (.cells #[I po,I ca,I cb,I cc] 35):=by rw [hv1,Array.getElem?_push,if_neg (by simp)];exact Array.getElem?_push_size
 have hans:v'.heap[v.heap.size+1]? = some (.cells #[I 0,I 0] 38):=by rw [hv1,Array.getElem?_push,if_pos (by simp)]
 have b0:w'.cell? ⟨v.heap.size,0,none⟩=some (I po):=by rw [hr'.cell?];simp [World.cell?,hbox]
 have b1:w'.cell? ⟨v.heap.size,1,none⟩=some (I ca):=by rw [hr'.cell?];simp [World.cell?,hbox]
 have HV:Hid (Grows v v'∧v'.heap[v.heap.size+1]? = some (.cells #[I 0,I 0] 38)∧NoRow Ch v'∧Rel z v' w'):=⟨⟨hg,hans,hn',hr'⟩⟩
 clear hv1 hv2 hv3 hsz hg hbox hans hn' hvw hn hr'
 generalize hN:v.heap.size=N at b0 b1 HV hstop ⊢
 simp only [Array.replicate_succ,Array.replicate_zero,List.push_toArray,List.append_toArray,List.nil_append,List.cons_append]
 show GoesI Tryd.prog main (DT (ScZ z) Ch) Stop (G ((base 86).at _ [.code (seq2 (Tryd.f86.body.getD .skip))]) _) w'
 unfold Tryd.f86 seq2
 simp only [Option.getD_some]
 refine goesI_seq (dt_idle _ _) ?_
 refine goesI_seq (dt_idle _ _) ?_
 refine goesI_region (dt_idle _ _) ?_
 simp only [List.size_toArray,List.length_cons,List.length_nil,Nat.reduceAdd,Nat.zero_add,List.range,List.range.loop]
 iterate 2
  (refine goesI_oper rfl rfl (by decide) (fun d K hK=>?_)
   go_simp
   refine hK _ _ ⟨dt_reads (fun e he=>?_),GoesI.at ?_ d⟩
   ·have hm:=mem_listed he
    simp [go_sem, *] at hm
    try exact ⟨_,_,hm⟩
   clear hK K)
 refine goesI_regionEnd (dt_idle _ _) ?_
 refine goesI_block (dt_idle _ _) ?_
 refine goesI_seq (dt_idle _ _) ?_
 refine goesI_region (dt_idle _ _) ?_
 simp only [List.size_toArray,List.length_cons,List.length_nil,Nat.reduceAdd,Nat.zero_add,List.range,List.range.loop]
 iterate 2
  (refine goesI_oper rfl rfl (by decide) (fun d K hK=>?_)
   go_simp
   refine hK _ _ ⟨dt_reads (fun e he=>?_),GoesI.at ?_ d⟩
   ·have hm:=mem_listed he
    simp [go_sem, *] at hm
    try exact ⟨_,_,hm⟩
   clear hK K)
 refine goesI_regionEnd (dt_idle _ _) ?_
 refine goesI_cond (dt_idle _ _) (t:=false) (by simp [Act.eval,h1]) ?_
 simp only [if_true,if_false,Bool.false_eq_true]
 refine goesI_seq (dt_idle _ _) ?_
 refine goesI_region (dt_idle _ _) ?_
 simp only [List.size_toArray,List.length_cons,List.length_nil,Nat.reduceAdd,Nat.zero_add,List.range,List.range.loop]
 iterate 2
  (refine goesI_oper rfl rfl (by decide) (fun d K hK=>?_)
   go_simp
   refine hK _ _ ⟨dt_reads (fun e he=>?_),GoesI.at ?_ d⟩
   ·have hm:=mem_listed he
    simp [go_sem, *] at hm
    try exact ⟨_,_,hm⟩
   clear hK K)
 refine goesI_regionEnd (dt_idle _ _) ?_
 refine goesI_cond (dt_idle _ _) (t:=false) (by simp [Act.eval,h2]) ?_
 simp only [if_true,if_false,Bool.false_eq_true]
 refine goesI_skip (dt_idle _ _) ?_
 refine goesI_inBlock (dt_idle _ _) ?_
 refine goesI_seq (dt_idle _ _) ?_
 refine goesI_region (dt_idle _ _) ?_
 simp only [List.size_toArray,List.length_cons,List.length_nil,Nat.reduceAdd,Nat.zero_add,List.range,List.range.loop]
 obtain ⟨hg,hans,hn',hr'⟩:=HV.out
 have q0:v'.cell? ⟨N+1,0,none⟩=some (I 0):=by simp [World.cell?,hans]
 have q1:v'.cell? ⟨N+1,1,none⟩=some (I 0):=by simp [World.cell?,hans]
 have p0:v'.frozen? ⟨N+1,0,none⟩=false:=by simp [World.frozen?,hans]
 have p1:v'.frozen? ⟨N+1,1,none⟩=false:=by simp [World.frozen?,hans]
 have hrow:((v'.setCell ⟨N+1,0,none⟩ (I 1)).setCell ⟨N+1,1,none⟩ (I 0)).heap[N+1]? = some (.cells #[I 1,I 0] 38 (0,0)):=by
  have:=heap_setCell_same (o:=1) (heap_setCell_same (o:=0) hans (I 1)) (I 0)
  simpa using this
 have hg2:Grows v ((v'.setCell ⟨N+1,0,none⟩ (I 1)).setCell ⟨N+1,1,none⟩ (I 0)):=by
  refine ⟨by simp [World.setCell];exact hg.size,fun b hb=>?_,hg.os,hg.output⟩
  have hbN:b≠N+1:=by omega
  rw [Below.heap_setCell _ _ _ _ hbN,Below.heap_setCell _ _ _ _ hbN]
  exact hg.old b hb
 clear hg hans b0 b1 HV
 iterate 1
  (refine goesI_oper rfl rfl (by decide) (fun d K hK=>?_)
   go_simp
   refine hK _ _ ⟨dt_reads (fun e he=>?_),GoesI.at ?_ d⟩
   ·have hm:=mem_listed he
    simp [go_sem, *] at hm
    try exact ⟨_,_,hm⟩
   clear hK K)
 refine goesI_doZ (L:=LT) rfl rfl (by decide) (fineOp_ask callT extT (by kernel_rfl)) hr' hn' (v':=(v'.setCell ⟨N+1,0,none⟩ (I 1)).setCell ⟨N+1,1,none⟩ (I 0)) (by go_simp) rfl (fun w3 r3 n3=>?_)
 refine goesI_regionEnd (dt_idle _ _) ?_
 refine GoesI.ctl rfl (fun _=>stepG_ret') (dt_idle _ _) ?_
 refine goesI_leaveZ (f:=86) (fn:=Tryd.f86) (x:=.agg #[I 1,I 0]) r3 n3 Tryd.func86 rfl hoc ?_ (fun w' r'=>hstop _ w' r' n3 hg2 hrow)
 generalize ((v'.setCell ⟨N+1,0,none⟩ (I 1)).setCell ⟨N+1,1,none⟩ (I 0))=V at hrow
 have k0:V.cell? ⟨N+1,0,none⟩=some (I 1):=by simp [World.cell?,hrow]
 have k1:V.cell? ⟨N+1,1,none⟩=some (I 0):=by simp [World.cell?,hrow]
 simp [results,go_sem,Tryd.f86, *]
variable {mc:Mc}
structure Now (X:Fix mc) (z:Nat→Option Nat) (cont:Addr→Value) (Ch:Nat→Prop) (S0:TS) (K0:List (Nat×Int)) (v0:World) (Mo0 Mo:Nat→Option Obj) (σ:TS) (κ:List (Nat×Int)) (S:TS) (v w:World) (t:Thr):Prop where
 at_:At X z cont Ch S κ v w t
 evo:EvoP (fun b=>Mo0 b≠none) z S0 K0 v0 S κ v
 nv:nv S=σ
 bk:S.bk=S0.bk
 mo:Has Mo v
 far:∀ b,Mo b≠none→¬ Own S κ b
 new:∀ b,Mo b≠none→Mo0 b≠none∨v0.heap.size≤b
 row:∀ b o,Mo b=some o→∃ c e f,o=.cells c e f
section
variable {X:Fix mc} {z:Nat→Option Nat} {cont:Addr→Value} {Ch:Nat→Prop} {Stop:Goroutine→World→Prop} {cu:Value→Goroutine} {S0:TS} {K0:List (Nat×Int)} {v0:World} {Mo0 Mo:Nat→Option Obj} {σ:TS} {κ:List (Nat×Int)} {S:TS} {v w:World} {t:Thr} {H:Nx→(Nat→Option Obj)→Goroutine→Prop}
theorem Now.good (N:Now X z cont Ch S0 K0 v0 Mo0 Mo σ κ S v w t) {x:Nx} (hx:∀ e y,x≠.ans e y):Good v0 Mo0 x Mo:=⟨hx,N.new,N.row⟩
theorem Now.on (N:Now X z cont Ch S0 K0 v0 Mo0 Mo σ κ S v w t) {S' σ':TS} {κ':List (Nat×Int)} {v' w':World} {t':Thr} (e:Evo z S κ v S' κ' v') (r:Rel z v' w') (n:NoRow Ch v') (hS:Gen.nv S'=σ') (ht:S'.thr[X.i]? = some t') (htb:t'.tb=X.tb) (hgc:t'.gc=X.gc) (hbk:S'.bk=S.bk):Now X z cont Ch S0 K0 v0 Mo0 Mo σ' κ' S' v' w' t':=by
 have kp:∀ b,b<v.heap.size→¬ Own S κ b→v'.heap[b]? = v.heap[b]?∧¬ Own S' κ' b:=fun b hb ho=>(Evo.toP (Pr:=fun _=>False) e).keeps hb ho (fun h=>h)
 have km:∀ (M:Nat→Option Obj),Has M v→(∀ b,M b≠none→¬ Own S κ b)→Has M v'∧∀ b,M b≠none→¬ Own S' κ' b:=fun M hM hf=>by
  have h1:∀ b o,M b=some o→v'.heap[b]? = v.heap[b]?∧¬ Own S' κ' b:=fun b o hb=>kp b (Array.getElem?_eq_some_iff.1 (hM b o hb)).1 (hf b (by rw [hb];simp))
  refine ⟨fun b o hb=>by rw [(h1 b o hb).1];exact hM b o hb,fun b hb=>?_⟩
  obtain ⟨o,ho⟩:=Option.ne_none_iff_exists'.1 hb
  exact (h1 b o ho).2
 have k1:=km X.pk N.at_.pk N.at_.far
 have k2:=km Mo N.mo N.far
 exact ⟨⟨r,n,e.mem,ht,htb,hgc,e.blks.trans N.at_.kb,N.at_.z,N.at_.cont,k1.1,k1.2⟩,N.evo.trans (Evo.toP e),hS,hbk.trans N.bk,k2.1,k2.2,N.new,N.row⟩
theorem Now.same (N:Now X z cont Ch S0 K0 v0 Mo0 Mo σ κ S v w t) {v' w':World} (r:Rel z v' w') (n:NoRow Ch v') (e1:v'.heap=v.heap) (e2:v'.os=v.os) (e3:v'.output=v.output):Now X z cont Ch S0 K0 v0 Mo0 Mo σ κ S v' w' t :=
 N.on (N.at_.mem.grows ⟨by rw [e1];exact Nat.le_refl _,fun b _=>by rw [e1],e2,e3⟩) r n N.nv N.at_.thr N.at_.tb N.at_.gc rfl
theorem Now.here (A:At X z cont Ch S κ v w t) (hm:Has Mo v) (hf:∀ b,Mo b≠none→¬ Own S κ b) (hr:∀ b o,Mo b=some o→∃ c e f,o=.cells c e f):Now X z cont Ch S κ v Mo Mo (Gen.nv S) κ S v w t :=
 ⟨A,Evo.toP (A.mem.grows ⟨Nat.le_refl _,fun _ _=>rfl,rfl,rfl⟩),rfl,rfl,hm,hf,fun b hb=>.inl hb,hr⟩
theorem Now.cell (N:Now X z cont Ch S0 K0 v0 Mo0 Mo σ κ S v w t) {j cb:Nat} (h:X.kb[j]? = some cb):κ[j]? = some (cb,(cellAt κ j).2)∧cellAt κ j=(cb,(cellAt κ j).2):=by
 rw [←N.at_.kb,List.getElem?_map,Option.map_eq_some_iff] at h
 obtain ⟨p,h1,rfl⟩:=h
 have:cellAt κ j=p:=by unfold cellAt;rw [h1];rfl
 rw [this]
 exact ⟨h1,rfl⟩
theorem ob_turn {op:Int} {j:Nat} {q:Q} (hob:Ob X H z cont Ch Stop cu S0 K0 v0 Mo0 σ κ (.turn op j q)) (N:Now X z cont Ch S0 K0 v0 Mo0 Mo σ κ S v w t) (g:Goroutine) (w':World) (hg:GiveT z cont X.h S.bk t.gc (H (.turn op j q) Mo) (Then z Ch S κ v (waiting S X.i t 1 op j) κ) g w'):Stop g w':=by
 refine hob.seat 1 op j (.inl ⟨⟨q,rfl⟩,rfl⟩) g w' Mo (N.good (fun _ _ h=>by cases h)) ?_
 rw [N.at_.gc,N.bk] at hg
 refine atGive_mono (fun hF=>?_) hg
 obtain ⟨v',r,n,e⟩:=hF
 have N':=N.on e r n rfl (t':={ t with st:=1,op:=op,ce:=j,se:=_ }) (List.getElem?_set_self (List.getElem?_eq_some_iff.1 N.at_.thr).1) N.at_.tb N.at_.gc rfl
 refine ⟨v',_,r,n,?_,N'.evo,N'.mo,N'.far⟩
 rw [←N.nv,show thrI (Gen.nv S) X.i=t from thrI_of N.at_.thr]
 rfl
end
def nx2 (s:Nat) (l:List Int):Nx:=if l.length<s then .turn 1 l.length (2,l) else .turn 1 0 (3,l)
def nx3 (s:Nat) (d:List Int):Nx:=if d.length<2*s then .turn 1 (d.length - s) (3,d) else if d.take s=d.drop s then .ans 0 (R1.totI (d.drop s)) else .turn 1 0 (2,[])
def mcC (s:Nat):Mc where
 start i c:=if c.po=1 then .turn 1 (i % s) (0,[((i % s:Nat):Int),c.ca.tmod 1000]) else if c.po=2 then .turn 1 0 (2,[]) else .ans 1 0
 turn q x :=
  if q.1=0 then ((x,x),x,.turn 4 (q.2.getD 0 0).toNat (1,[q.2.getD 0 0,q.2.getD 1 0,x]))
  else if q.1=1 then ((effCas (q.2.getD 2 0) (R1.addI (q.2.getD 2 0) (q.2.getD 1 0)) x).1,(effCas (q.2.getD 2 0) (R1.addI (q.2.getD 2 0) (q.2.getD 1 0)) x).2.1,if x=q.2.getD 2 0 then .ans 0 0 else .turn 1 (q.2.getD 0 0).toNat (0,[q.2.getD 0 0,q.2.getD 1 0]))
  else if q.1=2 then ((x,x),x,nx2 s (q.2++[x]))
  else ((x,x),x,nx3 s (q.2++[x]))
 woke _:=.ans 1 0
 stuck _:=(4,0)
 bnd:=true
abbrev box0:Obj:=.cells #[I 0,I 0] 38 (0,0)
def boxO (pb:Nat):Nat→Option Obj:=fun b=>if b=pb then some box0 else none
theorem boxO_at (pb:Nat):boxO pb pb=some box0:=by unfold boxO;rw [if_pos rfl]
theorem boxO_eq {pb b:Nat} (h:boxO pb b≠none):b=pb:=by
 unfold boxO at h
 split at h
 ·assumption
 ·exact absurd rfl h
theorem boxO_row (pb:Nat):∀ b o,boxO pb b=some o→∃ c e f,o=.cells c e f:=fun b o h=>by
 unfold boxO at h
 split at h
 ·cases h;exact ⟨_,_,_,rfl⟩
 ·cases h
def moS (pb nb fb:Nat) (l m:List Int):Nat→Option Obj:=fun b=>if b=pb then some box0 else if b=nb then some (rowI l) else if b=fb then some (rowI m) else none
theorem moS_row (pb nb fb:Nat) (l m:List Int):∀ b o,moS pb nb fb l m b=some o→∃ c e f,o=.cells c e f:=fun b o h=>by
 unfold moS at h
 split at h
 ·cases h;exact ⟨_,_,_,rfl⟩
 ·split at h
  ·cases h;exact ⟨_,_,_,rfl⟩
  ·split at h
   ·cases h;exact ⟨_,_,_,rfl⟩
   ·cases h
theorem moS_in {pb nb fb:Nat} {l m:List Int} {b:Nat} (h:moS pb nb fb l m b≠none):b=pb∨b=nb∨b=fb:=by
 unfold moS at h
 split at h
 ·exact .inl (by assumption)
 ·split at h
  ·exact .inr (.inl (by assumption))
  ·split at h
   ·exact .inr (.inr (by assumption))
   ·exact absurd rfl h
theorem moS_dom {pb nb fb:Nat} {l m l' m':List Int} {b:Nat} (h:moS pb nb fb l m b≠none):moS pb nb fb l' m' b≠none:=by
 unfold moS
 rcases moS_in h with rfl|rfl|rfl
 ·rw [if_pos rfl];simp
 ·split
  ·simp
  ·rw [if_pos rfl];simp
 ·split
  ·simp
  ·split
   ·simp
   ·rw [if_pos rfl];simp
structure Apart3 (pb nb fb:Nat):Prop where
 pn:pb≠nb
 pf:pb≠fb
 nf:nb≠fb
theorem moS_pb (pb nb fb:Nat) (l m:List Int):moS pb nb fb l m pb=some box0:=by unfold moS;rw [if_pos rfl]
theorem moS_nb {pb nb fb:Nat} (h:Apart3 pb nb fb) (l m:List Int):moS pb nb fb l m nb=some (rowI l):=by unfold moS;rw [if_neg (fun e=>h.pn e.symm),if_pos rfl]
theorem moS_fb {pb nb fb:Nat} (h:Apart3 pb nb fb) (l m:List Int):moS pb nb fb l m fb=some (rowI m):=by unfold moS;rw [if_neg (fun e=>h.pf e.symm),if_neg (fun e=>h.nf e.symm),if_pos rfl]
theorem moS_has {pb nb fb:Nat} (h:Apart3 pb nb fb) {l m:List Int} {v:World} (h1:v.heap[pb]? = some box0) (h2:v.heap[nb]? = some (rowI l)) (h3:v.heap[fb]? = some (rowI m)):Has (moS pb nb fb l m) v:=fun b o hb=>by
 rcases moS_in (by rw [hb];simp) with rfl|rfl|rfl
 ·rw [moS_pb] at hb;cases hb;exact h1
 ·rw [moS_nb h] at hb;cases hb;exact h2
 ·rw [moS_fb h] at hb;cases hb;exact h3
structure Frs where
 bd:Frame
 ad:Act
 od:Array Oper
 qd:Nat
 rd:List Nat
 oe:Oper
 kd:List Item
 fs:List Frame
namespace Frs
def cu (f:Frs) (r:Value):Goroutine:=G (f.bd.at (f.ad.put f.oe.dst r) (.inRegion f.od f.rd :: f.kd)) f.fs
def top (f:Frs):Frame:=f.bd.at f.ad (.inRegion f.od (f.qd :: f.rd) :: f.kd)
end Frs
section
variable {mc:Mc} {X:Fix mc} {z:Nat→Option Nat} {cont:Addr→Value} {Ch:Nat→Prop} {Stop:Goroutine→World→Prop} {cu:Value→Goroutine} {S0:TS} {K0:List (Nat×Int)} {v0:World} {Mo0 Mo Mo':Nat→Option Obj} {σ:TS} {κ:List (Nat×Int)} {S:TS} {v w v' w':World} {t:Thr}
theorem Now.more (N:Now X z cont Ch S0 K0 v0 Mo0 Mo σ κ S v w t) (g:Grows v v') (r:Rel z v' w') (n:NoRow Ch v') (hd:∀ b,Mo' b≠none→Mo b≠none∨v.heap.size≤b) (hm:Has Mo' v') (hr:∀ b o,Mo' b=some o→∃ c e f,o=.cells c e f):Now X z cont Ch S0 K0 v0 Mo0 Mo' σ κ S v' w' t:=by
 have N1:=N.on (N.at_.mem.grows g) r n N.nv N.at_.thr N.at_.tb N.at_.gc rfl
 exact ⟨N1.at_,N1.evo,N1.nv,N1.bk,hm,fun b hb=>(hd b hb).elim (N1.far b) (fun h ho=>by have:=N.at_.mem.lt ho;omega),fun b hb=>(hd b hb).elim (N.new b) (fun h=>.inr (Nat.le_trans N.evo.fr.size h)),hr⟩
theorem Now.write (N:Now X z cont Ch S0 K0 v0 Mo0 Mo σ κ S v w t) {B:Nat} (hB:Mo B≠none) (hpk:X.pk B=none) (r:Rel z v' w') (n:NoRow Ch v') (hw:∀ b,b≠B→v'.heap[b]? = v.heap[b]?) (hs:v'.heap.size=v.heap.size) (ho:v'.os=v.os) (hu:v'.output=v.output) (hd:∀ b,Mo' b≠none→Mo b≠none) (hm:Has Mo' v') (hr:∀ b o,Mo' b=some o→∃ c e f,o=.cells c e f):Now X z cont Ch S0 K0 v0 Mo0 Mo' σ κ S v' w' t:=by
 have ev:=N.at_.mem.other (v':=v') (N.far B hB) hw hs ho hu
 refine ⟨⟨r,n,ev.mem,N.at_.thr,N.at_.tb,N.at_.gc,N.at_.kb,N.at_.z,N.at_.cont,fun b o hb=>?_,N.at_.far⟩,N.evo.join ev (fun b hb=>?_),N.nv,N.bk,hm,fun b hb=>N.far b (hd b hb),fun b hb=>N.new b (hd b hb),hr⟩
 ·rw [hw b (fun e=>by subst e;rw [hpk] at hb;cases hb)];exact N.at_.pk b o hb
 ·have e:b=B:=hb
  subst e
  exact N.new b hB
end
structure CMine (s:Nat) (X:Fix (mcC s)) (c sb:Nat):Prop where
 caps:X.caps=#[Pt c 0]
 mem:∀ v,Has X.pk v→Ctr v c sb s X.kb∧R1.Flds v
abbrev FA (c tb cb:Nat) (n:Int) (a:Act):Prop:=Fl 32 [(0,Pt c 0),(1,Pt tb 0),(2,I n),(6,Pt cb 0)] a
abbrev FS (s c tb nb fb:Nat) (a:Act):Prop:=Fl 35 [(0,Pt c 0),(1,Pt tb 0),(5,.slice (some ⟨nb,0,none⟩) s s),(6,.slice (some ⟨fb,0,none⟩) s s)] a
abbrev FK (s c tb nb sb k:Nat) (a:Act):Prop:=Fl 25 [(0,Pt c 0),(1,Pt tb 0),(2,.slice (some ⟨nb,0,none⟩) s s),(11,.slice (some ⟨sb,0,none⟩) s s),(12,I s),(13,I k)] a
abbrev FK2 (s nb k:Nat) (a:Act):Prop:=Fl 25 [(18,.slice (some ⟨nb,0,none⟩) s s),(19,I k)] a
def ctSit (s:Nat) (X:Fix (mcC s)) (x:Nx) (Mo:Nat→Option Obj) (cu:Value→Goroutine) (g:Goroutine):Prop :=
 ∃ (c sb pb:Nat) (f:Frs),CMine s X c sb∧f.od[f.qd]? = some f.oe ∧
   ((CBack (X.h==0) pb (fun _:Unit=>.tuple #[]) (fun _=>(0,0)) f.cu cu∧Mo=boxO pb∧∃ (n:Int) (cb:Nat) (a:Act),X.kb[X.i % s]? = some cb∧FA c X.tb cb n a ∧
      ((x=.turn 1 (X.i % s) (0,[((X.i % s:Nat):Int),n])∧OpBack (X.h==0) X.i (X.i % s) cb X.tb 1 effLoad (fun r=>G (aSeen a r) (f.top :: f.fs)) g) ∨
       (∃ y:Int,x=.turn 4 (X.i % s) (1,[((X.i % s:Nat):Int),n,y])∧OpBack (X.h==0) X.i (X.i % s) cb X.tb 4 (effCas y (R1.addI y n)) (fun r=>G (aTried a r) (f.top :: f.fs)) g))) ∨
    (CBack (X.h==0) pb (fun x:Int=>I x) (fun x=>(0,x)) f.cu cu∧∃ (nb fb:Nat) (l m:List Int) (a ak:Act) (k cb:Nat),Mo=moS pb nb fb l m∧Apart3 pb nb fb∧l.length=s∧m.length=s∧k<s∧X.kb[k]? = some cb∧FS s c X.tb nb fb a∧FK s c X.tb nb sb k ak∧FK2 s nb k ak ∧
      ((x=.turn 1 k (2,l.take k)∧OpBack (X.h==0) X.i k cb X.tb 1 effLoad (fun r=>G (kSeen ak r) (sOne a :: f.top :: f.fs)) g) ∨
       (x=.turn 1 k (3,m++l.take k)∧OpBack (X.h==0) X.i k cb X.tb 1 effLoad (fun r=>G (kSeen ak r) (sTwo a :: f.top :: f.fs)) g))))
section
variable {s:Nat} {X:Fix (mcC s)} {z:Nat→Option Nat} {cont:Addr→Value} {Ch:Nat→Prop} {Stop:Goroutine→World→Prop} {cu:Value→Goroutine} {S0:TS} {K0:List (Nat×Int)} {v0:World} {Mo0 Mo:Nat→Option Obj} {σ:TS} {κ:List (Nat×Int)} {S:TS} {v w:World} {t:Thr} {H:Nx→(Nat→Option Obj)→Goroutine→Prop} {c sb pb nb fb:Nat} {f:Frs} {l m:List Int}
theorem ct_ans {α:Type} {enc:α→Value} {fa:α→Int×Int} (hB:CBack (X.h==0) pb enc fa f.cu cu) (y:α) {x:Nx} (hob:Ob X H z cont Ch Stop cu S0 K0 v0 Mo0 σ κ x) (hx:x=.ans (fa y).1 (fa y).2) (hpb:Mo pb=some box0) (N:Now X z cont Ch S0 K0 v0 Mo0 Mo σ κ S v w t) :
 GoesI Tryd.prog (X.h==0) (DT (ScZ z) Ch) Stop (f.cu (enc y)) w :=
 hB z Ch Stop w v S κ y N.at_.rel N.at_.noRow N.at_.mem (N.mo pb _ hpb) (N.far pb (by rw [hpb];simp)) (fun v' w' r n ev=>hob.ans (fa y) (.inl hx) v' w' S r n N.nv (N.evo.join ev (fun b hb=>by
  have hb':b=pb:=hb
  subst hb'
  exact N.new b (by rw [hpb];simp))))
theorem ct_add (hm:CMine s X c sb) (hoe:f.od[f.qd]? = some f.oe) (hB:CBack (X.h==0) pb (fun _:Unit=>.tuple #[]) (fun _=>(0,0)) f.cu cu) (hH:∀ x Mo' g,Good v0 Mo0 x Mo'→ctSit s X x Mo' cu g→H x Mo' g) {n:Int} {cb:Nat} (hcb:X.kb[X.i % s]? = some cb) {a:Act} (hA:FA c X.tb cb n a)
 (hob:Ob X H z cont Ch Stop cu S0 K0 v0 Mo0 σ κ (.turn 1 (X.i % s) (0,[((X.i % s:Nat):Int),n]))) (N:Now X z cont Ch S0 K0 v0 Mo0 (boxO pb) σ κ S v w t) :
 GoesI Tryd.prog (X.h==0) (DT (ScZ z) Ch) Stop (G (aFr a) (f.top :: f.fs)) w:=by
 have hA':FA c t.tb cb n a:=by rw [N.at_.tb];exact hA
 exact add_loop (h:=X.h) (i:=X.i) (j:=X.i % s) (cb:=cb) _ hA' _ (H (.turn 1 (X.i % s) (0,[((X.i % s:Nat):Int),n])) (boxO pb)) (fun g hg=>by
  obtain ⟨a1,hA1,hg⟩:=hg
  rw [N.at_.tb] at hA1 hg
  exact hH _ _ g (N.good (fun _ _ h=>by cases h)) ⟨c,sb,pb,f,hm,hoe,.inl ⟨hB,rfl,n,cb,a1,hcb,hA1,.inl ⟨rfl,hg⟩⟩⟩) N.at_.rel N.at_.noRow N.at_.mem N.at_.thr (N.cell hcb).1 (by rw [N.at_.tb];exact N.at_.z) (by rw [N.at_.tb,N.at_.gc];exact N.at_.cont) (ob_turn hob N)
theorem ct_aseen (hm:CMine s X c sb) (hoe:f.od[f.qd]? = some f.oe) (hB:CBack (X.h==0) pb (fun _:Unit=>.tuple #[]) (fun _=>(0,0)) f.cu cu) (hH:∀ x Mo' g,Good v0 Mo0 x Mo'→ctSit s X x Mo' cu g→H x Mo' g) {n:Int} {cb:Nat} (hcb:X.kb[X.i % s]? = some cb) {a:Act} (hA:FA c X.tb cb n a) (y:Int)
 (hob:Ob X H z cont Ch Stop cu S0 K0 v0 Mo0 σ κ (.turn 4 (X.i % s) (1,[((X.i % s:Nat):Int),n,y]))) (N:Now X z cont Ch S0 K0 v0 Mo0 (boxO pb) σ κ S v w t) :
 GoesI Tryd.prog (X.h==0) (DT (ScZ z) Ch) Stop (G (aSeen a (I y)) (f.top :: f.fs)) w:=by
 have hA':FA c t.tb cb n a:=by rw [N.at_.tb];exact hA
 exact add_try (h:=X.h) (i:=X.i) (j:=X.i % s) (cb:=cb) y _ (hm.mem v N.at_.pk).2 hA' _ (H (.turn 4 (X.i % s) (1,[((X.i % s:Nat):Int),n,y])) (boxO pb)) (fun g hg=>by
  obtain ⟨a1,hA1,hg⟩:=hg
  rw [N.at_.tb] at hA1 hg
  exact hH _ _ g (N.good (fun _ _ h=>by cases h)) ⟨c,sb,pb,f,hm,hoe,.inl ⟨hB,rfl,n,cb,a1,hcb,hA1,.inr ⟨y,rfl,hg⟩⟩⟩) N.at_.rel N.at_.noRow N.at_.mem N.at_.thr (N.cell hcb).1 (by rw [N.at_.tb];exact N.at_.z) (by rw [N.at_.tb,N.at_.gc];exact N.at_.cont) (ob_turn hob N)
end
end Go.Proofs.YtfjjoohflcchnaaDoor.Gen
