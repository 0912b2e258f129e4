/- Of the proof of CounterTimes. Part 6 of 31. (Joined, by program, and written short, of: Freeze, Await, Lift26, Awake2, Lift27, AwaitNo, Until, Carry, Play5, Carry2, Carry3, Carry4, Lift28, Ready, Pick.) -/
import Derived.Test.YtfjjoohflcchnaaDoorCounterTimes05
import Derived.Conc.DeferLaws
import Derived.Conc.QuitsD
import Derived.WalkLawsBesides
set_option linter.unusedSimpArgs false
set_option linter.unusedVariables false
set_option maxHeartbeats 4000000
set_option maxRecDepth 100000
namespace Go.Proofs.YtfjjoohflcchnaaDoor
open Go Go.Lift Go.Conc Go.RowKit
def chill:Option Nat→Obj→Obj
 |some n,.cells c e _=>.cells c e (n,n+1)
 |_,o=>o
theorem zap_chill (x:Option Nat) (o:Obj) (h:∀ c e f,o=.cells c e f→x.isSome=true→f=(0,0)):zap x (chill x o)=o:=by
 cases x with
 |none=>cases o<;>rfl
 |some n =>
  cases o with
  |cells c e f =>
   have:=h c e f rfl rfl
   subst this
   rfl
  |_=>rfl
theorem freeze_rel {z:Nat→Option Nat} {w:World} (h:∀ r n,z r=some n→r<w.heap.size∧∀ c e f,w.heap[r]? = some (.cells c e f)→f=(0,0)) :
 ∃ v,Rel z v w∧(∀ r,v.heap[r]? = (w.heap[r]?).map (chill (z r)))∧v.heap.size=w.heap.size∧v.os=w.os∧v.output=w.output:=by
 have hget:∀ r:Nat,(w.heap.mapIdx fun r o=>chill (z r) o)[r]? = (w.heap[r]?).map (chill (z r)):=fun r=>by rw [Array.getElem?_mapIdx]
 refine ⟨{ w with heap:=w.heap.mapIdx fun r o=>chill (z r) o },⟨fun r=>?_,fun r n c e f hz hh=>?_,fun r n hz=>?_,rfl,rfl⟩,hget,by simp,rfl,rfl⟩
 ·show w.heap[r]? = ((w.heap.mapIdx fun r o=>chill (z r) o)[r]?).map (zap (z r))
  rw [hget]
  cases ho:w.heap[r]? with
  |none=>rfl
  |some o =>
   simp only [Option.map_some,Option.some.injEq]
   exact (zap_chill _ _ fun c e f he hs=>by
    cases hz:z r with
    |none=>rw [hz] at hs;cases hs
    |some n=>exact (h r n hz).2 c e f (by rw [ho,he])).symm
 ·simp only at hh
  rw [hget,hz] at hh
  cases ho:w.heap[r]? with
  |none=>rw [ho] at hh;cases hh
  |some o =>
   rw [ho] at hh
   cases o<;>simp only [Option.map_some,chill,Option.some.injEq,Obj.cells.injEq,reduceCtorEq] at hh
   exact hh.2.2.symm
 ·simpa using (h r n hz).1
section
variable {z:Nat→Option Nat} {S:TS} {K:List (Nat×Int)} {v w:World}
theorem Mem.thaw (h:Mem z S K v) (hr:Rel z v w):Mem zn S K w:=by
 have hno:∀ b:Nat,(∀ c e,v.heap[b]?≠some (Obj.cells c e (0,0)))∨w.heap[b]? = v.heap[b]?:=fun b=>by
  cases hz:z b with
  |none=>right;rw [hr.heap,hz];cases v.heap[b]?<;>simp [zap_none]
  |some n =>
   left
   intro c e hh
   have:=hr.kept b n c e _ hz hh
   simp at this
 have hrow:∀ (b:Nat) (c:Array Value) (e:TypeId),v.heap[b]? = some (.cells c e (fz z b))→w.heap[b]? = some (.cells c e (fz zn b)):=fun b c e hh=>by
  rw [hr.heap,hh]
  unfold fz
  cases hz:z b<;>rfl
 have hown:∀ {base:Nat} {e:TypeId} {size:Nat} {x:Value} {n:Nat} {xs:List Value},v.ownsRow base e size x n xs→w.ownsRow base e size x n xs:=fun {base e size x n xs} ho=>by
  refine ⟨ho.1,?_⟩
  rcases ho.2 with h2|⟨g,cap,cur,h1,h2,h3,h4⟩
  ·exact .inl h2
  ·refine .inr ⟨g,cap,cur,h1,h2,?_,h4⟩
   rcases hno g with hn|hn
   ·exact absurd h3 (hn _ _)
   ·rw [hn];exact h3
 refine ⟨⟨hrow _ _ _ h.rep.wor,fun i t ht=>hrow _ _ _ (h.rep.thr i t ht),hown h.rep.own,hown h.rep.chg,hown h.rep.ths,hown h.rep.sch,by rw [hr.size];exact h.rep.bs,h.rep.apart,fun b n hz=>(nomatch hz)⟩,fun j c hc=>?_,h.far,h.inj,h.len⟩
 rcases hno c.1 with hn|hn
 ·exact absurd (h.cel j c hc) (hn _ _)
 ·rw [hn];exact h.cel j c hc
theorem Mem.freeze (h:Mem zn S K w) (hz:∀ b n,z b=some n→(b=S.wb∧n=8)∨∃ (i:Nat) (t:Thr),S.thr[i]? = some t∧b=t.tb∧n=2):∃ v,Rel z v w∧Mem z S K v∧v.os=w.os∧v.output=w.output:=by
 have hits:∀ b n,z b=some n→Its S b:=fun b n hb=>by
  rcases hz b n hb with ⟨rfl,_⟩|⟨i,t,ht,rfl,_⟩
  ·exact ⟨0,rfl⟩
  ·exact ⟨i+5,by simp [blk,ht]⟩
 have hlo:∀ r n,z r=some n→r<w.heap.size∧∀ c e f,w.heap[r]? = some (.cells c e f)→f=(0,0):=fun r n hb=>by
  refine ⟨h.lt (.inl (hits r n hb)),fun c e f hh=>?_⟩
  rcases hz r n hb with ⟨rfl,_⟩|⟨i,t,ht,rfl,_⟩
  ·rw [h.rep.wor] at hh;cases hh;rfl
  ·rw [h.rep.thr i t ht] at hh;cases hh;rfl
 obtain ⟨v,hr,hget,hs,ho,hu⟩:=freeze_rel hlo
 have hrow:∀ (b:Nat) (c:Array Value) (e:TypeId),w.heap[b]? = some (.cells c e (fz zn b))→v.heap[b]? = some (.cells c e (fz z b)):=fun b c e hh=>by
  rw [hget,hh]
  unfold fz
  cases hzb:z b<;>rfl
 have hoth:∀ b,z b=none→v.heap[b]? = w.heap[b]?:=fun b hb=>by
  rw [hget,hb]
  cases w.heap[b]? with
  |none=>rfl
  |some o=>cases o<;>rfl
 have hzo:∀ k b,blk S k=some b→k≠0→k<5→z b=none:=fun k b hk h0 h5=>by
  cases hb:z b with
  |none=>rfl
  |some n =>
   rcases hz b n hb with ⟨rfl,_⟩|⟨i,t,ht,rfl,_⟩
   ·exact absurd (h.rep.apart k 0 _ hk rfl) h0
   ·have:=h.rep.apart k (i+5) _ hk (by simp [blk,ht]);omega
 refine ⟨v,hr,⟨⟨hrow _ _ _ h.rep.wor,fun i t ht=>hrow _ _ _ (h.rep.thr i t ht),own_stay (fun b hb=>hoth b (hzo 3 b hb (by omega) (by omega))) h.rep.own,own_stay (fun b hb=>hoth b (hzo 1 b hb (by omega) (by omega))) h.rep.chg,own_stay (fun b hb=>hoth b (hzo 2 b hb (by omega) (by omega))) h.rep.ths,own_stay (fun b hb=>hoth b (hzo 4 b hb (by omega) (by omega))) h.rep.sch,by rw [hs];exact h.rep.bs,h.rep.apart,hz⟩,fun j c hc=>?_,h.far,h.inj,h.len⟩,ho,hu⟩
 rw [hoth c.1 (by
  cases hb:z c.1 with
  |none=>rfl
  |some n=>exact absurd (hits _ n hb) (h.far j c hc))]
 exact h.cel j c hc
end
theorem Mem.chan {z:Nat→Option Nat} {S:TS} {K:List (Nat×Int)} {w:World} (h:Mem z S K w) {c:Nat} {o:Obj} (hc:w.heap[c]? = some o) (ho:∀ (x:Array Value) (e:TypeId) (f:Nat×Nat),o≠Obj.cells x e f) (cap:Nat) (buf:Array Value) (cl:Bool) (a b:Nat) (tm:Bool):Mem z S K (w.setChan c cap buf cl a b tm):=by
 have hne:∀ (r:Nat) (x:Array Value) (e:TypeId) (f:Nat×Nat),w.heap[r]? = some (Obj.cells x e f)→(w.setChan c cap buf cl a b tm).heap[r]? = some (Obj.cells x e f):=fun r x e f hr=>by
  rw [heap_setChan_ne]
  ·exact hr
  ·rintro rfl
   rw [hc] at hr
   cases hr
   exact ho _ _ _ rfl
 have hown:∀ {base:Nat} {e:TypeId} {size:Nat} {x:Value} {n:Nat} {xs:List Value},w.ownsRow base e size x n xs→(w.setChan c cap buf cl a b tm).ownsRow base e size x n xs:=fun {base e size x n xs} ho=>by
  refine ⟨ho.1,?_⟩
  rcases ho.2 with h2|⟨g,cp,cur,h1,h2,h3,h4⟩
  ·exact .inl h2
  ·exact .inr ⟨g,cp,cur,h1,h2,hne _ _ _ _ h3,h4⟩
 have hs:(w.setChan c cap buf cl a b tm).heap.size=w.heap.size:=by simp [World.setChan]
 exact ⟨⟨hne _ _ _ _ h.rep.wor,fun i t ht=>hne _ _ _ _ (h.rep.thr i t ht),hown h.rep.own,hown h.rep.chg,hown h.rep.ths,hown h.rep.sch,by rw [hs];exact h.rep.bs,h.rep.apart,h.rep.kept⟩,fun j d hd=>hne _ _ _ _ (h.cel j d hd),h.far,h.inj,h.len⟩
end Go.Proofs.YtfjjoohflcchnaaDoor
namespace Go.Lift
open Go.Conc
section
variable {P:Program} {main:Bool} {Stop:Goroutine→World→Prop} {k:List Item} {cs:List Frame} {w:World} {ops:Array Oper} {i:Nat} {rest:List Nat} {o:Oper} {L:FuncId→Prop} {b:Frame} {a:Act} {z:Nat→Option Nat} {Ch:Nat→Prop} {v v':World}
theorem op_like (hof:fineOp P true L o) (hvw:Rel z v w) {x:Next} (hr:(execOp a.eval o).run P v=.ok x v') (hd:v'.drawn=v.drawn) (d:Nat) :
 ∃ w',Out z true v v' (w.at d) w'∧(∀ e∈listed P b.fn a o (w.at d),Okay true e∧Spares z w' e)∧(execOp a.eval o).run P (w.at d)=.ok x w':=by
 have hT:(execOp a.eval o).runT P v #[]=(.ok x v',(execOp a.eval o).events P v #[]):=by
  have:=runT_fst (P:=P) (execOp a.eval o) v #[]
  rw [hr] at this
  exact Prod.ext this rfl
 obtain ⟨w',h1,h2,h3⟩:=sim z _ (hof a).1 v (w.at d) #[] x v' _ (hvw.re rfl rfl rfl rfl rfl rfl) hT (fun i hi=>absurd hi (by omega))
 refine ⟨w',h2,fun e he=>?_,by rw [←runT_fst (P:=P) _ (w.at d) #[],h1]⟩
 have e2:(execOp a.eval o).events P (w.at d) #[]=(execOp a.eval o).events P v #[]:=by
  show ((execOp a.eval o).runT P (w.at d) #[]).2=_
  rw [h1]
 unfold listed at he
 rw [e2] at he
 rcases h3 e (mem_seen he) with h|h
 ·simp at h
 ·exact h
theorem goesI_opZ (ho:ops[i]? = some o) (hw:Region.wanted o (yielded ops a.tmps)=true) (hk:b.kind≠.early) (hof:fineOp P true L o) (hvw:Rel z v w) (hn:NoRow Ch v) {x:Value} (hr:(execOp a.eval o).run P v=.ok (.value x) v') (hd:v'.drawn=v.drawn)
 (h:∀ w',Rel z v' w'→NoRow Ch v'→GoesI P main (DT (ScZ z) Ch) Stop (G (b.at (a.put o.dst x) (.inRegion ops rest :: k)) cs) w'):GoesI P main (DT (ScZ z) Ch) Stop (G (b.at a (.inRegion ops (i :: rest) :: k)) cs) w:=by
 have one:=op_like (b:=b) hof hvw hr hd
 exact .step rfl _ (fun d=>(one d).choose) _ (fun d=>stepG_value ho hw hk (one d).choose_spec.2.2) (fun d=>dt_of_z v v' (w.at d) _ _ hn (hvw.re rfl rfl rfl rfl rfl rfl) (one d).choose_spec.1 (one d).choose_spec.2.1) (fun d=>h _ (one d).choose_spec.1.rel (noRow_keeps _ _ (one d).choose_spec.1.keeps hn))
theorem goesI_doZ (ho:ops[i]? = some o) (hw:Region.wanted o (yielded ops a.tmps)=true) (hk:b.kind≠.early) (hof:fineOp P true L o) (hvw:Rel z v w) (hn:NoRow Ch v) (hr:(execOp a.eval o).run P v=.ok .skip v') (hd:v'.drawn=v.drawn)
 (h:∀ w',Rel z v' w'→NoRow Ch v'→GoesI P main (DT (ScZ z) Ch) Stop (G (b.at (a.put o.dst undef) (.inRegion ops rest :: k)) cs) w'):GoesI P main (DT (ScZ z) Ch) Stop (G (b.at a (.inRegion ops (i :: rest) :: k)) cs) w:=by
 have one:=op_like (b:=b) hof hvw hr hd
 exact .step rfl _ (fun d=>(one d).choose) _ (fun d=>stepG_none ho hw hk (one d).choose_spec.2.2) (fun d=>dt_of_z v v' (w.at d) _ _ hn (hvw.re rfl rfl rfl rfl rfl rfl) (one d).choose_spec.1 (one d).choose_spec.2.1) (fun d=>h _ (one d).choose_spec.1.rel (noRow_keeps _ _ (one d).choose_spec.1.keeps hn))
theorem Agr.eval {n:Nat} {val:Nat→Value} {a0:Act} {l:Array Bool} (h:Agr ops n val a0 l a) {j:Nat} {t:Tmp} (hj:j<n) (ho:ops[j]? = some o) (hl:l.getD j false=true) (hd:o.dst=some t):a.eval (.tmp t)=val j:=by
 simp [Act.eval,h.done j o t hj ho hl hd]
theorem Agr.eval0 {n:Nat} {val:Nat→Value} {a0:Act} {l:Array Bool} (h:Agr ops n val a0 l a) {t:Tmp} (hd:∀ (j:Nat) (o:Oper),j<n→ops[j]? = some o→o.dst≠some t):a.eval (.tmp t)=a0.eval (.tmp t):=by
 simp [Act.eval,h.else_ t (fun j o hj ho _=>hd j o hj ho)]
end
end Go.Lift
namespace Go.Proofs.YtfjjoohflcchnaaDoor
open Go Go.Lift Go.Conc Go.RowKit
end Go.Proofs.YtfjjoohflcchnaaDoor
namespace Go.Lift
open Go.Conc
section
variable {P:Program} {main:Bool} {Stop:Goroutine→World→Prop} {k:List Item} {cs:List Frame} {w:World} {ops:Array Oper} {i:Nat} {rest:List Nat} {o:Oper}
theorem goesI_outZ {z:Nat→Option Nat} {Ch:Nat→Prop} {L:FuncId→Prop} (hE:∀ fr cs dy g w,∃ o w',early P fr cs dy g w=.ended o w') (hL:∀ g,L g→fineFn P true L g)
 {f:FuncId} {fn:Func} {c:Code} {act:Act} {more:List Item} {bc:Frame} {ac:Act} {R:Value→World→Prop} {v0:World} (hvw:Rel z v0 w) (hn:NoRow Ch v0) (hf:P.funcs[f]? = some fn) (hc:fineCode P true L c) (ha:act.defers=[]) (ho:ops[i]? = some o)
 (hwp:∀ τ,c.wp P (fun e a w'=>e=.ret∧∃ x,(results fn a.tmps).run P w'=.ok x w'∧R x w') act (onTape v0 τ 0))
 (h:∀ v v' w',R v v'→Rel z v' w'→NoRow Ch v'→GoesI P main (DT (ScZ z) Ch) Stop (G (bc.at (ac.put o.dst v) (.inRegion ops rest :: k)) cs) w') :
 GoesI P main (DT (ScZ z) Ch) Stop (G ((base f).at act (.code c :: more)) (bc.at ac (.inRegion ops (i :: rest) :: k) :: cs)) w:=by
 refine (lift_code (P:=P) (z:=z) (wr:=true) (L:=L) (D:=DT (ScZ z) Ch) (I:=NoRow Ch) (main:=main) (b:=base f) (k:=more) (cs:=bc.at ac (.inRegion ops (i :: rest) :: k) :: cs) hE hL noRow_keeps
  (fun v v' w w' es hi hr ho he=>dt_of_z v v' w w' es hi hr ho he) hvw hc ha (by simp [base]) hn hwp (fun e a w hq=>.inr hq.1)).then ?_
 rintro g w' ⟨a',v',hr,hiv,hd,⟨⟨hq,_⟩,_⟩|⟨⟨_,x,hx,hR⟩,todo,rfl⟩⟩
 ·cases hq
 ·exact goesI_leaveZ hr hiv hf hd ho hx (fun w'' hr''=>h x v' w'' hR hr'' hiv)
end
end Go.Lift
namespace Go.Proofs.YtfjjoohflcchnaaDoor
open Go Go.Lift Go.Conc Go.RowKit
def condA:Code→Code
 |.cond _ a _=>a
 |c=>c
def blockC:Code→Code
 |.block _ c=>c
 |c=>c
def loopC:Code→Code
 |.loop c=>c
 |c=>c
noncomputable def L34:Code:=loopC (blockC (seq2 (seq2 (Tryd.f94.body.getD .skip))))
noncomputable def cFr (tb:Nat) (csl F asl:Value) (n ii:Nat) (sk:Bool) (u:Nat→Value):Frame :=
 (base 94).at ⟨#[Pt tb 0,csl,F,asl,undef,undef,undef,undef,.bool sk,u 9,u 10,csl,I n,I ii,u 14,u 15,u 16,u 17,u 18,u 19,u 20,u 21,u 22,u 23]++#[u 24,u 25,u 26,u 27,u 28,u 29,u 30,u 31,u 32,u 33,u 34,u 35,u 36,u 37,u 38,u 39,u 40,u 41,u 42,u 43,u 44,u 45,u 46,u 47],[]⟩ [.code L34,.inLoop L34,.inBlock 0]
theorem carry_in {z:Nat→Option Nat} {Ch:Nat→Prop} {Stop:Goroutine→World→Prop} {main:Bool} {w:World} {tb:Nat} (F asl:Value) (p:Option Addr) (n cap:Nat) (cs:List Frame)
 (hk:∀ u,GoesI Tryd.prog main (DT (ScZ z) Ch) Stop (G (cFr tb (.slice p n cap) F asl n 0 false u) cs) w) (code:Code) (hc:Tryd.f94.body=some code) :
 GoesI Tryd.prog main (DT (ScZ z) Ch) Stop (G ((base 94).at { tmps:=#[Pt tb 0,.slice p n cap,F,asl]++Array.replicate 44 undef,defers:=[] } [.code code]) cs) w:=by
 obtain rfl:=Option.some.inj hc
 clear hc
 simp only [Array.replicate_succ,Array.replicate_zero,List.push_toArray,List.append_toArray,List.nil_append,List.cons_append]
 refine goesI_seq (dt_idle _ _) ?_
 refine goesI_region (dt_idle _ _) ?_
 simp only [List.size_toArray,List.length_cons,List.length_nil,Nat.reduceAdd,Nat.zero_add,List.range,List.range.loop]
 (refine goesI_oper rfl rfl (by decide) (fun d K hK=>?_)
  go_simp
  refine hK _ _ ⟨dt_reads (fun e he=>?_),GoesI.at ?_ d⟩
  ·have hm:=mem_listed he
   simp [go_sem, *] at hm
  clear hK K)
 refine goesI_regionEnd (dt_idle _ _) ?_
 refine goesI_seq (dt_idle _ _) ?_
 refine goesI_region (dt_idle _ _) ?_
 simp only [List.size_toArray,List.length_cons,List.length_nil,Nat.reduceAdd,Nat.zero_add,List.range,List.range.loop]
 iterate 3
  (refine goesI_oper rfl rfl (by decide) (fun d K hK=>?_)
   go_simp
   refine hK _ _ ⟨dt_reads (fun e he=>?_),GoesI.at ?_ d⟩
   ·have hm:=mem_listed he
    simp [go_sem, *] at hm
   clear hK K)
 refine goesI_regionEnd (dt_idle _ _) ?_
 refine goesI_block (dt_idle _ _) ?_
 refine goesI_loop (dt_idle _ _) ?_
 have hk:=hk (fun _=>undef)
 unfold cFr L34 Tryd.f94 seq2 blockC loopC at hk
 simp only [Option.getD_some,List.append_toArray,List.cons_append,List.nil_append] at hk
 exact hk
theorem carry_end {z:Nat→Option Nat} {Ch:Nat→Prop} {Stop:Goroutine→World→Prop} {main:Bool} {w:World} {tb:Nat} (csl F asl:Value) (n:Nat) (sk:Bool) (u:Nat→Value) (cs:List Frame) {bc:Frame} {ac:Act} {ops:Array Oper} {q:Nat} {rest:List Nat} {oc:Oper} {k:List Item} (hoc:ops[q]? = some oc)
 (hk:GoesI Tryd.prog main (DT (ScZ z) Ch) Stop (G (bc.at (ac.put oc.dst (.tuple #[])) (.inRegion ops rest :: k)) cs) w) :
 GoesI Tryd.prog main (DT (ScZ z) Ch) Stop (G (cFr tb csl F asl n n sk u) (bc.at ac (.inRegion ops (q :: rest) :: k) :: cs)) w:=by
 unfold cFr L34 Tryd.f94 seq2 blockC loopC
 simp only [Option.getD_some,List.append_toArray,List.cons_append,List.nil_append]
 refine goesI_seq (dt_idle _ _) ?_
 refine goesI_region (dt_idle _ _) ?_
 simp only [List.size_toArray,List.length_cons,List.length_nil,Nat.reduceAdd,Nat.zero_add,List.range,List.range.loop]
 (refine goesI_oper rfl rfl (by decide) (fun d K hK=>?_)
  go_simp
  refine hK _ _ ⟨dt_reads (fun e he=>?_),GoesI.at ?_ d⟩
  ·have hm:=mem_listed he
   simp [go_sem, *] at hm
  clear hK K)
 refine goesI_regionEnd (dt_idle _ _) ?_
 refine goesI_seq (dt_idle _ _) ?_
 refine goesI_cond (dt_idle _ _) (t:=false) (by simp [Act.eval]) ?_
 simp only [if_true,if_false,Bool.false_eq_true]
 refine goesI_exit (dt_idle _ _) rfl ?_
 refine goesI_end (dt_idle _ _) ?_
 exact goesI_leave (b:=base 94) (fn:=Tryd.f94) rfl rfl Tryd.func94 (fun w=>results_none rfl _ _ _) (fun w=>by simp [results,go_sem]) hoc (dt_idle _ _) hk
def which (a:Int) (n:Nat):Nat:=(if a.tmod n<0 then a.tmod n+n else a.tmod n).toNat
theorem which_lt (a:Int) {n:Nat} (h:0<n):which a n<n:=by
 unfold which
 have h1:=Int.tmod_lt_of_pos a (show (0:Int)<n by omega)
 have h2:-(n:Int)<a.tmod n:=Int.lt_tmod_of_pos a (by omega)
 split<;>omega
theorem which_pos {a:Int} {n:Nat} (h:0≤a.tmod n):a.tmod n=(which a n:Int):=by
 unfold which
 rw [if_neg (by omega),Int.toNat_of_nonneg h]
theorem which_neg {a:Int} {n:Nat} (h:a.tmod n<0) (h0:0<n) (hb:(n:Int)<9223372036854775808):wrap64 (a.tmod n+n)=(which a n:Int):=by
 have h2:-(n:Int)<a.tmod n:=Int.lt_tmod_of_pos a (by omega)
 unfold which
 rw [if_pos h,Int.toNat_of_nonneg (by omega)]
 unfold wrap64
 omega
theorem mix21:Tryd.prog.follows .mixedOrders=true:=by kernel_rfl
theorem fineFn_body {P:Program} {L:FuncId→Prop} {f:FuncId} {fn:Func} {c:Code} (hL:∀ g,L g→fineFn P true L g) (hf:L f) (h1:P.funcs[f]? = some fn) (h2:fn.body=some c):fineCode P true L c:=by
 obtain ⟨fn',c',h3,h4,h5,_⟩:=hL f hf
 rw [h1] at h3
 cases h3
 rw [h2] at h4
 cases h4
 exact h5
noncomputable def ops347:Array Oper:=opsOf (seq1 (seq2 (seq2 (seq2 (blockC (seq1 (seq2 (seq2 L34))))))))
noncomputable def R89:Code:=seq2 (seq2 (seq2 (seq2 (blockC (seq1 (seq2 (seq2 L34)))))))
noncomputable def R10:Code:=seq2 (seq2 (seq2 L34))
noncomputable def cAct (tb:Nat) (csl F asl:Value) (rb ro n ii N:Nat) (x:Value) (u:Nat→Value):Act :=
 ⟨#[Pt tb 0,csl,F,asl,undef,undef,undef,undef,.bool false,I ii,Pt N 0,csl,I n,I ii,.bool true,I ii,Pt rb (ro+ii*4),x,.bool false,u 19,u 20,u 21,u 22,Pt tb 0]++#[I ii,.tuple #[],asl,I ii,F,Pt tb 0,x,u 31,u 32,u 33,u 34,u 35,u 36,u 37,u 38,u 39,u 40,u 41,u 42,u 43,u 44,u 45,u 46,u 47],[]⟩
theorem carry_step {z : Nat → Option Nat} {Ch : Nat → Prop} {Stop : Goroutine → World → Prop} {main : Bool} {S : TS} {K : List (Nat × Int)} {v w : World} {i : Nat} {t : Thr} (asl : Value) (f : FuncId) (fn : Func) (bn cp : Array Value) (hf : Tryd.prog.funcs[f]? = some fn) (hname : (fn.name == "runtime.NumGoroutine") = false) (cf : Code) (hcf : fn.body = some cf) (rb ro n cap ii : Nat) (po ca cb cc : Int) (u : Nat → Value) (cs : List Frame) (hi : ii < n)
 (h0:v.cell? ⟨rb,ro+ii*4,none⟩=some (I po)) (h1:v.cell? ⟨rb,ro+ii*4+1,none⟩=some (I ca)) (h2:v.cell? ⟨rb,ro+ii*4+2,none⟩=some (I cb)) (h3:v.cell? ⟨rb,ro+ii*4+3,none⟩=some (I cc))
 (hvw:Rel z v w) (hn:NoRow Ch v) (hm:Mem z S K v) (ht:S.thr[i]? = some t) (hl:(S.n+1)*40≤140737488355328)
 (hk:∀ v' w' tv,Rel z v' w'→NoRow Ch v'→Evo z S K v (noted S tv i 9 (-1) ii 0) K v'→v'.heap[v.heap.size]? = some (.cells #[I po,I ca,I cb,I cc] 35 (0,0)) →
   GoesI Tryd.prog main (DT (ScZ z) Ch) Stop (G ((base f).at { tmps:=(bn++#[Pt t.tb 0,.agg #[I po,I ca,I cb,I cc]]++cp)++Array.replicate (fn.ntmps - (bn++#[Pt t.tb 0,.agg #[I po,I ca,I cb,I cc]]++cp).size) undef,defers:=[] } [.code cf])
    ((base 94).at (cAct t.tb (.slice (some ⟨rb,ro,none⟩) n cap) (.func (.func f) bn cp) asl rb ro n ii v.heap.size (.agg #[I po,I ca,I cb,I cc]) u) [.inRegion ops347 [5,6,7],.code R89,.inBlock 1,.code R10,.inLoop L34,.inBlock 0] :: cs)) w') :
 GoesI Tryd.prog main (DT (ScZ z) Ch) Stop (G (cFr t.tb (.slice (some ⟨rb,ro,none⟩) n cap) (.func (.func f) bn cp) asl n ii false u) cs) w:=by
 have hi':(ii:Int)<(n:Int):=by omega
 have hq : ¬ fn.name = "runtime.NumGoroutine" := by simpa using hname
 have HM:Hid (Mem z S K v):=⟨hm⟩
 clear hm
 unfold cAct ops347 R89 R10 L34 Tryd.f94 seq2 seq1 blockC loopC opsOf at hk
 simp only [Option.getD_some,List.append_toArray,List.cons_append,List.nil_append] at hk
 unfold cFr L34 Tryd.f94 seq2 blockC loopC
 simp only [Option.getD_some,List.append_toArray,List.cons_append,List.nil_append]
 refine goesI_seq (dt_idle _ _) ?_
 refine goesI_region (dt_idle _ _) ?_
 simp only [List.size_toArray,List.length_cons,List.length_nil,Nat.reduceAdd,Nat.zero_add,List.range,List.range.loop]
 (refine goesI_oper rfl rfl (by decide) (fun d K hK=>?_)
  go_simp
  refine hK _ _ ⟨dt_reads (fun e he=>?_),GoesI.at ?_ d⟩
  ·have hm:=mem_listed he
   simp [go_sem, *] at hm
  clear hK K)
 refine goesI_regionEnd (dt_idle _ _) ?_
 refine goesI_seq (dt_idle _ _) ?_
 refine goesI_cond (dt_idle _ _) (t:=true) (by simp [Act.eval,hi]) ?_
 simp only [if_true,if_false,Bool.false_eq_true]
 refine goesI_skip (dt_idle _ _) ?_
 refine goesI_seq (dt_idle _ _) ?_
 refine goesI_block (dt_idle _ _) ?_
 refine goesI_seq (dt_idle _ _) ?_
 refine goesI_region (dt_idle _ _) ?_
 simp only [List.size_toArray,List.length_cons,List.length_nil,Nat.reduceAdd,Nat.zero_add,List.range,List.range.loop]
 iterate 2
  (refine goesI_oper rfl rfl (by decide) (fun d K hK=>?_)
   go_simp
   refine hK _ _ ⟨dt_reads (fun e he=>?_),GoesI.at ?_ d⟩
   ·have hm:=mem_listed he
    simp [go_sem, *] at hm
    try exact ⟨_,_,hm⟩
    try (rcases hm with rfl|rfl|rfl|rfl<;>exact ⟨_,_,rfl⟩)
   clear hK K)
 refine goesI_opZ (L:=LT) rfl rfl (by decide) (fineOp_ask callT extT (by kernel_rfl)) hvw hn (x:=.agg #[I po,I ca,I cb,I cc]) (v':=v) (by go_simp) rfl (fun w1 hvw1 _=>?_)
 refine goesI_opZ (L:=LT) rfl rfl (by decide) (fineOp_ask callT extT (by kernel_rfl)) hvw1 hn (x:=Pt v.heap.size 0) (v':={ v with heap:=v.heap.push (.cells #[I 0,I 0,I 0,I 0] 35) }) (by go_simp) rfl (fun w2 hvw2 hn2=>?_)
 walk_nrm
 (refine goesI_oper rfl rfl (by decide) (fun d K hK=>?_)
  go_simp
  refine hK _ _ ⟨dt_reads (fun e he=>?_),GoesI.at ?_ d⟩
  ·have hm:=mem_listed he
   simp [go_sem, *] at hm
  clear hK K)
 have hB:({ v with heap:=v.heap.push (.cells #[I 0,I 0,I 0,I 0] 35) }:World).heap[v.heap.size]? = some (.cells #[I 0,I 0,I 0,I 0] 35):=Array.getElem?_push_size
 generalize hV:({ v with heap:=v.heap.push (.cells #[I 0,I 0,I 0,I 0] 35) }:World)=V at hvw2 hn2 hB
 generalize hN:v.heap.size=N at hk hB ⊢
 have g0:V.cell? ⟨N,0,none⟩=some (I 0):=by simp [World.cell?,hB]
 have g1:V.cell? ⟨N,1,none⟩=some (I 0):=by simp [World.cell?,hB]
 have g2:V.cell? ⟨N,2,none⟩=some (I 0):=by simp [World.cell?,hB]
 have g3:V.cell? ⟨N,3,none⟩=some (I 0):=by simp [World.cell?,hB]
 have p0:V.frozen? ⟨N,0,none⟩=false:=by simp [World.frozen?,hB]
 have p1:V.frozen? ⟨N,1,none⟩=false:=by simp [World.frozen?,hB]
 have p2:V.frozen? ⟨N,2,none⟩=false:=by simp [World.frozen?,hB]
 have p3:V.frozen? ⟨N,3,none⟩=false:=by simp [World.frozen?,hB]
 refine goesI_doZ (L:=LT) rfl rfl (by decide) (fineOp_ask callT extT (by kernel_rfl)) hvw2 hn2 (v':=(((V.setCell ⟨N,0,none⟩ (I po)).setCell ⟨N,1,none⟩ (I ca)).setCell ⟨N,2,none⟩ (I cb)).setCell ⟨N,3,none⟩ (I cc)) (by go_simp) rfl (fun w3 hvw3 hn3=>?_)
 have hrow:((((V.setCell ⟨N,0,none⟩ (I po)).setCell ⟨N,1,none⟩ (I ca)).setCell ⟨N,2,none⟩ (I cb)).setCell ⟨N,3,none⟩ (I cc)).heap[N]? = some (.cells #[I po,I ca,I cb,I cc] 35 (0,0)):=by
  have:=heap_setCell_same (o:=3) (heap_setCell_same (o:=2) (heap_setCell_same (o:=1) (heap_setCell_same (o:=0) hB (I po)) (I ca)) (I cb)) (I cc)
  simpa using this
 have hg:Grows v ((((V.setCell ⟨N,0,none⟩ (I po)).setCell ⟨N,1,none⟩ (I ca)).setCell ⟨N,2,none⟩ (I cb)).setCell ⟨N,3,none⟩ (I cc)):=by
  refine ⟨by rw [←hV];simp [World.setCell],fun b hb=>?_,by rw [←hV];rfl,by rw [←hV];rfl⟩
  have hbN:b≠N:=by omega
  rw [Below.heap_setCell _ _ _ _ hbN,Below.heap_setCell _ _ _ _ hbN,Below.heap_setCell _ _ _ _ hbN,Below.heap_setCell _ _ _ _ hbN,←hV]
  show (v.heap.push _)[b]? = _
  rw [Array.getElem?_push,if_neg (by omega)]
 generalize ((((V.setCell ⟨N,0,none⟩ (I po)).setCell ⟨N,1,none⟩ (I ca)).setCell ⟨N,2,none⟩ (I cb)).setCell ⟨N,3,none⟩ (I cc))=V3 at hvw3 hn3 hrow hg
 have HE:Hid (Evo z S K v S K V3):=⟨HM.out.grows hg⟩
 clear hV hB g0 g1 g2 g3 p0 p1 p2 p3 hvw2 hn2 hvw1 hvw
 refine goesI_regionEnd (dt_idle _ _) ?_
 refine goesI_seq (dt_idle _ _) ?_
 refine goesI_seq (dt_idle _ _) ?_
 refine goesI_region (dt_idle _ _) ?_
 simp only [List.size_toArray,List.length_cons,List.length_nil,Nat.reduceAdd,Nat.zero_add,List.range,List.range.loop]
 (refine goesI_oper rfl rfl (by decide) (fun d K hK=>?_)
  go_simp
  refine hK _ _ ⟨dt_reads (fun e he=>?_),GoesI.at ?_ d⟩
  ·have hm:=mem_listed he
   simp [go_sem, *] at hm
  clear hK K)
 refine goesI_regionEnd (dt_idle _ _) ?_
 refine goesI_cond (dt_idle _ _) (t:=false) rfl ?_
 simp only [if_true,if_false,Bool.false_eq_true]
 refine goesI_skip (dt_idle _ _) ?_
 refine goesI_seq (dt_idle _ _) ?_
 refine goesI_region (dt_idle _ _) ?_
 simp only [List.size_toArray,List.length_cons,List.length_nil,Nat.reduceAdd,Nat.zero_add,List.range,List.range.loop]
 iterate 2
  (refine goesI_oper rfl rfl (by decide) (fun d K hK=>?_)
   go_simp
   refine hK _ _ ⟨dt_reads (fun e he=>?_),GoesI.at ?_ d⟩
   ·have hm:=mem_listed he
    simp [go_sem, *] at hm
    try exact ⟨_,_,hm⟩
    try (rcases hm with rfl|rfl|rfl|rfl<;>exact ⟨_,_,rfl⟩)
   clear hK K)
 refine goesI_call (f:=118) (fn:=Tryd.f118) (args:=#[Pt t.tb 0,I 9,I ii,I 0]) hE fineT rfl rfl (by decide) rfl (by simp [Act.eval]) Tryd.func118 (by kernel_rfl) rfl (fineFn_body fineT (by simp [LT,plainFs]) Tryd.func118 rfl) (fun tmps=>⟨_,fun w=>results_none rfl _ _ _,fun w=>by simp [results,go_sem]⟩) hvw3 hn3
  (R:=fun r v4=>r=.tuple #[]∧∃ tv,Ev z S V3 (noted S tv i 9 (-1) ii 0) v4) (fun τ=>?_) (fun r v4 w4 hR hvw4 hn4=>?_)
 ·exact wp_mono (body43 (v:=onTape V3 τ 0) (HE.out.mem.rep.same rfl) ht 9 ii 0 hl _ rfl) (bp_mono fun r x hq=>⟨hq.1,hq.2.choose,hq.2.choose_spec.base rfl rfl rfl⟩)
 obtain ⟨rfl,tv,hev⟩:=hR
 have HE4:Hid (Evo z S K v (noted S tv i 9 (-1) ii 0) K v4):=⟨HE.out.trans (Evo.of_ev HE.out.mem hev rfl)⟩
 have hNo:¬ Own S K N:=fun hO=>by have:=HM.out.lt hO;omega
 have hrow4:v4.heap[N]? = some (.cells #[I po,I ca,I cb,I cc] 35 (0,0)):=by
  rw [hev.fr.block N (Array.getElem?_eq_some_iff.1 hrow).1 (fun hI=>hNo (.inl hI))]
  exact hrow
 clear hev hrow hg HE hvw3 hn3
 have k0:w4.cell? ⟨N,0,none⟩=some (I po):=by rw [hvw4.cell?];simp [World.cell?,hrow4]
 have k1:w4.cell? ⟨N,1,none⟩=some (I ca):=by rw [hvw4.cell?];simp [World.cell?,hrow4]
 have k2:w4.cell? ⟨N,2,none⟩=some (I cb):=by rw [hvw4.cell?];simp [World.cell?,hrow4]
 have k3:w4.cell? ⟨N,3,none⟩=some (I cc):=by rw [hvw4.cell?];simp [World.cell?,hrow4]
 have hk:=hk v4 w4 tv hvw4 hn4 HE4.out hrow4
 walk_nrm
 refine goesI_regionEnd (dt_idle _ _) ?_
 refine goesI_seq (dt_idle _ _) ?_
 refine goesI_region (dt_idle _ _) ?_
 simp only [List.size_toArray,List.length_cons,List.length_nil,Nat.reduceAdd,Nat.zero_add,List.range,List.range.loop]
 iterate 5
  (refine goesI_oper rfl rfl (by decide) (fun d K hK=>?_)
   go_simp
   refine hK _ _ ⟨dt_reads (fun e he=>?_),GoesI.at ?_ d⟩
   ·have hm:=mem_listed he
    simp [go_sem, *] at hm
    try exact ⟨_,_,hm⟩
    try (rcases hm with rfl|rfl|rfl|rfl<;>exact ⟨_,_,rfl⟩)
   clear hK K)
 refine goesI_enter (f:=f) (args:=bn++#[Pt t.tb 0,.agg #[I po,I ca,I cb,I cc]]++cp) rfl rfl (by decide) (fun w=>?_) (fun w=>?_) (dt_idle _ _) hf hcf ?_
 ·simp [execOp,resolve,Deferred.ofValue,Act.eval,invoke,callFunc,hf,hq,hcf]
 ·refine listed_none ?_
  simp [go_sem,execOp,resolve,Deferred.ofValue,Act.eval,invoke,callFunc,hf,hq,hcf]
 exact hk
theorem carry_back {z:Nat→Option Nat} {Ch:Nat→Prop} {Stop:Goroutine→World→Prop} {main:Bool} {S:TS} {K:List (Nat×Int)} {v w:World} {i:Nat} {t:Thr} (csl F:Value) (rb ro ab n cap2 ii N:Nat) (X:Value) (e x y0 y1:Int) (u:Nat→Value) (cs:List Frame) (hi:ii<n) (hb:(n:Int)<9223372036854775808)
 (a0:v.cell? ⟨ab,ii*2,none⟩=some (I y0)) (a1:v.cell? ⟨ab,ii*2+1,none⟩=some (I y1)) (f0:v.frozen? ⟨ab,ii*2,none⟩=false) (f1:v.frozen? ⟨ab,ii*2+1,none⟩=false) (hbo:¬ Own S K ab)
 (hvw:Rel z v w) (hn:NoRow Ch v) (hm:Mem z S K v) (ht:S.thr[i]? = some t) (hl:(S.n+1)*40≤140737488355328)
 (hk:∀ v' w' tv u',Rel z v' w'→NoRow Ch v'→EvoP (· = ab) z S K v (noted S tv i 10 (-1) ii e) K v'→v'.heap[ab]? = ((v.setCell ⟨ab,ii*2,none⟩ (I e)).setCell ⟨ab,ii*2+1,none⟩ (I x)).heap[ab]? →
   GoesI Tryd.prog main (DT (ScZ z) Ch) Stop (G (cFr t.tb csl F (.slice (some ⟨ab,0,none⟩) n cap2) n (ii+1) (e==4) u') cs) w') :
 GoesI Tryd.prog main (DT (ScZ z) Ch) Stop (G ((base 94).at ((cAct t.tb csl F (.slice (some ⟨ab,0,none⟩) n cap2) rb ro n ii N X u).put (some 31) (.agg #[I e,I x])) [.inRegion ops347 [6,7],.code R89,.inBlock 1,.code R10,.inLoop L34,.inBlock 0]) cs) w:=by
 have hi':(ii:Int)<(n:Int):=by omega
 have hlt:ab<v.heap.size:=World.block_lt_of_cell? _ _ a0
 have HM:Hid (Mem z S K v):=⟨hm⟩
 have HW:Hid (IntKind.i64.wrap ((ii:Int)+1)=((ii+1:Nat):Int)):=⟨by rw [IntKind.wrap_i64];omega⟩
 clear hm hb
 unfold cAct ops347 R89 R10 L34 Tryd.f94 seq2 seq1 blockC loopC opsOf
 simp only [Option.getD_some,List.append_toArray,List.cons_append,List.nil_append]
 walk_nrm
 (refine goesI_oper rfl rfl (by decide) (fun d K hK=>?_)
  go_simp
  refine hK _ _ ⟨dt_reads (fun e he=>?_),GoesI.at ?_ d⟩
  ·have hm:=mem_listed he
   simp [go_sem, *] at hm
  clear hK K)
 refine goesI_doZ (L:=LT) rfl rfl (by decide) (fineOp_ask callT extT (by kernel_rfl)) hvw hn (v':=(v.setCell ⟨ab,ii*2,none⟩ (I e)).setCell ⟨ab,ii*2+1,none⟩ (I x)) (by go_simp) rfl (fun w2 hvw2 hn2=>?_)
 have HE:Hid (EvoP (· = ab) z S K v S K ((v.setCell ⟨ab,ii*2,none⟩ (I e)).setCell ⟨ab,ii*2+1,none⟩ (I x))):=⟨HM.out.other hbo (fun b hb=>by rw [Below.heap_setCell _ _ _ _ hb,Below.heap_setCell _ _ _ _ hb]) (by simp [World.setCell]) rfl rfl⟩
 have e0:((v.setCell ⟨ab,ii*2,none⟩ (I e)).setCell ⟨ab,ii*2+1,none⟩ (I x)).cell? ⟨ab,ii*2,none⟩=some (I e):=by
  rw [World.cell?_setCell_other _ _ _ _ (by simp)]
  exact World.cell?_setCell_same _ _ _ (by rw [a0])
 have hs2:ab<((v.setCell ⟨ab,ii*2,none⟩ (I e)).setCell ⟨ab,ii*2+1,none⟩ (I x)).heap.size:=by simpa [World.setCell] using hlt
 generalize ((v.setCell ⟨ab,ii*2,none⟩ (I e)).setCell ⟨ab,ii*2+1,none⟩ (I x))=V at hvw2 hn2 HE e0 hs2 hk
 have q0:w2.cell? ⟨ab,ii*2,none⟩=some (I e):=by rw [hvw2.cell?];exact e0
 clear a0 a1 f0 f1 hvw
 refine goesI_regionEnd (dt_idle _ _) ?_
 refine goesI_seq (dt_idle _ _) ?_
 refine goesI_region (dt_idle _ _) ?_
 simp only [List.size_toArray,List.length_cons,List.length_nil,Nat.reduceAdd,Nat.zero_add,List.range,List.range.loop]
 iterate 7
  (refine goesI_oper rfl rfl (by decide) (fun d K hK=>?_)
   go_simp
   refine hK _ _ ⟨dt_reads (fun e he=>?_),GoesI.at ?_ d⟩
   ·have hm:=mem_listed he
    simp [go_sem, *] at hm
    try exact ⟨_,_,hm⟩
    try (rcases hm with rfl|rfl|rfl|rfl<;>exact ⟨_,_,rfl⟩)
   clear hK K)
 refine goesI_call (f:=118) (fn:=Tryd.f118) (args:=#[Pt t.tb 0,I 10,I ii,I e]) hE fineT rfl rfl (by decide) rfl (by simp [Act.eval]) Tryd.func118 (by kernel_rfl) rfl (fineFn_body fineT (by simp [LT,plainFs]) Tryd.func118 rfl) (fun tmps=>⟨_,fun w=>results_none rfl _ _ _,fun w=>by simp [results,go_sem]⟩) hvw2 hn2
  (R:=fun r v4=>r=.tuple #[]∧∃ tv,Ev z S V (noted S tv i 10 (-1) ii e) v4) (fun τ=>?_) (fun r v4 w4 hR hvw4 hn4=>?_)
 ·exact wp_mono (body43 (v:=onTape V τ 0) (HE.out.mem.rep.same rfl) ht 10 ii e hl _ rfl) (bp_mono fun r x hq=>⟨hq.1,hq.2.choose,hq.2.choose_spec.base rfl rfl rfl⟩)
 obtain ⟨rfl,tv,hev⟩:=hR
 have HE4:Hid (EvoP (· = ab) z S K v (noted S tv i 10 (-1) ii e) K v4):=⟨HE.out.trans (Evo.of_ev HE.out.mem hev rfl).toP⟩
 have hsame:v4.heap[ab]? = V.heap[ab]?:=hev.fr.block ab hs2 (fun hI=>hbo (.inl hI))
 have k0:w4.cell? ⟨ab,ii*2,none⟩=some (I e):=by
  rw [hvw4.cell?,World.cell?_of_block hsame]
  exact e0
 clear hev HE hvw2 hn2 q0 e0 hs2
 have hk:=hk v4 w4 tv (fun m=>match m with
  |9=>I ii|10=>Pt N 0|14=>.bool true|15=>I ii|16=>Pt rb (ro+ii*4)|17=>X|18=>.bool false|23=>Pt t.tb 0|24=>I ii|25=>.tuple #[]|26=>.slice (some ⟨ab,0,none⟩) n cap2|27=>I ii|28=>F|29=>Pt t.tb 0|30=>X|31=>.agg #[I e,I x]|32=>Pt ab (ii*2)
  |33=>Pt t.tb 0|34=>I ii|35=>.slice (some ⟨ab,0,none⟩) n cap2|36=>I ii|37=>Pt ab (ii*2)|38=>Pt ab (ii*2)|39=>I e|40=>.tuple #[]|41=>.slice (some ⟨ab,0,none⟩) n cap2|42=>I ii|43=>Pt ab (ii*2)|44=>Pt ab (ii*2)|45=>I e|46=>.bool (e==4)|47=>I ((ii+1:Nat):Int)|m=>u m) hvw4 hn4 HE4.out hsame
 unfold cFr L34 Tryd.f94 seq2 blockC loopC at hk
 simp only [Option.getD_some,List.append_toArray,List.cons_append,List.nil_append] at hk
 rw [←HW.out] at hk
 clear HE4 hvw4 hn4
 walk_nrm
 refine goesI_regionEnd (dt_idle _ _) ?_
 refine goesI_region (dt_idle _ _) ?_
 simp only [List.size_toArray,List.length_cons,List.length_nil,Nat.reduceAdd,Nat.zero_add,List.range,List.range.loop]
 iterate 7
  (refine goesI_oper rfl rfl (by decide) (fun d K hK=>?_)
   go_simp
   refine hK _ _ ⟨dt_reads (fun e he=>?_),GoesI.at ?_ d⟩
   ·have hm:=mem_listed he
    simp [go_sem, *] at hm
    try exact ⟨_,_,hm⟩
    try (rcases hm with rfl|rfl|rfl|rfl<;>exact ⟨_,_,rfl⟩)
   clear hK K)
 refine goesI_regionEnd (dt_idle _ _) ?_
 refine goesI_inBlock (dt_idle _ _) ?_
 refine goesI_region (dt_idle _ _) ?_
 simp only [List.size_toArray,List.length_cons,List.length_nil,Nat.reduceAdd,Nat.zero_add,List.range,List.range.loop]
 iterate 2
  (refine goesI_oper rfl rfl (by decide) (fun d K hK=>?_)
   go_simp
   refine hK _ _ ⟨dt_reads (fun e he=>?_),GoesI.at ?_ d⟩
   ·have hm:=mem_listed he
    simp [go_sem, *] at hm
    try exact ⟨_,_,hm⟩
    try (rcases hm with rfl|rfl|rfl|rfl<;>exact ⟨_,_,rfl⟩)
   clear hK K)
 refine goesI_regionEnd (dt_idle _ _) ?_
 refine goesI_inLoop (dt_idle _ _) ?_
 exact hk
theorem carry_skip {z:Nat→Option Nat} {Ch:Nat→Prop} {Stop:Goroutine→World→Prop} {main:Bool} {S:TS} {K:List (Nat×Int)} {v w:World} {tb:Nat} (F:Value) (rb ro ab n cap cap2 ii:Nat) (po ca cb cc y0 y1:Int) (u:Nat→Value) (cs:List Frame) (hi:ii<n) (hb:(n:Int)<9223372036854775808)
 (h0:v.cell? ⟨rb,ro+ii*4,none⟩=some (I po)) (h1:v.cell? ⟨rb,ro+ii*4+1,none⟩=some (I ca)) (h2:v.cell? ⟨rb,ro+ii*4+2,none⟩=some (I cb)) (h3:v.cell? ⟨rb,ro+ii*4+3,none⟩=some (I cc))
 (a0:v.cell? ⟨ab,ii*2,none⟩=some (I y0)) (a1:v.cell? ⟨ab,ii*2+1,none⟩=some (I y1)) (f0:v.frozen? ⟨ab,ii*2,none⟩=false) (f1:v.frozen? ⟨ab,ii*2+1,none⟩=false) (hbo:¬ Own S K ab)
 (hvw:Rel z v w) (hn:NoRow Ch v) (hm:Mem z S K v)
 (hk:∀ v' w' u',Rel z v' w'→NoRow Ch v'→EvoP (· = ab) z S K v S K v'→v'.heap[ab]? = ((v.setCell ⟨ab,ii*2,none⟩ (I 4)).setCell ⟨ab,ii*2+1,none⟩ (I 0)).heap[ab]? →
   GoesI Tryd.prog main (DT (ScZ z) Ch) Stop (G (cFr tb (.slice (some ⟨rb,ro,none⟩) n cap) F (.slice (some ⟨ab,0,none⟩) n cap2) n (ii+1) true u') cs) w') :
 GoesI Tryd.prog main (DT (ScZ z) Ch) Stop (G (cFr tb (.slice (some ⟨rb,ro,none⟩) n cap) F (.slice (some ⟨ab,0,none⟩) n cap2) n ii true u) cs) w:=by
 have hi':(ii:Int)<(n:Int):=by omega
 have HM:Hid (Mem z S K v):=⟨hm⟩
 have HW:Hid (IntKind.i64.wrap ((ii:Int)+1)=((ii+1:Nat):Int)):=⟨by rw [IntKind.wrap_i64];omega⟩
 have hNa:ab<v.heap.size:=World.block_lt_of_cell? _ _ a0
 clear hm hb
 unfold cFr L34 Tryd.f94 seq2 blockC loopC
 simp only [Option.getD_some,List.append_toArray,List.cons_append,List.nil_append]
 refine goesI_seq (dt_idle _ _) ?_
 refine goesI_region (dt_idle _ _) ?_
 simp only [List.size_toArray,List.length_cons,List.length_nil,Nat.reduceAdd,Nat.zero_add,List.range,List.range.loop]
 (refine goesI_oper rfl rfl (by decide) (fun d K hK=>?_)
  go_simp
  refine hK _ _ ⟨dt_reads (fun e he=>?_),GoesI.at ?_ d⟩
  ·have hm:=mem_listed he
   simp [go_sem, *] at hm
  clear hK K)
 refine goesI_regionEnd (dt_idle _ _) ?_
 refine goesI_seq (dt_idle _ _) ?_
 refine goesI_cond (dt_idle _ _) (t:=true) (by simp [Act.eval,hi]) ?_
 simp only [if_true,if_false,Bool.false_eq_true]
 refine goesI_skip (dt_idle _ _) ?_
 refine goesI_seq (dt_idle _ _) ?_
 refine goesI_block (dt_idle _ _) ?_
 refine goesI_seq (dt_idle _ _) ?_
 refine goesI_region (dt_idle _ _) ?_
 simp only [List.size_toArray,List.length_cons,List.length_nil,Nat.reduceAdd,Nat.zero_add,List.range,List.range.loop]
 iterate 2
  (refine goesI_oper rfl rfl (by decide) (fun d K hK=>?_)
   go_simp
   refine hK _ _ ⟨dt_reads (fun e he=>?_),GoesI.at ?_ d⟩
   ·have hm:=mem_listed he
    simp [go_sem, *] at hm
    try exact ⟨_,_,hm⟩
    try (rcases hm with rfl|rfl|rfl|rfl<;>exact ⟨_,_,rfl⟩)
   clear hK K)
 refine goesI_opZ (L:=LT) rfl rfl (by decide) (fineOp_ask callT extT (by kernel_rfl)) hvw hn (x:=.agg #[I po,I ca,I cb,I cc]) (v':=v) (by go_simp) rfl (fun w1 hvw1 _=>?_)
 refine goesI_opZ (L:=LT) rfl rfl (by decide) (fineOp_ask callT extT (by kernel_rfl)) hvw1 hn (x:=Pt v.heap.size 0) (v':={ v with heap:=v.heap.push (.cells #[I 0,I 0,I 0,I 0] 35) }) (by go_simp) rfl (fun w2 hvw2 hn2=>?_)
 walk_nrm
 (refine goesI_oper rfl rfl (by decide) (fun d K hK=>?_)
  go_simp
  refine hK _ _ ⟨dt_reads (fun e he=>?_),GoesI.at ?_ d⟩
  ·have hm:=mem_listed he
   simp [go_sem, *] at hm
  clear hK K)
 have hB:({ v with heap:=v.heap.push (.cells #[I 0,I 0,I 0,I 0] 35) }:World).heap[v.heap.size]? = some (.cells #[I 0,I 0,I 0,I 0] 35):=Array.getElem?_push_size
 generalize hV:({ v with heap:=v.heap.push (.cells #[I 0,I 0,I 0,I 0] 35) }:World)=V at hvw2 hn2 hB
 generalize hN:v.heap.size=N at hB hNa ⊢
 have g0:V.cell? ⟨N,0,none⟩=some (I 0):=by simp [World.cell?,hB]
 have g1:V.cell? ⟨N,1,none⟩=some (I 0):=by simp [World.cell?,hB]
 have g2:V.cell? ⟨N,2,none⟩=some (I 0):=by simp [World.cell?,hB]
 have g3:V.cell? ⟨N,3,none⟩=some (I 0):=by simp [World.cell?,hB]
 have p0:V.frozen? ⟨N,0,none⟩=false:=by simp [World.frozen?,hB]
 have p1:V.frozen? ⟨N,1,none⟩=false:=by simp [World.frozen?,hB]
 have p2:V.frozen? ⟨N,2,none⟩=false:=by simp [World.frozen?,hB]
 have p3:V.frozen? ⟨N,3,none⟩=false:=by simp [World.frozen?,hB]
 refine goesI_doZ (L:=LT) rfl rfl (by decide) (fineOp_ask callT extT (by kernel_rfl)) hvw2 hn2 (v':=(((V.setCell ⟨N,0,none⟩ (I po)).setCell ⟨N,1,none⟩ (I ca)).setCell ⟨N,2,none⟩ (I cb)).setCell ⟨N,3,none⟩ (I cc)) (by go_simp) rfl (fun w3 hvw3 hn3=>?_)
 have hrow:((((V.setCell ⟨N,0,none⟩ (I po)).setCell ⟨N,1,none⟩ (I ca)).setCell ⟨N,2,none⟩ (I cb)).setCell ⟨N,3,none⟩ (I cc)).heap[N]? = some (.cells #[I po,I ca,I cb,I cc] 35 (0,0)):=by
  have:=heap_setCell_same (o:=3) (heap_setCell_same (o:=2) (heap_setCell_same (o:=1) (heap_setCell_same (o:=0) hB (I po)) (I ca)) (I cb)) (I cc)
  simpa using this
 have hg:Grows v ((((V.setCell ⟨N,0,none⟩ (I po)).setCell ⟨N,1,none⟩ (I ca)).setCell ⟨N,2,none⟩ (I cb)).setCell ⟨N,3,none⟩ (I cc)):=by
  refine ⟨by rw [←hV];simp [World.setCell],fun b hb=>?_,by rw [←hV];rfl,by rw [←hV];rfl⟩
  have hbN:b≠N:=by omega
  rw [Below.heap_setCell _ _ _ _ hbN,Below.heap_setCell _ _ _ _ hbN,Below.heap_setCell _ _ _ _ hbN,Below.heap_setCell _ _ _ _ hbN,←hV]
  show (v.heap.push _)[b]? = _
  rw [Array.getElem?_push,if_neg (by omega)]
 generalize ((((V.setCell ⟨N,0,none⟩ (I po)).setCell ⟨N,1,none⟩ (I ca)).setCell ⟨N,2,none⟩ (I cb)).setCell ⟨N,3,none⟩ (I cc))=V3 at hvw3 hn3 hrow hg
 have HE:Hid (Evo z S K v S K V3):=⟨HM.out.grows hg⟩
 have b0:V3.cell? ⟨ab,ii*2,none⟩=some (I y0):=hg.cell a0
 have b1:V3.cell? ⟨ab,ii*2+1,none⟩=some (I y1):=hg.cell a1
 have hold:V3.heap[ab]? = v.heap[ab]?:=hg.old ab (by omega)
 have g0:V3.frozen? ⟨ab,ii*2,none⟩=false:=by rw [←f0];unfold World.frozen?;rw [hold]
 have g1:V3.frozen? ⟨ab,ii*2+1,none⟩=false:=by rw [←f1];unfold World.frozen?;rw [hold]
 clear hV hB hvw2 hn2 hvw1 hvw h0 h1 h2 h3 a0 a1 f0 f1
 refine goesI_regionEnd (dt_idle _ _) ?_
 refine goesI_seq (dt_idle _ _) ?_
 refine goesI_seq (dt_idle _ _) ?_
 refine goesI_region (dt_idle _ _) ?_
 simp only [List.size_toArray,List.length_cons,List.length_nil,Nat.reduceAdd,Nat.zero_add,List.range,List.range.loop]
 (refine goesI_oper rfl rfl (by decide) (fun d K hK=>?_)
  go_simp
  refine hK _ _ ⟨dt_reads (fun e he=>?_),GoesI.at ?_ d⟩
  ·have hm:=mem_listed he
   simp [go_sem, *] at hm
  clear hK K)
 refine goesI_regionEnd (dt_idle _ _) ?_
 refine goesI_cond (dt_idle _ _) (t:=true) rfl ?_
 simp only [if_true,if_false,Bool.false_eq_true]
 refine goesI_seq (dt_idle _ _) ?_
 refine goesI_region (dt_idle _ _) ?_
 simp only [List.size_toArray,List.length_cons,List.length_nil,Nat.reduceAdd,Nat.zero_add,List.range,List.range.loop]
 iterate 4
  (refine goesI_oper rfl rfl (by decide) (fun d K hK=>?_)
   go_simp
   refine hK _ _ ⟨dt_reads (fun e he=>?_),GoesI.at ?_ d⟩
   ·have hm:=mem_listed he
    simp [go_sem, *] at hm
    try exact ⟨_,_,hm⟩
    try (rcases hm with rfl|rfl|rfl|rfl<;>exact ⟨_,_,rfl⟩)
   clear hK K)
 refine goesI_doZ (L:=LT) rfl rfl (by decide) (fineOp_ask callT extT (by kernel_rfl)) hvw3 hn3 (v':=(V3.setCell ⟨ab,ii*2,none⟩ (I 4)).setCell ⟨ab,ii*2+1,none⟩ (I 0)) (by go_simp) rfl (fun w4 hvw4 hn4=>?_)
 have HE4:EvoP (· = ab) z S K v S K ((V3.setCell ⟨ab,ii*2,none⟩ (I 4)).setCell ⟨ab,ii*2+1,none⟩ (I 0)):=HE.out.toP.trans (HE.out.mem.other hbo (fun b hb=>by rw [Below.heap_setCell _ _ _ _ hb,Below.heap_setCell _ _ _ _ hb]) (by simp [World.setCell]) rfl rfl)
 have hsame:((V3.setCell ⟨ab,ii*2,none⟩ (I 4)).setCell ⟨ab,ii*2+1,none⟩ (I 0)).heap[ab]? = ((v.setCell ⟨ab,ii*2,none⟩ (I 4)).setCell ⟨ab,ii*2+1,none⟩ (I 0)).heap[ab]?:=by
  simp only [World.setCell,Array.getElem?_modify]
  simp [hold]
 have hk:=hk _ w4 (fun m=>match m with
  |9=>I ii|10=>Pt N 0|14=>.bool true|15=>I ii|16=>Pt rb (ro+ii*4)|17=>.agg #[I po,I ca,I cb,I cc]|18=>.bool true|19=>.slice (some ⟨ab,0,none⟩) n cap2|20=>I ii|21=>.agg #[I 4,I 0]|22=>Pt ab (ii*2)|47=>I ((ii+1:Nat):Int)|m=>u m) hvw4 hn4 HE4 hsame
 unfold cFr L34 Tryd.f94 seq2 blockC loopC at hk
 simp only [Option.getD_some,List.append_toArray,List.cons_append,List.nil_append] at hk
 rw [←HW.out] at hk
 clear HE4 hsame
 walk_nrm
 refine goesI_regionEnd (dt_idle _ _) ?_
 refine goesI_exit (dt_idle _ _) rfl ?_
 refine goesI_region (dt_idle _ _) ?_
 simp only [List.size_toArray,List.length_cons,List.length_nil,Nat.reduceAdd,Nat.zero_add,List.range,List.range.loop]
 iterate 2
  (refine goesI_oper rfl rfl (by decide) (fun d K hK=>?_)
   go_simp
   refine hK _ _ ⟨dt_reads (fun e he=>?_),GoesI.at ?_ d⟩
   ·have hm:=mem_listed he
    simp [go_sem, *] at hm
    try exact ⟨_,_,hm⟩
    try (rcases hm with rfl|rfl|rfl|rfl<;>exact ⟨_,_,rfl⟩)
   clear hK K)
 refine goesI_regionEnd (dt_idle _ _) ?_
 refine goesI_inLoop (dt_idle _ _) ?_
 exact hk
end Go.Proofs.YtfjjoohflcchnaaDoor
namespace Go.Lift
open Go.Conc
section
variable {P:Program} {main:Bool} {b:Frame} {a:Act} {k:List Item} {cs:List Frame} {w:World} {D:World→World→Array Event→Prop} {Stop:Goroutine→World→Prop} {ops:Array Oper} {i:Nat} {rest:List Nat} {o:Oper} {todo:List Item} {ds:List Deferred} {f:FuncId} {fn:Func}
def dclo (f:FuncId) (cap:Array Value):Deferred:={ target:=.fn (.func f) cap,args:=#[] }
noncomputable def botP (P:Program):Frame:={ (default:Frame) with fn:=P.funcs.size,defers:=[],mode:=.panicking [goexitEntry] }
theorem stepG_deferV {d:Deferred} (ho:ops[i]? = some o) (hw:Region.wanted o (yielded ops a.tmps)=true) (hk:b.kind≠.early) (hr:(execOp a.eval o).run P w=.ok (.defer d) w) (he:(execOp a.eval o).events P w #[]=#[]) :
 stepG P main (G (b.at a (.inRegion ops (i :: rest) :: k)) cs) w=.go (G (b.at (Act.put ⟨a.tmps,d :: a.defers⟩ o.dst undef) (.inRegion ops rest :: k)) cs) w #[]:=by
 have hfin:(b.at ⟨a.tmps,d :: a.defers⟩ (.inRegion ops (i :: rest) :: k)).finish undef=b.at (Act.put ⟨a.tmps,d :: a.defers⟩ o.dst undef) (.inRegion ops rest :: k):=by rw [Frame.finish_at,ho];rfl
 have hk':(b.kind==CallKind.early)=false:=by simpa using hk
 rw [stepG_oper ho hw,←hfin]
 simp [stepG.apply,hr,he,G,Frame.at,hk',GStep.after,seen_none]
theorem stepG_unwind_clo {c : Code} {cap : Array Value} (hd : a.defers = dclo f cap :: ds) (hf : P.funcs[f]? = some fn) (hname : (fn.name == "runtime.NumGoroutine") = false) (hb : fn.body = some c) :
 stepG P main (G { b.at a todo with mode:=.returning } cs) w =
  .go (G ((baseD f).at { tmps:=cap++Array.replicate (fn.ntmps - cap.size) undef,defers:=[] } [.code c]) ({ b.at ⟨a.tmps,ds⟩ todo with mode:=.returning } :: cs)) w #[]:=by
 have h1 : ¬ fn.name = "runtime.NumGoroutine" := by simpa using hname
 rw [←enter_atD cap hf hb]
 simp [G,stepG,unwind,callDeferred,Frame.at,hd,dclo,invoke,callFunc,hf,h1,hb,GStep.after,seen_none]
theorem stepG_recover_none {c:Frame} (ho:ops[i]? = some o) (hw:Region.wanted o (yielded ops a.tmps)=true) (hk:b.kind=.deferred) (hc:c.mode=.returning) (hr:(execOp a.eval o).run P w=.ok .recover w) (he:(execOp a.eval o).events P w #[]=#[]) :
 stepG P main (G (b.at a (.inRegion ops (i :: rest) :: k)) (c :: cs)) w=.go (G (b.at (a.put o.dst .nilIface) (.inRegion ops rest :: k)) (c :: cs)) w #[]:=by
 have hfin:(b.at a (.inRegion ops (i :: rest) :: k)).finish .nilIface=b.at (a.put o.dst .nilIface) (.inRegion ops rest :: k):=by rw [Frame.finish_at,ho];rfl
 rw [stepG_oper ho hw,←hfin]
 simp [stepG.apply,hr,he,G,Frame.at,hk,hc,tryRecover,GStep.after,seen_none]
theorem goesI_deferV {d:Deferred} (hD:∀ w,D w w #[]) (ho:ops[i]? = some o) (hw:Region.wanted o (yielded ops a.tmps)=true) (hk:b.kind≠.early) (hr:∀ w,(execOp a.eval o).run P w=.ok (.defer d) w) (he:∀ w,(execOp a.eval o).events P w #[]=#[])
 (h:GoesI P main D Stop (G (b.at (Act.put ⟨a.tmps,d :: a.defers⟩ o.dst undef) (.inRegion ops rest :: k)) cs) w):GoesI P main D Stop (G (b.at a (.inRegion ops (i :: rest) :: k)) cs) w :=
 .ctl rfl (fun w=>stepG_deferV ho hw hk (hr w) (he w)) hD h
theorem goesI_unwind_clo {c : Code} {cap : Array Value} (hD : ∀ w, D w w #[]) (hd : a.defers = dclo f cap :: ds) (hf : P.funcs[f]? = some fn) (hname : (fn.name == "runtime.NumGoroutine") = false) (hb : fn.body = some c)
 (h:GoesI P main D Stop (G ((baseD f).at { tmps:=cap++Array.replicate (fn.ntmps - cap.size) undef,defers:=[] } [.code c]) ({ b.at ⟨a.tmps,ds⟩ todo with mode:=.returning } :: cs)) w):GoesI P main D Stop (G { b.at a todo with mode:=.returning } cs) w :=
 .ctl rfl (fun _=>stepG_unwind_clo hd hf hname hb) hD h
theorem goesI_recover_none {c:Frame} (hD:∀ w,D w w #[]) (ho:ops[i]? = some o) (hw:Region.wanted o (yielded ops a.tmps)=true) (hk:b.kind=.deferred) (hc:c.mode=.returning) (hr:∀ w,(execOp a.eval o).run P w=.ok .recover w) (he:∀ w,(execOp a.eval o).events P w #[]=#[])
 (h:GoesI P main D Stop (G (b.at (a.put o.dst .nilIface) (.inRegion ops rest :: k)) (c :: cs)) w):GoesI P main D Stop (G (b.at a (.inRegion ops (i :: rest) :: k)) (c :: cs)) w :=
 .ctl rfl (fun w=>stepG_recover_none ho hw hk hc (hr w) (he w)) hD h
theorem quits_last (T:Array Value) (todo:List Item) (hf:P.funcs[f]? = some fn) (hr:fn.results=#[]):QuitsD P 2 0 (G { (baseD f).at ⟨T,[]⟩ todo with mode:=.returning } [botP P]):=by
 refine QuitsD.ctl (g':=G (botP P) []) rfl (fun w=>?_) ?_
 ·simp [G,stepG,unwind,doReturn,results,Frame.at,baseD,botP,hf,hr,seen,GStep.after,goexitEntry]
 refine QuitsD.ctl (g':={ G (botP P) [] with status:=.finished }) rfl (fun w=>?_) ⟨rfl,rfl⟩
 simp [G,stepG,unwind,botP,goexitEntry,Frame.catches]
 rfl
end
end Go.Lift
namespace Go.Proofs.YtfjjoohflcchnaaDoor
open Go Go.Lift Go.Conc Go.RowKit
def rdy (S:TS) (t:Thr):Bool:=decide (t.st=1)||(decide (t.st=2)&&(S.stk||decide (chgOf S.chg t.ce≠t.se)))
theorem ints_row {w:World} {base:Nat} {v:Value} {l:List Int} (h:w.ownsRow base 3 1 v l.length (l.map I)):IntRow w v l:=by
 rcases h.2 with ⟨rfl,h0⟩|⟨g,cap,cur,rfl,hb,hh,hle,_,hsz,htake⟩
 ·exact .inl ⟨List.length_eq_zero_iff.1 h0,rfl⟩
 ·refine .inr ⟨g,cap,rfl,fun i x hx=>?_⟩
  have hc:i<l.length:=(List.getElem?_eq_some_iff.1 hx).1
  have e:(l.map I)[i]? = some (I x):=by simp [hx]
  rw [←htake,Nat.mul_one,List.getElem?_take_of_lt hc] at e
  simp only [World.cell?,hh,Option.isSome_none,Bool.false_eq_true,if_false]
  simpa using e
theorem call51 {z:Nat→Option Nat} {S:TS} {v:World} (h:Rep z S v) (c:Int):Calls Tryd.prog 157 #[Pt S.wb 0,I c] v (fun e w'=>e=.returned (I (chgOf S.chg c))∧w'=v) :=
 ((body51 S.wb c S.cv S.chg v h.wcell.2.2.2.1 (ints_row h.chg)).calls Tryd.func157 rfl).mono fun e w' ⟨r,h1,h2,h3⟩=>⟨by rw [h1,h2],h3⟩
theorem call51q {z:Nat→Option Nat} {S:TS} {v:World} (h:Rep z S v) (c:Int) (n:Nat):Calls Tryd.prog 157 #[Pt S.wb 0,I c] (v.drewN n) (fun e w'=>e=.returned (I (chgOf S.chg c))∧∃ m,w'=v.drewN m) :=
 Calls.quiet_of_same (call51 (h.same (v':=v.drewN n) rfl) c)
theorem body71 {z:Nat→Option Nat} {S:TS} {v:World} (h:Rep z S v) {i:Nat} {t:Thr} (ht:S.thr[i]? = some t):Body Tryd.f155 #[Pt t.tb 0] v (fun r v'=>r=.bool (rdy S t)∧∃ n,v'=v.drewN n):=by
 intro code hb
 obtain rfl:=Option.some.inj hb
 clear hb
 simp only [Tryd.ntmps155,List.size_toArray,List.length_cons,List.length_nil,Nat.reduceAdd,Nat.reduceSub,Array.replicate_succ,Array.replicate_zero,List.push_toArray,List.append_toArray,List.nil_append,List.cons_append]
 obtain ⟨c0,_,_,c3,c4,_,c6⟩:=h.cell ht
 have w6:=h.wcell.2.2.2.2.2.2.1
 have HR:Hid (Rep z S v):=⟨h⟩
 clear h
 by_cases h1:t.st=1
 ·have g1:(t.st==1)=true:=by simpa using h1
  have HE:Hid (rdy S t=true):=⟨by simp [rdy,h1]⟩
  clear h1
  go_wp2_with fail
  go_quiet (fail)
  go_wp2
  go_ret
  exact ⟨_,rfl,by rw [HE.out];rfl,_,rfl⟩
 ·have g1:(t.st==1)=false:=by simpa using h1
  by_cases h2:t.st=2
  ·have g2:(t.st==2)=true:=by simpa using h2
   cases hs:S.stk with
   |true =>
    have HE:Hid (rdy S t=true):=⟨by simp [rdy,h2,hs]⟩
    rw [hs] at w6
    clear h1 h2 hs
    go_wp2_with fail
    go_quiet (fail)
    go_wp2
    go_ret
    exact ⟨_,rfl,by rw [HE.out];rfl,_,rfl⟩
   |false =>
    have HE:Hid (rdy S t=(chgOf S.chg t.ce != t.se)):=⟨by simp [rdy,h2,hs,bne];rfl⟩
    rw [hs] at w6
    clear h1 h2 hs
    go_wp2_with fail
    go_quiet (first|(go_at_call 157;exact call51q HR.out t.ce _))
    go_wp2
    go_ret
    exact ⟨_,rfl,by rw [HE.out];rfl,_,rfl⟩
  ·have g2:(t.st==2)=false:=by simpa using h2
   have HE:Hid (rdy S t=false):=⟨by simp [rdy,h1,h2]⟩
   clear h1 h2
   go_wp2_with fail
   go_quiet (fail)
   go_wp2
   go_ret
   exact ⟨_,rfl,by rw [HE.out];rfl,_,rfl⟩
theorem world_set {z:Nat→Option Nat} {S:TS} {v:World} (h:Rep z S v) (u:Nat) (l:Int) (b:Bool) (o:Nat) (x:Value) (hw:(wrow S).setIfInBounds o x=wrow { S with us:=u,la:=l,stk:=b }):Ev z S v { S with us:=u,la:=l,stk:=b } (v.setCell ⟨S.wb,o,none⟩ x):=by
 have hst:∀ k b,blk S k=some b→k≠0→(v.setCell ⟨S.wb,o,none⟩ x).heap[b]? = v.heap[b]?:=fun k b hk h0=>Below.heap_setCell _ _ _ _ (fun e=>h0 (h.apart k 0 b hk (by rw [e];rfl)))
 refine ⟨⟨?_,fun i t ht=>?_,own_stay (fun b hb=>hst 3 b hb (by omega)) h.own,own_stay (fun b hb=>hst 1 b hb (by omega)) h.chg,own_stay (fun b hb=>hst 2 b hb (by omega)) h.ths,own_stay (fun b hb=>hst 4 b hb (by omega)) h.sch,?_,fun j k b hj hk=>?_,h.kept⟩,⟨rfl,rfl,by simp [World.setCell],fun b _ hs=>Below.heap_setCell _ _ _ _ (fun e=>hs ⟨0,by rw [e];rfl⟩)⟩,fun b ⟨k,hk⟩=>.inl ⟨k,?_⟩⟩
 ·have:=heap_setCell_same (o:=o) h.wor x
  rw [hw] at this
  exact this
 ·rw [hst (i+5) t.tb (by simp only [blk];rw [show S.thr[i]? = some t from ht];rfl) (by omega)]
  exact h.thr i t ht
 ·show S.base≤_
  simpa [World.setCell] using h.bs
 ·refine h.apart j k b ?_ ?_
  ·rw [←hj];match j with|0=>rfl|1=>rfl|2=>rfl|3=>rfl|4=>rfl|j+5=>rfl
  ·rw [←hk];match k with|0=>rfl|1=>rfl|2=>rfl|3=>rfl|4=>rfl|k+5=>rfl
 ·rw [←hk];match k with|0=>rfl|1=>rfl|2=>rfl|3=>rfl|4=>rfl|k+5=>rfl
def PtrRow (w:World) (v:Value) (bs:List Nat):Prop:=∃ g cap,v=.slice (some ⟨g,0,none⟩) bs.length cap∧∀ (k b:Nat),bs[k]? = some b→w.cell? ⟨g,k,none⟩=some (Pt b 0)
def pickAt (S:TS) (ids:List Nat):Nat:=if S.us<S.sched.length then which (S.sched.getD S.us 0) ids.length else (ids.findIdx? (fun (i:Nat)=>decide (S.la<(i:Int)))).getD 0
def picked (S:TS):TS:=if S.us<S.sched.length then { S with us:=S.us+1 } else S
theorem find_at {l:List Nat} {a:Int} {k i:Nat} (h1:l[k]? = some i) (h2:a<(i:Int)) (h3:∀ (j i:Nat),j<k→l[j]? = some i→(i:Int)≤a):l.findIdx? (fun (i:Nat)=>decide (a<(i:Int)))=some k:=by
 have hk:=(List.getElem?_eq_some_iff.1 h1).1
 rw [List.findIdx?_eq_some_iff_getElem]
 refine ⟨hk,?_,fun j hj=>?_⟩
 ·have:l[k]=i:=by rw [List.getElem?_eq_getElem hk] at h1;exact Option.some.inj h1
  simp [this,h2]
 ·have:=h3 j _ hj (List.getElem?_eq_getElem (by omega))
  simpa using this
theorem find_none {l:List Nat} {a:Int} (h3:∀ (j i:Nat),j<l.length→l[j]? = some i→(i:Int)≤a):l.findIdx? (fun (i:Nat)=>decide (a<(i:Int)))=none:=by
 rw [List.findIdx?_eq_none_iff]
 intro x hx
 obtain ⟨j,hj,rfl⟩:=List.mem_iff_getElem.1 hx
 have:=h3 j _ hj (List.getElem?_eq_getElem hj)
 simpa using this
theorem body72 {z:Nat→Option Nat} {S:TS} {v:World} (h:Rep z S v) (lv:Value) (ids bs:List Nat) (hl:PtrRow v lv bs) (hlw:∀ g,lv.ownBlock=some g→¬ Its S g) (hlen:bs.length=ids.length) (hids:∀ (k i b:Nat),ids[k]? = some i→bs[k]? = some b→∃ t,S.thr[i]? = some t∧t.tb=b) (h0:0<ids.length) (hm:ids.length≤8) (hus:S.sched.length≤4611686018427387904) (hsc:∀ x∈S.sched,-9223372036854775808≤x∧x<9223372036854775808) :
 Body Tryd.f156 #[Pt S.wb 0,lv] v (fun r v'=>(∃ b,bs[pickAt S ids]? = some b∧r=Pt b 0)∧Ev z S v (picked S) v'):=by
 obtain ⟨g,cap,rfl,hrow⟩:=hl
 intro code hb
 obtain rfl:=Option.some.inj hb
 clear hb
 simp only [Tryd.ntmps156,List.size_toArray,List.length_cons,List.length_nil,Nat.reduceAdd,Nat.reduceSub,Array.replicate_succ,Array.replicate_zero,List.push_toArray,List.append_toArray,List.nil_append,List.cons_append]
 obtain ⟨w0,w1,w2,_⟩:=h.wcell
 obtain ⟨p,pc,hp⟩:=own_form h.sch
 rw [hp] at w0
 have f1:=fz_off h 1 (by omega)
 by_cases hu:S.us<S.sched.length
 ·obtain ⟨sg,scap,e1,e2,e3⟩:=ints_cell h.sch (List.getElem?_eq_getElem hu)
  rw [hp] at e1
  cases e1
  have hx:=hsc _ (List.getElem_mem hu)
  have HX:Hid (S.sched.getD S.us 0=S.sched[S.us]):=⟨by simp [List.getD_eq_getElem?_getD,List.getElem?_eq_getElem hu]⟩
  generalize hxs:S.sched[S.us]=x at e2 hx HX
  have HW:Hid (∀ V:World,V.heap=v.heap→V.os=v.os→V.output=v.output→Ev z S v (picked S) (V.setCell ⟨S.wb,1,none⟩ (I (wrap64 ((S.us:Int)+1))))):=⟨fun V q1 q2 q3=>by
   have ew:wrap64 ((S.us:Int)+1)=(S.us:Int)+1:=IntWalk.wrap64_in _ (by omega)
   rw [ew]
   have:=((Ev.refl h).same q1 q2 q3).trans (world_set (h.same q1) (S.us+1) S.la S.stk 1 (I ((S.us:Int)+1)) (by simp))
   unfold picked
   rw [if_pos hu]
   exact this⟩
  have HU:Hid (S.us<S.sched.length):=⟨hu⟩
  have HR:Hid (∀ (k b:Nat),bs[k]? = some b→v.cell? ⟨g,k,none⟩=some (Pt b 0)):=⟨hrow⟩
  have hu':(S.us:Int)<(S.sched.length:Int):=by omega
  have hn0:¬ ((bs.length:Int)=0):=by omega
  have HH:Hid (-9223372036854775808≤x∧x<9223372036854775808):=⟨hx⟩
  clear hrow hids hsc hxs hx h hus
  have hgw:g≠S.wb:=fun e=>hlw g rfl ⟨0,by rw [e];rfl⟩
  have hgw':S.wb≠g:=fun e=>hgw e.symm
  obtain ⟨k,hk⟩:∃ k,which x bs.length=k:=⟨_,rfl⟩
  have hkl:k<bs.length:=by rw [←hk];exact which_lt x (by omega)
  have hcell:=HR.out k _ (List.getElem?_eq_getElem hkl)
  have HK:Hid (pickAt S ids=k∧bs[k]? = some bs[k]):=⟨⟨by unfold pickAt;rw [if_pos hu,HX.out,←hlen];exact hk,List.getElem?_eq_getElem hkl⟩⟩
  generalize bs[k]=b at hcell HK
  have hkz:(0:Int)≤(k:Int):=by omega
  have hkl':(k:Int)<(bs.length:Int):=by omega
  by_cases hneg:x.tmod (bs.length:Int)<0
  ·have hwr:wrap64 (x.tmod (bs.length:Int)+(bs.length:Int))=(k:Int):=by rw [←hk];exact which_neg hneg (by omega) (by omega)
   clear hlen h0 hm hlw hk hu hkl
   generalize bs.length=nn at *
   go_wp2_with fail
   go_quiet (fail)
   go_wp2_with fail
   go_quiet (fail)
   go_wp2_with fail
   go_ret
   exact ⟨_,rfl,⟨b,by rw [HK.out.1];exact HK.out.2,rfl⟩,HW.out _ rfl rfl rfl⟩
  ·have hpos:x.tmod (bs.length:Int)=(k:Int):=by rw [←hk];exact which_pos (by omega)
   clear hlen h0 hm hlw hk hu hkl hneg
   generalize bs.length=nn at *
   go_wp2_with fail
   go_quiet (fail)
   go_wp2_with fail
   go_quiet (fail)
   go_wp2_with fail
   go_ret
   exact ⟨_,rfl,⟨b,by rw [HK.out.1];exact HK.out.2,rfl⟩,HW.out _ rfl rfl rfl⟩
 ·have hu':(decide (S.us<S.sched.length))=false:=by simpa using (by omega:S.sched.length≤S.us)
  have HE:Hid (∀ n,Ev z S v (picked S) (v.drewN n)):=⟨fun n=>by unfold picked;rw [if_neg hu];exact (Ev.refl h).same rfl rfl rfl⟩
  have HP:Hid (pickAt S ids=(ids.findIdx? (fun (i:Nat)=>decide (S.la<(i:Int)))).getD 0):=⟨by unfold pickAt;rw [if_neg hu]⟩
  have HC:Hid (∀ k,k<bs.length→∃ (i b:Nat),ids[k]? = some i∧bs[k]? = some b∧v.cell? ⟨g,k,none⟩=some (Pt b 0)∧v.cell? ⟨b,1,none⟩=some (I i)):=⟨fun k hk=>by
   have h1:ids[k]? = some ids[k]:=List.getElem?_eq_getElem (by omega)
   have h2:bs[k]? = some bs[k]:=List.getElem?_eq_getElem hk
   obtain ⟨t,ht,htb⟩:=hids k _ _ h1 h2
   exact ⟨_,_,h1,h2,hrow k _ h2,by rw [←htb];exact (h.cell ht).2.1⟩⟩
  have HL:Hid (bs.length=ids.length∧0<ids.length):=⟨⟨hlen,h0⟩⟩
  have hnb:bs.length≤8:=by omega
  clear hrow hids hsc hlen h0 hm hlw h hus f1
  go_wp2_with fail
  go_quiet (fail)
  go_wp2_with fail
  go_loopw [50] (fun i u=>∃ k:Nat,k≤bs.length∧i=.int .i64 k∧(∀ (j i:Nat),j<k→ids[j]? = some i→(i:Int)≤S.la)∧∃ q,u=v.drewN q) (fun i _=>bs.length - (intOf i).toNat)
  case atStart=>exact ⟨0,Nat.zero_le _,rfl,fun j _ hj=>absurd hj (Nat.not_lt_zero _),_,rfl⟩
  case round =>
   obtain ⟨k,hk,rfl,hso,qn,rfl⟩:=hrel
   have HSO:Hid (∀ (j i:Nat),j<k→ids[j]? = some i→(i:Int)≤S.la):=⟨hso⟩
   clear hso
   by_cases hlt:k<bs.length
   ·obtain ⟨i1,b1,h1,h2,h3,h4⟩:=HC.out k hlt
    have H12:Hid (ids[k]? = some i1∧bs[k]? = some b1):=⟨⟨h1,h2⟩⟩
    clear h1 h2
    have hlt':(k:Int)<(bs.length:Int):=by omega
    by_cases hla:S.la<(i1:Int)
    ·have HLA:Hid (S.la<(i1:Int)):=⟨hla⟩
     go_wp2_with fail
     go_quiet (fail)
     go_wp2_with fail
     go_ret
     refine ⟨_,rfl,⟨b1,?_,rfl⟩,by rw [World.drewN_drewN];exact HE.out _⟩
     have:ids.findIdx? (fun (i:Nat)=>decide (S.la<(i:Int)))=some k:=find_at H12.out.1 HLA.out HSO.out
     rw [HP.out,this]
     exact H12.out.2
    ·have HLA:Hid ((i1:Int)≤S.la):=⟨by omega⟩
     have hla':(decide (S.la<(i1:Int)))=false:=by simpa using hla
     clear hla
     go_wp2_with fail
     go_quiet (fail)
     go_wp2_with fail
     go_roundw
     case rel=>exact ⟨k+1,by omega,by go_num,fun j i hj hi=>by
      by_cases e:j=k
      ·subst e;rw [H12.out.1] at hi;cases hi;exact HLA.out
      ·exact HSO.out j i (by omega) hi,_,rfl⟩
     case measure=>simp [intOf];omega
   ·have hkk:k=bs.length:=by omega
    subst hkk
    obtain ⟨i1,b1,h1,h2,h3,h4⟩:=HC.out 0 (by have:=HL.out;omega)
    have H12:Hid (ids[0]? = some i1∧bs[0]? = some b1):=⟨⟨h1,h2⟩⟩
    have hz:(0:Int)<(bs.length:Int):=by have:=HL.out;omega
    have hz':0<bs.length:=by have:=HL.out;omega
    clear h1 h2
    go_wp2_with fail
    go_ret
    refine ⟨_,rfl,⟨b1,?_,rfl⟩,HE.out _⟩
    have:ids.findIdx? (fun (i:Nat)=>decide (S.la<(i:Int)))=none:=find_none (fun j i hj hi=>HSO.out j i (by have:=HL.out;omega) hi)
    rw [HP.out,this]
    exact H12.out.2
end Go.Proofs.YtfjjoohflcchnaaDoor
