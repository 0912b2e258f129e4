/- Of the proof of OnceOnce. Part 21 of 35. (Joined, by program, and written short, of: GL12, GFree, GFree2, OnT, OnT2, OnT3.) -/
import Derived.Test.YtaofjdoielmobaaDoorOnceOnce05
import Derived.Test.YtaofjdoielmobaaDoorOnceOnce17
import Derived.Test.YtaofjdoielmobaaDoorOnceOnce18
import Derived.Test.YtaofjdoielmobaaDoorOnceOnce20
import Derived.Deep.OwnRows
import Derived.Deep.RegionWith
import Derived.Deep.RegionHeld3
import Derived.BigQuiet
set_option linter.unusedSimpArgs false
set_option linter.unusedVariables false
set_option maxHeartbeats 4000000
set_option maxRecDepth 100000
namespace Go.Proofs.YtaofjdoielmobaaDoor.Gen
open Go Go.Lift Go.Conc Go.RowKit
theorem Fl.hd {n k:Nat} {c:Bool} {l:List (Nat×Value)} {a:Act} (h:Fl n ((k,.bool c) :: l) a) (hc:c=true):a.eval (.tmp k)=.bool true:=by subst hc;exact h.2.2 (k,.bool true) (.head _)
theorem Fl.hf {n k:Nat} {c:Bool} {l:List (Nat×Value)} {a:Act} (h:Fl n ((k,.bool c) :: l) a) (hc:c=false):a.eval (.tmp k)=.bool false:=by subst hc;exact h.2.2 (k,.bool false) (.head _)
theorem Fl.tl {n:Nat} {x:Nat×Value} {l:List (Nat×Value)} {a:Act} (h:Fl n (x :: l) a):Fl n l a:=⟨h.1,h.2.1,fun p hp=>h.2.2 p (.tail _ hp)⟩
def Nrm (F:Act→World→Prop):Exit→Act→World→Prop
 |.normal,a,w=>F a w
 |_,_,_=>False
theorem wp_nrm {P:Program} {c:Code} {F:Act→World→Prop} {a:Act} {w:World} (h:c.wp P (Nrm F) a w):c.wp P (fun e a' w'=>e=.normal∧F a' w') a w:=wp_mono h fun e a w hq=>by
 cases e
 case normal=>exact ⟨rfl,hq⟩
 all_goals exact hq.elim
structure Kq (B:Nat) (w w':World):Prop where
 os:w'.os=w.os
 out:w'.output=w.output
 size:w.heap.size≤w'.heap.size
 old:∀ k,k<B→w'.heap[k]? = w.heap[k]?
section
variable {B:Nat} {u v w:World}
theorem Kq.refl (B:Nat) (w:World):Kq B w w:=⟨rfl,rfl,Nat.le_refl _,fun _ _=>rfl⟩
theorem Kq.trans (h:Kq B u v) (k:Kq B v w):Kq B u w:=⟨k.os.trans h.os,k.out.trans h.out,Nat.le_trans h.size k.size,fun i hi=>(k.old i hi).trans (h.old i hi)⟩
theorem Kq.same (e1:w.heap=v.heap) (e2:w.os=v.os) (e3:w.output=v.output):Kq B v w:=⟨e2,e3,by rw [e1];exact Nat.le_refl _,fun i _=>by rw [e1]⟩
theorem Kq.alloc (o:Obj) (h:B≤v.heap.size):Kq B v (v.alloc o):=⟨rfl,rfl,by show _≤(v.heap.push o).size;simp,fun i hi=>by show (v.heap.push o)[i]? = _;rw [Array.getElem?_push,if_neg (by omega)]⟩
theorem Kq.set {b o:Nat} (x:Value) (h:B≤b):Kq B v (v.setCell ⟨b,o,none⟩ x):=⟨rfl,rfl,by simp [World.setCell],fun i hi=>Below.heap_setCell _ _ _ _ (by show i≠b;omega)⟩
theorem Kq.cell (k:Kq B u v) {a:Addr} {x:Value} (h:u.cell? a=some x) (hb:a.block<B):v.cell? a=some x:=by rw [World.cell?_of_block (w:=u) (w':=v) (k.old _ hb)];exact h
theorem Kq.grows (k:Kq B u v) (h:u.heap.size≤B):Grows u v:=⟨k.size,fun b hb=>k.old b (by omega),k.os,k.out⟩
theorem Kq.le {B':Nat} (k:Kq B u v) (h:B'≤B):Kq B' u v:=⟨k.os,k.out,k.size,fun i hi=>k.old i (by omega)⟩
end
structure SL (N b o:Nat) (ln cp rb ro:Nat→Nat) (pc:Nat→Option Addr) (cl:Nat→List Cl) (v:World):Prop where
 len:∀ k,k<N→(cl k).length=ln k
 sr:∀ k,k<N→v.cell? ⟨b,o+k,none⟩=some (.slice (pc k) (ln k) (cp k))
 pq:∀ k,k<N→0<ln k→pc k=some ⟨rb k,ro k,none⟩
 sa:∀ k,k<N→∀ (j:Nat) (c:Cl),(cl k)[j]? = some c→v.cell? ⟨rb k,ro k+j*4,none⟩=some (I c.po)∧v.cell? ⟨rb k,ro k+j*4+1,none⟩=some (I c.ca)∧v.cell? ⟨rb k,ro k+j*4+2,none⟩=some (I c.cb)∧v.cell? ⟨rb k,ro k+j*4+3,none⟩=some (I c.cc)
structure AL (N M:Nat) (A ln:Nat→Nat) (l:Nat→Ph) (v:World):Prop where
 ar:∀ k,k<N→v.cell? ⟨M,k,none⟩=some (.slice (some ⟨A k,0,none⟩) (ln k) (ln k))
 al:∀ k,k<N→(l k).ans.length=ln k
 an:∀ k,k<N→∀ (j:Nat) (q:Int×Int),(l k).ans[j]? = some q→v.cell? ⟨A k,j*2,none⟩=some (I q.1)∧v.cell? ⟨A k,j*2+1,none⟩=some (I q.2)
theorem kq_all {v u:World} (k:Kq v.heap.size v u) (a:Addr) (x:Value) (h:v.cell? a=some x):u.cell? a=some x:=k.cell h (World.block_lt_of_cell? _ _ h)
theorem SL.go {N b o:Nat} {ln cp rb ro:Nat→Nat} {pc:Nat→Option Addr} {cl:Nat→List Cl} {v u:World} (h:SL N b o ln cp rb ro pc cl v) (k:Kq v.heap.size v u):SL N b o ln cp rb ro pc cl u:=by
 have hc:=kq_all k
 exact ⟨h.len,fun i hi=>hc _ _ (h.sr i hi),h.pq,fun i hi j c hj=>⟨hc _ _ (h.sa i hi j c hj).1,hc _ _ (h.sa i hi j c hj).2.1,hc _ _ (h.sa i hi j c hj).2.2.1,hc _ _ (h.sa i hi j c hj).2.2.2⟩⟩
theorem AL.go {N M:Nat} {A ln:Nat→Nat} {l:Nat→Ph} {v u:World} (h:AL N M A ln l v) (k:Kq v.heap.size v u):AL N M A ln l u:=by
 have hc:=kq_all k
 exact ⟨fun i hi=>hc _ _ (h.ar i hi),h.al,fun i hi j q hj=>⟨hc _ _ (h.an i hi j q hj).1,hc _ _ (h.an i hi j q hj).2⟩⟩
theorem body10s {z:Nat→Option Nat} {S:TS} {v:World} (h:Rep z S v):Body Tryd.f10 #[Pt S.wb 0] v (fun r v'=>r=.bool S.stk∧v'=v):=by
 intro code hb
 obtain rfl:=Option.some.inj hb
 clear hb
 have c6:=h.wcell.2.2.2.2.2.2.1
 clear h
 simp only [Tryd.ntmps10,List.size_toArray,List.length_cons,List.length_nil,Nat.reduceAdd,Nat.reduceSub,Array.replicate_succ,Array.replicate_zero,List.push_toArray,List.append_toArray,List.nil_append,List.cons_append]
 go_wp2_with fail
 go_ret
 exact ⟨_,rfl,rfl,rfl⟩
theorem info4b:(Tryd.prog.info? 4).map (fun i=>(i.zero,i.size,i.bytes))=some (some (.bool false),1,1):=by kernel_rfl
theorem info3b:(Tryd.prog.info? 3).map (fun i=>(i.zero,i.size,i.bytes))=some (some (I 0),1,8):=by kernel_rfl
theorem make_4 (n:Nat) (hn:n≤1048576) (w:World) :
 (Instr.makeSlice 32 (.int .i64 (n:Int)) (.int .i64 (n:Int))).run Tryd.prog w=.ok (.slice (some ⟨w.heap.size,0,none⟩) n n) (w.alloc (.cells (madeCells #[.bool false] n) 4)):=by
 cases hq:Tryd.prog.info? 4 with
 |none=>have:=info4b;rw [hq] at this;cases this
 |some i =>
  have hi:=info4b
  rw [hq] at hi
  simp only [Option.map_some,Option.some.injEq,Prod.mk.injEq] at hi
  obtain ⟨hz,hs,hb⟩:=hi
  have:=run_make (P:=Tryd.prog) w 32 4 i _ Tryd.underlying32 hq hz .i64 .i64 (n:Int) (n:Int) (by omega) (by omega) (by rw [hb];omega) (by omega)
  rw [hs] at this
  rw [this]
  simp [Value.cells]
theorem make_3 (n:Nat) (hn:n≤1048576) (w:World) :
 (Instr.makeSlice 22 (.int .i64 (n:Int)) (.int .i64 (n:Int))).run Tryd.prog w=.ok (.slice (some ⟨w.heap.size,0,none⟩) n n) (w.alloc (.cells (madeCells #[I 0] n) 3)):=by
 cases hq:Tryd.prog.info? 3 with
 |none=>have:=info3b;rw [hq] at this;cases this
 |some i =>
  have hi:=info3b
  rw [hq] at hi
  simp only [Option.map_some,Option.some.injEq,Prod.mk.injEq] at hi
  obtain ⟨hz,hs,hb⟩:=hi
  have:=run_make (P:=Tryd.prog) w 22 3 i _ Tryd.underlying22 hq hz .i64 .i64 (n:Int) (n:Int) (by omega) (by omega) (by rw [hb];omega) (by omega)
  rw [hs] at this
  rw [this]
  simp [Value.cells]
theorem info38b:(Tryd.prog.info? 38).map (fun i=>(i.zero,i.size,i.bytes))=some (some (.agg #[I 0,I 0]),2,16):=by kernel_rfl
theorem make_38 (n:Nat) (hn:n≤1048576) (w:World) :
 (Instr.makeSlice 31 (.int .i64 (n:Int)) (.int .i64 (n:Int))).run Tryd.prog w=.ok (.slice (some ⟨w.heap.size,0,none⟩) n n) (w.alloc (.cells (madeCells #[I 0,I 0] (n*2)) 38)):=by
 cases hq:Tryd.prog.info? 38 with
 |none=>have:=info38b;rw [hq] at this;cases this
 |some i =>
  have hi:=info38b
  rw [hq] at hi
  simp only [Option.map_some,Option.some.injEq,Prod.mk.injEq] at hi
  obtain ⟨hz,hs,hb⟩:=hi
  have:=run_make (P:=Tryd.prog) w 31 38 i _ Tryd.underlying31 hq hz .i64 .i64 (n:Int) (n:Int) (by omega) (by omega) (by rw [hb];omega) (by omega)
  rw [hs] at this
  rw [this]
  simp [Value.cells]
structure Fm (tb cb:Nat) (x:Int) (v:World):Prop where
 thr:v.cell? ⟨tb,0,none⟩=some (.pointer none)
 ne:tb≠cb
 cel:v.heap[cb]? = some (.cells #[I 0,I x] 149 (0,0))
structure Fto (tb cb:Nat) (x:Int) (v v':World):Prop where
 fm:Fm tb cb x v'
 old:∀ b,b≠cb→v'.heap[b]? = v.heap[b]?
 size:v'.heap.size=v.heap.size
 os:v'.os=v.os
 out:v'.output=v.output
section
variable {tb cb:Nat} {x y:Int} {v v' v'':World}
theorem Fm.cells (h:Fm tb cb x v):v.cell? ⟨tb,0,none⟩=some (.pointer none)∧v.cell? ⟨cb,0,none⟩=some (I 0)∧v.cell? ⟨cb,1,none⟩=some (I x)∧v.frozen? ⟨cb,1,none⟩=false:=by
 refine ⟨h.thr,?_,?_,?_⟩
 ·unfold World.cell?;rw [show v.heap[cb]? = _ from h.cel];rfl
 ·unfold World.cell?;rw [show v.heap[cb]? = _ from h.cel];rfl
 ·unfold World.frozen?;rw [show v.heap[cb]? = _ from h.cel];rfl
theorem Fm.same (h:Fm tb cb x v) (e:v'.heap=v.heap):Fm tb cb x v':=⟨by rw [World.cell?_of_block (w:=v) (by rw [e])];exact h.thr,h.ne,by rw [e];exact h.cel⟩
theorem Fto.refl (h:Fm tb cb x v):Fto tb cb x v v:=⟨h,fun _ _=>rfl,rfl,rfl,rfl⟩
theorem Fto.same (h:Fto tb cb x v v') (e1:v''.heap=v'.heap) (e2:v''.os=v'.os) (e3:v''.output=v'.output):Fto tb cb x v v'' :=
 ⟨h.fm.same e1,fun b hb=>by rw [e1];exact h.old b hb,by rw [e1];exact h.size,e2.trans h.os,e3.trans h.out⟩
theorem Fto.set (h:Fm tb cb x v) (y:Int):Fto tb cb y v (v.setCell ⟨cb,1,none⟩ (I y)) :=
 ⟨⟨by rw [World.cell?_of_block (Below.heap_setCell _ _ _ _ h.ne)];exact h.thr,h.ne,heap_setCell_same h.cel _⟩,fun b hb=>Below.heap_setCell _ _ _ _ hb,by simp [World.setCell],rfl,rfl⟩
theorem Fto.base (h:Fto tb cb x v v') (e1:v.heap=v''.heap) (e2:v.os=v''.os) (e3:v.output=v''.output):Fto tb cb x v'' v' :=
 ⟨h.fm,fun b hb=>by rw [←e1];exact h.old b hb,by rw [←e1];exact h.size,h.os.trans e2,h.out.trans e3⟩
end
section
variable {tb c c':Nat} {x y:Int} {v v' v'':World}
theorem Fto.stay (h:Fto tb c x v v') (m:Fm tb c x v):v'.heap=v.heap:=by
 apply Array.ext_getElem?
 intro b
 by_cases e:b=c
 ·rw [e,h.fm.cel,m.cel]
 ·exact h.old b e
theorem Fto.other (h:Fto tb c x v v') (m:Fm tb c' y v) (hne:c'≠c):Fm tb c' y v':=⟨h.fm.thr,m.ne,by rw [h.old c' hne];exact m.cel⟩
theorem Fto.cell (h:Fto tb c x v v') {b j:Nat} {u:Value} (hb:b≠c) (hc:v.cell? ⟨b,j,none⟩=some u):v'.cell? ⟨b,j,none⟩=some u:=by
 rw [World.cell?_of_block (w:=v) (w':=v') (h.old b hb)];exact hc
theorem Fto.then (h:Fto tb c x v v') (k:Fto tb c' y v' v'') (m:Fm tb c' y v'):Fto tb c x v v'':=h.same (k.stay m) k.os k.out
end
noncomputable def tB:Code:=Tryd.f32.body.getD .skip
theorem fine_t0:fineCode Tryd.prog true LT (seq1 tB):=fineCode_ask callT extT (by kernel_rfl)
theorem eTB:tB=.seq (seq1 tB) (seq2 tB):=by kernel_rfl
theorem come0 {z:Nat→Option Nat} {Ch:Nat→Prop} {Stop:Goroutine→World→Prop} {main:Bool} {v w:World} {ob tb:Nat} {kd b:Int} (hkd:kd=0) (cs:List Frame) {bc:Frame} {ac:Act} {ops:Array Oper} {q:Nat} {rest:List Nat} {oc:Oper} {k0:List Item} (hoc:ops[q]? = some oc) (hvw:Rel z v w) (hn:NoRow Ch v)
 (hk:∀ v' w',Rel z v' w'→NoRow Ch v'→Grows v v'→GoesI Tryd.prog main (DT (ScZ z) Ch) Stop (G (bc.at (ac.put oc.dst (.agg #[I (0),I (b)])) (.inRegion ops rest :: k0)) cs) w') (code:Code) (hc:Tryd.f32.body=some code) :
 GoesI Tryd.prog main (DT (ScZ z) Ch) Stop (G ((base 32).at { tmps:=#[Pt ob 0,Pt tb 0,.agg #[I kd,I b]]++Array.replicate 31 undef,defers:=[] } [.code code]) (bc.at ac (.inRegion ops (q :: rest) :: k0) :: cs)) w:=by
 have hw0:code=.seq (seq1 tB) (seq2 tB):=by
  rw [show code=tB by unfold tB;rw [hc];rfl];exact eTB
 subst hw0
 clear hc
 refine goesI_seq (dt_idle _ _) ?_
 refine goesI_plain (z:=z) (wr:=true) (L:=LT) (I:=NoRow Ch) hE fineT noRow_keeps (fun v v' w w' es hi hr ho he=>dt_of_z v v' w w' es hi hr ho he) hvw fine_t0 rfl (by simp [base]) hn
  (Q:=fun a w'=>a={ tmps:=#[Pt ob 0,Pt tb 0,.agg #[I kd,I b],undef,undef,Pt v.heap.size 0,Pt (v.heap.size+1) 0]++Array.replicate 27 undef,defers:=[] }∧w'.heap=((v.heap.push (.cells #[I kd,I b] 52)).push (.cells #[I 0,I 0] 38))∧w'.os=v.os∧w'.output=v.output) (fun τ=>?_) ?_
 ·unfold tB Tryd.f32 seq1
  simp only [Option.getD_some,Array.replicate_succ,Array.replicate_zero,List.push_toArray,List.append_toArray,List.nil_append,List.cons_append]
  go_wp2_with fail
  exact ⟨rfl,rfl,rfl,rfl⟩
 rintro a' v' w' ⟨rfl,hv1,hv2,hv3⟩ hr' hn' -
 have hsz:v'.heap.size=v.heap.size+2:=by rw [hv1];simp
 have hg:Grows v v':=⟨by omega,fun b hb=>by rw [hv1,Array.getElem?_push,if_neg (by simp;omega),Array.getElem?_push,if_neg (by omega)],hv2,hv3⟩
 have hb0:v'.heap[v.heap.size]? = some (.cells #[I kd,I b] 52 (0,0)):=by rw [hv1,Array.getElem?_push,if_neg (by simp<;>omega),Array.getElem?_push,if_pos (by simp)]
 have hb1:v'.heap[v.heap.size+1]? = some (.cells #[I 0,I 0] 38 (0,0)):=by rw [hv1,Array.getElem?_push,if_pos (by simp)]
 have d0:w'.cell? ⟨v.heap.size,0,none⟩=some (I kd):=by rw [hr'.cell?];simp [World.cell?,hb0]
 have d1:w'.cell? ⟨v.heap.size,1,none⟩=some (I b):=by rw [hr'.cell?];simp [World.cell?,hb0]
 clear hv1 hv2 hv3 hvw hn
 subst hkd
 have hgr:∀ e x,Grows v (ansW v' (v.heap.size+1) e x):=fun e x=>⟨by rw [ans_size];omega,fun b hb=>by rw [ans_far _ _ _ _ _ (by omega)];exact hg.old b hb,hg.os,hg.output⟩
 have hk:=fun e x w' r' n'=>hk (ansW v' (v.heap.size+1) e x) w' r' n' (hgr e x)
 clear hgr hg hsz hb0
 have hpb:=hb1
 clear hb1
 generalize v.heap.size=N at hpb d0 d1 hk ⊢
 unfold tB Tryd.f32 seq2
 simp only [Option.getD_some,Array.replicate_succ,Array.replicate_zero,List.push_toArray,List.append_toArray,List.nil_append,List.cons_append]
 refine goesI_seq (dt_idle _ _) ?_
 refine goesI_region (dt_idle _ _) ?_
 simp only [List.size_toArray,List.length_cons,List.length_nil,Nat.reduceAdd,Nat.zero_add,List.range,List.range.loop]
 iterate 1
  (refine goesI_oper rfl rfl (by decide) (fun d K hK=>?_)
   go_simp
   refine hK _ _ ⟨dt_reads (fun e he=>?_),GoesI.at ?_ d⟩
   ·have hm:=mem_listed he
    simp [go_sem, *] at hm
    try exact ⟨_,_,hm⟩
    try (rcases hm with rfl|rfl<;>exact ⟨_,_,rfl⟩)
   clear hK K)
 refine goesI_deferV (d:=dclo 52 #[Pt N 0,Pt (N+1) 0]) (dt_idle _ _) rfl rfl (by decide) (fun w=>?_) (fun w=>?_) ?_
 ·simp [execOp,resolve,Deferred.ofValue,Act.eval,dclo,go_sem]
 ·simp [go_sem,execOp,resolve,Deferred.ofValue,Act.eval]
 refine goesI_regionEnd (dt_idle _ _) ?_
 refine goesI_seq (dt_idle _ _) ?_
 refine goesI_seq (dt_idle _ _) ?_
 refine goesI_region (dt_idle _ _) ?_
 simp only [List.size_toArray,List.length_cons,List.length_nil,Nat.reduceAdd,Nat.zero_add,List.range,List.range.loop]
 iterate 2
  (refine goesI_oper rfl rfl (by decide) (fun d K hK=>?_)
   go_simp
   refine hK _ _ ⟨dt_reads (fun e he=>?_),GoesI.at ?_ d⟩
   ·have hm:=mem_listed he
    simp [go_sem, *] at hm
    try exact ⟨_,_,hm⟩
    try (rcases hm with rfl|rfl<;>exact ⟨_,_,rfl⟩)
   clear hK K)
 refine goesI_regionEnd (dt_idle _ _) ?_
 refine goesI_block (dt_idle _ _) ?_
 refine goesI_seq (dt_idle _ _) ?_
 refine goesI_region (dt_idle _ _) ?_
 simp only [List.size_toArray,List.length_cons,List.length_nil,Nat.reduceAdd,Nat.zero_add,List.range,List.range.loop]
 iterate 2
  (refine goesI_oper rfl rfl (by decide) (fun d K hK=>?_)
   go_simp
   refine hK _ _ ⟨dt_reads (fun e he=>?_),GoesI.at ?_ d⟩
   ·have hm:=mem_listed he
    simp [go_sem, *] at hm
    try exact ⟨_,_,hm⟩
    try (rcases hm with rfl|rfl<;>exact ⟨_,_,rfl⟩)
   clear hK K)
 refine goesI_regionEnd (dt_idle _ _) ?_
 refine goesI_cond (dt_idle _ _) (t:=true) (by simp [Act.eval]) ?_
 simp only [if_true,if_false,Bool.false_eq_true]
 refine goesI_seq (dt_idle _ _) ?_
 refine goesI_region (dt_idle _ _) ?_
 simp only [List.size_toArray,List.length_cons,List.length_nil,Nat.reduceAdd,Nat.zero_add,List.range,List.range.loop]
 iterate 3
  (refine goesI_oper rfl rfl (by decide) (fun d K hK=>?_)
   go_simp
   refine hK _ _ ⟨dt_reads (fun e he=>?_),GoesI.at ?_ d⟩
   ·have hm:=mem_listed he
    simp [go_sem, *] at hm
    try exact ⟨_,_,hm⟩
    try (rcases hm with rfl|rfl<;>exact ⟨_,_,rfl⟩)
   clear hK K)
 have q0:v'.cell? ⟨N+1,0,none⟩=some (I 0):=by simp [World.cell?,hpb]
 have q1:v'.cell? ⟨N+1,1,none⟩=some (I 0):=by simp [World.cell?,hpb]
 have p0:v'.frozen? ⟨N+1,0,none⟩=false:=by simp [World.frozen?,hpb]
 have p1:v'.frozen? ⟨N+1,1,none⟩=false:=by simp [World.frozen?,hpb]
 have hrow:=ans_row hpb (0) (b)
 refine goesI_doZ (L:=LT) rfl rfl (by decide) (fineOp_ask callT extT (by kernel_rfl)) hr' hn' (v':=ansW v' (N+1) (0) (b)) (by unfold ansW;go_simp) rfl (fun w9 r9 n9=>?_)
 refine goesI_regionEnd (dt_idle _ _) ?_
 refine GoesI.ctl rfl (fun _=>stepG_ret') (dt_idle _ _) ?_
 refine goesI_unwind_clo (dt_idle _ _) rfl Tryd.func52 (by kernel_rfl) rfl ?_
 simp only [Tryd.ntmps52,List.size_toArray,List.length_cons,List.length_nil,Nat.reduceAdd,Nat.reduceSub,Array.replicate_succ,Array.replicate_zero,List.push_toArray,List.append_toArray,List.nil_append,List.cons_append]
 refine goesI_seq (dt_idle _ _) ?_
 refine goesI_region (dt_idle _ _) ?_
 simp only [List.size_toArray,List.length_cons,List.length_nil,Nat.reduceAdd,Nat.zero_add,List.range,List.range.loop]
 refine goesI_recover_none (dt_idle _ _) rfl rfl rfl rfl (fun w=>by go_simp) (fun w=>by simp [go_sem,execOp,resolve,invoke,builtin]) ?_
 (refine goesI_oper rfl rfl (by decide) (fun d K hK=>?_)
  go_simp
  refine hK _ _ ⟨dt_reads (fun e he=>?_),GoesI.at ?_ d⟩
  ·have hm:=mem_listed he
   simp [go_sem,ev_nil, *] at hm
  clear hK K)
 refine goesI_regionEnd (dt_idle _ _) ?_
 refine goesI_cond (dt_idle _ _) (t:=false) rfl ?_
 simp only [if_true,if_false,Bool.false_eq_true]
 refine goesI_skip (dt_idle _ _) ?_
 refine goesI_end (dt_idle _ _) ?_
 refine GoesI.ctl rfl (fun w=>stepG_backR Tryd.func52 rfl rfl) (dt_idle _ _) ?_
 refine goesI_leaveZ (f:=32) (fn:=Tryd.f32) (x:=.agg #[I (0),I (b)]) r9 n9 Tryd.func32 rfl hoc ?_ (fun w' r'=>hk (0) (b) w' r' n9)
 generalize ansW v' (N+1) (0) (b)=V at hrow
 have k0:V.cell? ⟨N+1,0,none⟩=some (I (0)):=by simp [World.cell?,hrow]
 have k1:V.cell? ⟨N+1,1,none⟩=some (I (b)):=by simp [World.cell?,hrow]
 simp [results,go_sem,Tryd.f32, *]
theorem come1 {z:Nat→Option Nat} {Ch:Nat→Prop} {Stop:Goroutine→World→Prop} {main:Bool} {v w:World} {ob tb:Nat} {kd b:Int} (hkd:kd=1) (cs:List Frame) {bc:Frame} {ac:Act} {ops:Array Oper} {q:Nat} {rest:List Nat} {oc:Oper} {k0:List Item} (hoc:ops[q]? = some oc) (hvw:Rel z v w) (hn:NoRow Ch v)
 (hk:∀ v' w',Rel z v' w'→NoRow Ch v'→Grows v v'→GoesI Tryd.prog main (DT (ScZ z) Ch) Stop (G (bc.at (ac.put oc.dst (.agg #[I (70),I (b)])) (.inRegion ops rest :: k0)) cs) w') (code:Code) (hc:Tryd.f32.body=some code) :
 GoesI Tryd.prog main (DT (ScZ z) Ch) Stop (G ((base 32).at { tmps:=#[Pt ob 0,Pt tb 0,.agg #[I kd,I b]]++Array.replicate 31 undef,defers:=[] } [.code code]) (bc.at ac (.inRegion ops (q :: rest) :: k0) :: cs)) w:=by
 have hw0:code=.seq (seq1 tB) (seq2 tB):=by
  rw [show code=tB by unfold tB;rw [hc];rfl];exact eTB
 subst hw0
 clear hc
 refine goesI_seq (dt_idle _ _) ?_
 refine goesI_plain (z:=z) (wr:=true) (L:=LT) (I:=NoRow Ch) hE fineT noRow_keeps (fun v v' w w' es hi hr ho he=>dt_of_z v v' w w' es hi hr ho he) hvw fine_t0 rfl (by simp [base]) hn
  (Q:=fun a w'=>a={ tmps:=#[Pt ob 0,Pt tb 0,.agg #[I kd,I b],undef,undef,Pt v.heap.size 0,Pt (v.heap.size+1) 0]++Array.replicate 27 undef,defers:=[] }∧w'.heap=((v.heap.push (.cells #[I kd,I b] 52)).push (.cells #[I 0,I 0] 38))∧w'.os=v.os∧w'.output=v.output) (fun τ=>?_) ?_
 ·unfold tB Tryd.f32 seq1
  simp only [Option.getD_some,Array.replicate_succ,Array.replicate_zero,List.push_toArray,List.append_toArray,List.nil_append,List.cons_append]
  go_wp2_with fail
  exact ⟨rfl,rfl,rfl,rfl⟩
 rintro a' v' w' ⟨rfl,hv1,hv2,hv3⟩ hr' hn' -
 have hsz:v'.heap.size=v.heap.size+2:=by rw [hv1];simp
 have hg:Grows v v':=⟨by omega,fun b hb=>by rw [hv1,Array.getElem?_push,if_neg (by simp;omega),Array.getElem?_push,if_neg (by omega)],hv2,hv3⟩
 have hb0:v'.heap[v.heap.size]? = some (.cells #[I kd,I b] 52 (0,0)):=by rw [hv1,Array.getElem?_push,if_neg (by simp<;>omega),Array.getElem?_push,if_pos (by simp)]
 have hb1:v'.heap[v.heap.size+1]? = some (.cells #[I 0,I 0] 38 (0,0)):=by rw [hv1,Array.getElem?_push,if_pos (by simp)]
 have d0:w'.cell? ⟨v.heap.size,0,none⟩=some (I kd):=by rw [hr'.cell?];simp [World.cell?,hb0]
 have d1:w'.cell? ⟨v.heap.size,1,none⟩=some (I b):=by rw [hr'.cell?];simp [World.cell?,hb0]
 clear hv1 hv2 hv3 hvw hn
 subst hkd
 have hgr:∀ e x,Grows v (ansW v' (v.heap.size+1) e x):=fun e x=>⟨by rw [ans_size];omega,fun b hb=>by rw [ans_far _ _ _ _ _ (by omega)];exact hg.old b hb,hg.os,hg.output⟩
 have hk:=fun e x w' r' n'=>hk (ansW v' (v.heap.size+1) e x) w' r' n' (hgr e x)
 clear hgr hg hsz hb0
 have hpb:=hb1
 clear hb1
 generalize v.heap.size=N at hpb d0 d1 hk ⊢
 unfold tB Tryd.f32 seq2
 simp only [Option.getD_some,Array.replicate_succ,Array.replicate_zero,List.push_toArray,List.append_toArray,List.nil_append,List.cons_append]
 refine goesI_seq (dt_idle _ _) ?_
 refine goesI_region (dt_idle _ _) ?_
 simp only [List.size_toArray,List.length_cons,List.length_nil,Nat.reduceAdd,Nat.zero_add,List.range,List.range.loop]
 iterate 1
  (refine goesI_oper rfl rfl (by decide) (fun d K hK=>?_)
   go_simp
   refine hK _ _ ⟨dt_reads (fun e he=>?_),GoesI.at ?_ d⟩
   ·have hm:=mem_listed he
    simp [go_sem, *] at hm
    try exact ⟨_,_,hm⟩
    try (rcases hm with rfl|rfl<;>exact ⟨_,_,rfl⟩)
   clear hK K)
 refine goesI_deferV (d:=dclo 52 #[Pt N 0,Pt (N+1) 0]) (dt_idle _ _) rfl rfl (by decide) (fun w=>?_) (fun w=>?_) ?_
 ·simp [execOp,resolve,Deferred.ofValue,Act.eval,dclo,go_sem]
 ·simp [go_sem,execOp,resolve,Deferred.ofValue,Act.eval]
 refine goesI_regionEnd (dt_idle _ _) ?_
 refine goesI_seq (dt_idle _ _) ?_
 refine goesI_seq (dt_idle _ _) ?_
 refine goesI_region (dt_idle _ _) ?_
 simp only [List.size_toArray,List.length_cons,List.length_nil,Nat.reduceAdd,Nat.zero_add,List.range,List.range.loop]
 iterate 2
  (refine goesI_oper rfl rfl (by decide) (fun d K hK=>?_)
   go_simp
   refine hK _ _ ⟨dt_reads (fun e he=>?_),GoesI.at ?_ d⟩
   ·have hm:=mem_listed he
    simp [go_sem, *] at hm
    try exact ⟨_,_,hm⟩
    try (rcases hm with rfl|rfl<;>exact ⟨_,_,rfl⟩)
   clear hK K)
 refine goesI_regionEnd (dt_idle _ _) ?_
 refine goesI_block (dt_idle _ _) ?_
 refine goesI_seq (dt_idle _ _) ?_
 refine goesI_region (dt_idle _ _) ?_
 simp only [List.size_toArray,List.length_cons,List.length_nil,Nat.reduceAdd,Nat.zero_add,List.range,List.range.loop]
 iterate 2
  (refine goesI_oper rfl rfl (by decide) (fun d K hK=>?_)
   go_simp
   refine hK _ _ ⟨dt_reads (fun e he=>?_),GoesI.at ?_ d⟩
   ·have hm:=mem_listed he
    simp [go_sem, *] at hm
    try exact ⟨_,_,hm⟩
    try (rcases hm with rfl|rfl<;>exact ⟨_,_,rfl⟩)
   clear hK K)
 refine goesI_regionEnd (dt_idle _ _) ?_
 refine goesI_cond (dt_idle _ _) (t:=false) (by simp [Act.eval]) ?_
 simp only [if_true,if_false,Bool.false_eq_true]
 refine goesI_seq (dt_idle _ _) ?_
 refine goesI_region (dt_idle _ _) ?_
 simp only [List.size_toArray,List.length_cons,List.length_nil,Nat.reduceAdd,Nat.zero_add,List.range,List.range.loop]
 iterate 2
  (refine goesI_oper rfl rfl (by decide) (fun d K hK=>?_)
   go_simp
   refine hK _ _ ⟨dt_reads (fun e he=>?_),GoesI.at ?_ d⟩
   ·have hm:=mem_listed he
    simp [go_sem, *] at hm
    try exact ⟨_,_,hm⟩
    try (rcases hm with rfl|rfl<;>exact ⟨_,_,rfl⟩)
   clear hK K)
 refine goesI_regionEnd (dt_idle _ _) ?_
 refine goesI_cond (dt_idle _ _) (t:=true) (by simp [Act.eval]) ?_
 simp only [if_true,if_false,Bool.false_eq_true]
 refine goesI_seq (dt_idle _ _) ?_
 refine goesI_region (dt_idle _ _) ?_
 simp only [List.size_toArray,List.length_cons,List.length_nil,Nat.reduceAdd,Nat.zero_add,List.range,List.range.loop]
 iterate 3
  (refine goesI_oper rfl rfl (by decide) (fun d K hK=>?_)
   go_simp
   refine hK _ _ ⟨dt_reads (fun e he=>?_),GoesI.at ?_ d⟩
   ·have hm:=mem_listed he
    simp [go_sem, *] at hm
    try exact ⟨_,_,hm⟩
    try (rcases hm with rfl|rfl<;>exact ⟨_,_,rfl⟩)
   clear hK K)
 have q0:v'.cell? ⟨N+1,0,none⟩=some (I 0):=by simp [World.cell?,hpb]
 have q1:v'.cell? ⟨N+1,1,none⟩=some (I 0):=by simp [World.cell?,hpb]
 have p0:v'.frozen? ⟨N+1,0,none⟩=false:=by simp [World.frozen?,hpb]
 have p1:v'.frozen? ⟨N+1,1,none⟩=false:=by simp [World.frozen?,hpb]
 have hrow:=ans_row hpb (70) (b)
 refine goesI_doZ (L:=LT) rfl rfl (by decide) (fineOp_ask callT extT (by kernel_rfl)) hr' hn' (v':=ansW v' (N+1) (70) (b)) (by unfold ansW;go_simp) rfl (fun w9 r9 n9=>?_)
 refine goesI_regionEnd (dt_idle _ _) ?_
 refine GoesI.ctl rfl (fun _=>stepG_ret') (dt_idle _ _) ?_
 refine goesI_unwind_clo (dt_idle _ _) rfl Tryd.func52 (by kernel_rfl) rfl ?_
 simp only [Tryd.ntmps52,List.size_toArray,List.length_cons,List.length_nil,Nat.reduceAdd,Nat.reduceSub,Array.replicate_succ,Array.replicate_zero,List.push_toArray,List.append_toArray,List.nil_append,List.cons_append]
 refine goesI_seq (dt_idle _ _) ?_
 refine goesI_region (dt_idle _ _) ?_
 simp only [List.size_toArray,List.length_cons,List.length_nil,Nat.reduceAdd,Nat.zero_add,List.range,List.range.loop]
 refine goesI_recover_none (dt_idle _ _) rfl rfl rfl rfl (fun w=>by go_simp) (fun w=>by simp [go_sem,execOp,resolve,invoke,builtin]) ?_
 (refine goesI_oper rfl rfl (by decide) (fun d K hK=>?_)
  go_simp
  refine hK _ _ ⟨dt_reads (fun e he=>?_),GoesI.at ?_ d⟩
  ·have hm:=mem_listed he
   simp [go_sem,ev_nil, *] at hm
  clear hK K)
 refine goesI_regionEnd (dt_idle _ _) ?_
 refine goesI_cond (dt_idle _ _) (t:=false) rfl ?_
 simp only [if_true,if_false,Bool.false_eq_true]
 refine goesI_skip (dt_idle _ _) ?_
 refine goesI_end (dt_idle _ _) ?_
 refine GoesI.ctl rfl (fun w=>stepG_backR Tryd.func52 rfl rfl) (dt_idle _ _) ?_
 refine goesI_leaveZ (f:=32) (fn:=Tryd.f32) (x:=.agg #[I (70),I (b)]) r9 n9 Tryd.func32 rfl hoc ?_ (fun w' r'=>hk (70) (b) w' r' n9)
 generalize ansW v' (N+1) (70) (b)=V at hrow
 have k0:V.cell? ⟨N+1,0,none⟩=some (I (70)):=by simp [World.cell?,hrow]
 have k1:V.cell? ⟨N+1,1,none⟩=some (I (b)):=by simp [World.cell?,hrow]
 simp [results,go_sem,Tryd.f32, *]
theorem ev_iface (ty:TypeId) (x:Int) (w:World):(binOp .neq 20 (.iface ty (I x)) .nilIface).events Tryd.prog w #[]=#[]:=by
 show Sem.events Tryd.prog (do pure (Value.bool (!(←Op.equalIn (9999+1) 20 (.iface ty (I x)) .nilIface)))) w #[]=#[]
 unfold Op.equalIn
 simp [go_sem]
theorem come2 {z:Nat→Option Nat} {Ch:Nat→Prop} {Stop:Goroutine→World→Prop} {main:Bool} {v w:World} {ob tb:Nat} {kd b:Int} (hkd:kd=2) (cs:List Frame) {bc:Frame} {ac:Act} {ops:Array Oper} {q:Nat} {rest:List Nat} {oc:Oper} {k0:List Item} (hoc:ops[q]? = some oc) (hvw:Rel z v w) (hn:NoRow Ch v)
 (hk:∀ v' w',Rel z v' w'→NoRow Ch v'→Grows v v'→GoesI Tryd.prog main (DT (ScZ z) Ch) Stop (G (bc.at (ac.put oc.dst (.agg #[I (71),I (b)])) (.inRegion ops rest :: k0)) cs) w') (code:Code) (hc:Tryd.f32.body=some code) :
 GoesI Tryd.prog main (DT (ScZ z) Ch) Stop (G ((base 32).at { tmps:=#[Pt ob 0,Pt tb 0,.agg #[I kd,I b]]++Array.replicate 31 undef,defers:=[] } [.code code]) (bc.at ac (.inRegion ops (q :: rest) :: k0) :: cs)) w:=by
 have hw0:code=.seq (seq1 tB) (seq2 tB):=by
  rw [show code=tB by unfold tB;rw [hc];rfl];exact eTB
 subst hw0
 clear hc
 refine goesI_seq (dt_idle _ _) ?_
 refine goesI_plain (z:=z) (wr:=true) (L:=LT) (I:=NoRow Ch) hE fineT noRow_keeps (fun v v' w w' es hi hr ho he=>dt_of_z v v' w w' es hi hr ho he) hvw fine_t0 rfl (by simp [base]) hn
  (Q:=fun a w'=>a={ tmps:=#[Pt ob 0,Pt tb 0,.agg #[I kd,I b],undef,undef,Pt v.heap.size 0,Pt (v.heap.size+1) 0]++Array.replicate 27 undef,defers:=[] }∧w'.heap=((v.heap.push (.cells #[I kd,I b] 52)).push (.cells #[I 0,I 0] 38))∧w'.os=v.os∧w'.output=v.output) (fun τ=>?_) ?_
 ·unfold tB Tryd.f32 seq1
  simp only [Option.getD_some,Array.replicate_succ,Array.replicate_zero,List.push_toArray,List.append_toArray,List.nil_append,List.cons_append]
  go_wp2_with fail
  exact ⟨rfl,rfl,rfl,rfl⟩
 rintro a' v' w' ⟨rfl,hv1,hv2,hv3⟩ hr' hn' -
 have hsz:v'.heap.size=v.heap.size+2:=by rw [hv1];simp
 have hg:Grows v v':=⟨by omega,fun b hb=>by rw [hv1,Array.getElem?_push,if_neg (by simp;omega),Array.getElem?_push,if_neg (by omega)],hv2,hv3⟩
 have hb0:v'.heap[v.heap.size]? = some (.cells #[I kd,I b] 52 (0,0)):=by rw [hv1,Array.getElem?_push,if_neg (by simp<;>omega),Array.getElem?_push,if_pos (by simp)]
 have hb1:v'.heap[v.heap.size+1]? = some (.cells #[I 0,I 0] 38 (0,0)):=by rw [hv1,Array.getElem?_push,if_pos (by simp)]
 have d0:w'.cell? ⟨v.heap.size,0,none⟩=some (I kd):=by rw [hr'.cell?];simp [World.cell?,hb0]
 have d1:w'.cell? ⟨v.heap.size,1,none⟩=some (I b):=by rw [hr'.cell?];simp [World.cell?,hb0]
 clear hv1 hv2 hv3 hvw hn
 subst hkd
 have hgr:∀ e x,Grows v (ansW v' (v.heap.size+1) e x):=fun e x=>⟨by rw [ans_size];omega,fun b hb=>by rw [ans_far _ _ _ _ _ (by omega)];exact hg.old b hb,hg.os,hg.output⟩
 have hk:=fun e x w' r' n'=>hk (ansW v' (v.heap.size+1) e x) w' r' n' (hgr e x)
 clear hgr hg hsz hb0
 have hpb:=hb1
 clear hb1
 generalize v.heap.size=N at hpb d0 d1 hk ⊢
 unfold tB Tryd.f32 seq2
 simp only [Option.getD_some,Array.replicate_succ,Array.replicate_zero,List.push_toArray,List.append_toArray,List.nil_append,List.cons_append]
 refine goesI_seq (dt_idle _ _) ?_
 refine goesI_region (dt_idle _ _) ?_
 simp only [List.size_toArray,List.length_cons,List.length_nil,Nat.reduceAdd,Nat.zero_add,List.range,List.range.loop]
 iterate 1
  (refine goesI_oper rfl rfl (by decide) (fun d K hK=>?_)
   go_simp
   refine hK _ _ ⟨dt_reads (fun e he=>?_),GoesI.at ?_ d⟩
   ·have hm:=mem_listed he
    simp [go_sem, *] at hm
    try exact ⟨_,_,hm⟩
    try (rcases hm with rfl|rfl<;>exact ⟨_,_,rfl⟩)
   clear hK K)
 refine goesI_deferV (d:=dclo 52 #[Pt N 0,Pt (N+1) 0]) (dt_idle _ _) rfl rfl (by decide) (fun w=>?_) (fun w=>?_) ?_
 ·simp [execOp,resolve,Deferred.ofValue,Act.eval,dclo,go_sem]
 ·simp [go_sem,execOp,resolve,Deferred.ofValue,Act.eval]
 refine goesI_regionEnd (dt_idle _ _) ?_
 refine goesI_seq (dt_idle _ _) ?_
 refine goesI_seq (dt_idle _ _) ?_
 refine goesI_region (dt_idle _ _) ?_
 simp only [List.size_toArray,List.length_cons,List.length_nil,Nat.reduceAdd,Nat.zero_add,List.range,List.range.loop]
 iterate 2
  (refine goesI_oper rfl rfl (by decide) (fun d K hK=>?_)
   go_simp
   refine hK _ _ ⟨dt_reads (fun e he=>?_),GoesI.at ?_ d⟩
   ·have hm:=mem_listed he
    simp [go_sem, *] at hm
    try exact ⟨_,_,hm⟩
    try (rcases hm with rfl|rfl<;>exact ⟨_,_,rfl⟩)
   clear hK K)
 refine goesI_regionEnd (dt_idle _ _) ?_
 refine goesI_block (dt_idle _ _) ?_
 refine goesI_seq (dt_idle _ _) ?_
 refine goesI_region (dt_idle _ _) ?_
 simp only [List.size_toArray,List.length_cons,List.length_nil,Nat.reduceAdd,Nat.zero_add,List.range,List.range.loop]
 iterate 2
  (refine goesI_oper rfl rfl (by decide) (fun d K hK=>?_)
   go_simp
   refine hK _ _ ⟨dt_reads (fun e he=>?_),GoesI.at ?_ d⟩
   ·have hm:=mem_listed he
    simp [go_sem, *] at hm
    try exact ⟨_,_,hm⟩
    try (rcases hm with rfl|rfl<;>exact ⟨_,_,rfl⟩)
   clear hK K)
 refine goesI_regionEnd (dt_idle _ _) ?_
 refine goesI_cond (dt_idle _ _) (t:=false) (by simp [Act.eval]) ?_
 simp only [if_true,if_false,Bool.false_eq_true]
 refine goesI_seq (dt_idle _ _) ?_
 refine goesI_region (dt_idle _ _) ?_
 simp only [List.size_toArray,List.length_cons,List.length_nil,Nat.reduceAdd,Nat.zero_add,List.range,List.range.loop]
 iterate 2
  (refine goesI_oper rfl rfl (by decide) (fun d K hK=>?_)
   go_simp
   refine hK _ _ ⟨dt_reads (fun e he=>?_),GoesI.at ?_ d⟩
   ·have hm:=mem_listed he
    simp [go_sem, *] at hm
    try exact ⟨_,_,hm⟩
    try (rcases hm with rfl|rfl<;>exact ⟨_,_,rfl⟩)
   clear hK K)
 refine goesI_regionEnd (dt_idle _ _) ?_
 refine goesI_cond (dt_idle _ _) (t:=false) (by simp [Act.eval]) ?_
 simp only [if_true,if_false,Bool.false_eq_true]
 refine goesI_seq (dt_idle _ _) ?_
 refine goesI_region (dt_idle _ _) ?_
 simp only [List.size_toArray,List.length_cons,List.length_nil,Nat.reduceAdd,Nat.zero_add,List.range,List.range.loop]
 iterate 2
  (refine goesI_oper rfl rfl (by decide) (fun d K hK=>?_)
   go_simp
   refine hK _ _ ⟨dt_reads (fun e he=>?_),GoesI.at ?_ d⟩
   ·have hm:=mem_listed he
    simp [go_sem, *] at hm
    try exact ⟨_,_,hm⟩
    try (rcases hm with rfl|rfl<;>exact ⟨_,_,rfl⟩)
   clear hK K)
 refine goesI_regionEnd (dt_idle _ _) ?_
 refine goesI_cond (dt_idle _ _) (t:=true) (by simp [Act.eval]) ?_
 simp only [if_true,if_false,Bool.false_eq_true]
 refine goesI_region (dt_idle _ _) ?_
 simp only [List.size_toArray,List.length_cons,List.length_nil,Nat.reduceAdd,Nat.zero_add,List.range,List.range.loop]
 iterate 2
  (refine goesI_oper rfl rfl (by decide) (fun d K hK=>?_)
   go_simp
   refine hK _ _ ⟨dt_reads (fun e he=>?_),GoesI.at ?_ d⟩
   ·have hm:=mem_listed he
    simp [go_sem, *] at hm
    try exact ⟨_,_,hm⟩
    try (rcases hm with rfl|rfl<;>exact ⟨_,_,rfl⟩)
   clear hK K)
 refine goesI_oper rfl rfl (by decide) (fun d K hK=>?_)
 go_simp
 refine hK _ _ ⟨dt_reads (fun e he=>?_),GoesI.at ?_ d⟩
 ·have hm:=mem_listed he
  simp [go_sem,Instr.makeInterface, *] at hm
 clear hK K
 refine GoesI.ctl rfl (fun w=>stepG_panic (v:=.iface 3 (I b)) rfl rfl (by decide) (by simp [execOp,go_sem,Instr.panic,Act.eval]) (by simp [go_sem,execOp,Instr.panic,Act.eval])) (dt_idle _ _) ?_
 refine GoesI.ctl rfl (fun w=>stepG_unwind_cloP (f:=52) (fn:=Tryd.f52) (cap:=#[Pt N 0,Pt (N+1) 0]) (ds:=[]) rfl Tryd.func52 (by kernel_rfl) rfl) (dt_idle _ _) ?_
 simp only [Tryd.ntmps52,List.size_toArray,List.length_cons,List.length_nil,Nat.reduceAdd,Nat.reduceSub,Array.replicate_succ,Array.replicate_zero,List.push_toArray,List.append_toArray,List.nil_append,List.cons_append]
 refine goesI_seq (dt_idle _ _) ?_
 refine goesI_region (dt_idle _ _) ?_
 simp only [List.size_toArray,List.length_cons,List.length_nil,Nat.reduceAdd,Nat.zero_add,List.range,List.range.loop]
 refine GoesI.ctl rfl (fun w=>stepG_recover_some (v:=.iface 3 (I b)) rfl rfl rfl rfl (by go_simp) (by simp [go_sem,execOp,resolve,invoke,builtin])) (dt_idle _ _) ?_
 (refine goesI_oper rfl rfl (by decide) (fun d K hK=>?_)
  go_simp
  refine hK _ _ ⟨dt_reads (fun e he=>?_),GoesI.at ?_ d⟩
  ·have hm:=mem_listed he
   simp [go_sem,ev_iface, *] at hm
  clear hK K)
 refine goesI_regionEnd (dt_idle _ _) ?_
 refine goesI_cond (dt_idle _ _) (t:=true) (by simp [Act.eval]) ?_
 simp only [if_true,if_false,Bool.false_eq_true]
 refine goesI_region (dt_idle _ _) ?_
 simp only [List.size_toArray,List.length_cons,List.length_nil,Nat.reduceAdd,Nat.zero_add,List.range,List.range.loop]
 iterate 3
  (refine goesI_oper rfl rfl (by decide) (fun d K hK=>?_)
   go_simp
   refine hK _ _ ⟨dt_reads (fun e he=>?_),GoesI.at ?_ d⟩
   ·have hm:=mem_listed he
    simp [go_sem, *] at hm
    try exact ⟨_,_,hm⟩
    try (rcases hm with rfl|rfl<;>exact ⟨_,_,rfl⟩)
   clear hK K)
 have q0:v'.cell? ⟨N+1,0,none⟩=some (I 0):=by simp [World.cell?,hpb]
 have q1:v'.cell? ⟨N+1,1,none⟩=some (I 0):=by simp [World.cell?,hpb]
 have p0:v'.frozen? ⟨N+1,0,none⟩=false:=by simp [World.frozen?,hpb]
 have p1:v'.frozen? ⟨N+1,1,none⟩=false:=by simp [World.frozen?,hpb]
 have hrow:=ans_row hpb (71) (b)
 refine goesI_doZ (L:=LT) rfl rfl (by decide) (fineOp_ask callT extT (by kernel_rfl)) hr' hn' (v':=ansW v' (N+1) (71) (b)) (by unfold ansW;go_simp) rfl (fun w9 r9 n9=>?_)
 refine goesI_regionEnd (dt_idle _ _) ?_
 refine goesI_end (dt_idle _ _) ?_
 refine GoesI.ctl rfl (fun w=>stepG_backD (v:=.iface 3 (I b)) Tryd.func52 rfl rfl) (dt_idle _ _) ?_
 change GoesI Tryd.prog main (DT (ScZ z) Ch) Stop (G { (base 32).at ⟨_,[]⟩ _ with mode:=.returning } _) _
 refine goesI_leaveZ (f:=32) (fn:=Tryd.f32) (x:=.agg #[I (71),I (b)]) r9 n9 Tryd.func32 rfl hoc ?_ (fun w' r'=>hk (71) (b) w' r' n9)
 generalize ansW v' (N+1) (71) (b)=V at hrow
 have k0:V.cell? ⟨N+1,0,none⟩=some (I (71)):=by simp [World.cell?,hrow]
 have k1:V.cell? ⟨N+1,1,none⟩=some (I (b)):=by simp [World.cell?,hrow]
 simp [results,go_sem,Tryd.f32,Frame.at, *]
theorem come3 {z:Nat→Option Nat} {Ch:Nat→Prop} {Stop:Goroutine→World→Prop} {main:Bool} {v w:World} {ob tb:Nat} {kd b:Int} (hkd:kd=3) (cs:List Frame) {bc:Frame} {ac:Act} {ops:Array Oper} {q:Nat} {rest:List Nat} {oc:Oper} {k0:List Item} (hoc:ops[q]? = some oc) (hvw:Rel z v w) (hn:NoRow Ch v)
 (hk:∀ v' w' (bd:Frame) (ad:Act) (od:Array Oper) (qd:Nat) (rd:List Nat) (oe:Oper) (kd:List Item),Rel z v' w'→NoRow Ch v'→Grows v v'→v'.heap[v.heap.size+1]? = some (.cells #[I 0,I 0] 38 (0,0))→od[qd]? = some oe→KBack main (oneM (v.heap.size+1) (.cells #[I 0,I 0] 38 (0,0))) (fun a=>(70,a.1)) (fun r=>G (bd.at (ad.put oe.dst r) (.inRegion od rd :: kd)) (bc.at ac (.inRegion ops (q :: rest) :: k0) :: cs)) (fun r=>(G (bc.at (ac.put oc.dst r) (.inRegion ops rest :: k0)) cs))→∀ code,Tryd.f19.body=some code →
   GoesI Tryd.prog main (DT (ScZ z) Ch) Stop (G ((base 19).at { tmps:=#[Pt ob 0,Pt tb 0,.agg #[I 3,I b]]++Array.replicate 11 undef,defers:=[] } [.code code]) (bd.at ad (.inRegion od (qd :: rd) :: kd) :: (bc.at ac (.inRegion ops (q :: rest) :: k0) :: cs))) w') (code:Code) (hc:Tryd.f32.body=some code) :
 GoesI Tryd.prog main (DT (ScZ z) Ch) Stop (G ((base 32).at { tmps:=#[Pt ob 0,Pt tb 0,.agg #[I kd,I b]]++Array.replicate 31 undef,defers:=[] } [.code code]) (bc.at ac (.inRegion ops (q :: rest) :: k0) :: cs)) w:=by
 have hw0:code=.seq (seq1 tB) (seq2 tB):=by
  rw [show code=tB by unfold tB;rw [hc];rfl];exact eTB
 subst hw0
 clear hc
 refine goesI_seq (dt_idle _ _) ?_
 refine goesI_plain (z:=z) (wr:=true) (L:=LT) (I:=NoRow Ch) hE fineT noRow_keeps (fun v v' w w' es hi hr ho he=>dt_of_z v v' w w' es hi hr ho he) hvw fine_t0 rfl (by simp [base]) hn
  (Q:=fun a w'=>a={ tmps:=#[Pt ob 0,Pt tb 0,.agg #[I kd,I b],undef,undef,Pt v.heap.size 0,Pt (v.heap.size+1) 0]++Array.replicate 27 undef,defers:=[] }∧w'.heap=((v.heap.push (.cells #[I kd,I b] 52)).push (.cells #[I 0,I 0] 38))∧w'.os=v.os∧w'.output=v.output) (fun τ=>?_) ?_
 ·unfold tB Tryd.f32 seq1
  simp only [Option.getD_some,Array.replicate_succ,Array.replicate_zero,List.push_toArray,List.append_toArray,List.nil_append,List.cons_append]
  go_wp2_with fail
  exact ⟨rfl,rfl,rfl,rfl⟩
 rintro a' v' w' ⟨rfl,hv1,hv2,hv3⟩ hr' hn' -
 have hsz:v'.heap.size=v.heap.size+2:=by rw [hv1];simp
 have hg:Grows v v':=⟨by omega,fun b hb=>by rw [hv1,Array.getElem?_push,if_neg (by simp;omega),Array.getElem?_push,if_neg (by omega)],hv2,hv3⟩
 have hb0:v'.heap[v.heap.size]? = some (.cells #[I kd,I b] 52 (0,0)):=by rw [hv1,Array.getElem?_push,if_neg (by simp<;>omega),Array.getElem?_push,if_pos (by simp)]
 have hb1:v'.heap[v.heap.size+1]? = some (.cells #[I 0,I 0] 38 (0,0)):=by rw [hv1,Array.getElem?_push,if_pos (by simp)]
 have d0:w'.cell? ⟨v.heap.size,0,none⟩=some (I kd):=by rw [hr'.cell?];simp [World.cell?,hb0]
 have d1:w'.cell? ⟨v.heap.size,1,none⟩=some (I b):=by rw [hr'.cell?];simp [World.cell?,hb0]
 clear hv1 hv2 hv3 hvw hn
 subst hkd
 have hk:=fun w1 bd ad od qd rd oe kd (r1:Rel z v' w1)=>hk v' w1 bd ad od qd rd oe kd r1 hn' hg hb1
 clear hg hsz hb0 hb1
 generalize v.heap.size=N at d0 d1 hk ⊢
 unfold tB Tryd.f32 seq2
 simp only [Option.getD_some,Array.replicate_succ,Array.replicate_zero,List.push_toArray,List.append_toArray,List.nil_append,List.cons_append]
 refine goesI_seq (dt_idle _ _) ?_
 refine goesI_region (dt_idle _ _) ?_
 simp only [List.size_toArray,List.length_cons,List.length_nil,Nat.reduceAdd,Nat.zero_add,List.range,List.range.loop]
 iterate 1
  (refine goesI_oper rfl rfl (by decide) (fun d K hK=>?_)
   go_simp
   refine hK _ _ ⟨dt_reads (fun e he=>?_),GoesI.at ?_ d⟩
   ·have hm:=mem_listed he
    simp [go_sem, *] at hm
    try exact ⟨_,_,hm⟩
    try (rcases hm with rfl|rfl<;>exact ⟨_,_,rfl⟩)
   clear hK K)
 refine goesI_deferV (d:=dclo 52 #[Pt N 0,Pt (N+1) 0]) (dt_idle _ _) rfl rfl (by decide) (fun w=>?_) (fun w=>?_) ?_
 ·simp [execOp,resolve,Deferred.ofValue,Act.eval,dclo,go_sem]
 ·simp [go_sem,execOp,resolve,Deferred.ofValue,Act.eval]
 refine goesI_regionEnd (dt_idle _ _) ?_
 refine goesI_seq (dt_idle _ _) ?_
 refine goesI_seq (dt_idle _ _) ?_
 refine goesI_region (dt_idle _ _) ?_
 simp only [List.size_toArray,List.length_cons,List.length_nil,Nat.reduceAdd,Nat.zero_add,List.range,List.range.loop]
 iterate 2
  (refine goesI_oper rfl rfl (by decide) (fun d K hK=>?_)
   go_simp
   refine hK _ _ ⟨dt_reads (fun e he=>?_),GoesI.at ?_ d⟩
   ·have hm:=mem_listed he
    simp [go_sem, *] at hm
    try exact ⟨_,_,hm⟩
    try (rcases hm with rfl|rfl<;>exact ⟨_,_,rfl⟩)
   clear hK K)
 refine goesI_regionEnd (dt_idle _ _) ?_
 refine goesI_block (dt_idle _ _) ?_
 refine goesI_seq (dt_idle _ _) ?_
 refine goesI_region (dt_idle _ _) ?_
 simp only [List.size_toArray,List.length_cons,List.length_nil,Nat.reduceAdd,Nat.zero_add,List.range,List.range.loop]
 iterate 2
  (refine goesI_oper rfl rfl (by decide) (fun d K hK=>?_)
   go_simp
   refine hK _ _ ⟨dt_reads (fun e he=>?_),GoesI.at ?_ d⟩
   ·have hm:=mem_listed he
    simp [go_sem, *] at hm
    try exact ⟨_,_,hm⟩
    try (rcases hm with rfl|rfl<;>exact ⟨_,_,rfl⟩)
   clear hK K)
 refine goesI_regionEnd (dt_idle _ _) ?_
 refine goesI_cond (dt_idle _ _) (t:=false) (by simp [Act.eval]) ?_
 simp only [if_true,if_false,Bool.false_eq_true]
 refine goesI_seq (dt_idle _ _) ?_
 refine goesI_region (dt_idle _ _) ?_
 simp only [List.size_toArray,List.length_cons,List.length_nil,Nat.reduceAdd,Nat.zero_add,List.range,List.range.loop]
 iterate 2
  (refine goesI_oper rfl rfl (by decide) (fun d K hK=>?_)
   go_simp
   refine hK _ _ ⟨dt_reads (fun e he=>?_),GoesI.at ?_ d⟩
   ·have hm:=mem_listed he
    simp [go_sem, *] at hm
    try exact ⟨_,_,hm⟩
    try (rcases hm with rfl|rfl<;>exact ⟨_,_,rfl⟩)
   clear hK K)
 refine goesI_regionEnd (dt_idle _ _) ?_
 refine goesI_cond (dt_idle _ _) (t:=false) (by simp [Act.eval]) ?_
 simp only [if_true,if_false,Bool.false_eq_true]
 refine goesI_seq (dt_idle _ _) ?_
 refine goesI_region (dt_idle _ _) ?_
 simp only [List.size_toArray,List.length_cons,List.length_nil,Nat.reduceAdd,Nat.zero_add,List.range,List.range.loop]
 iterate 2
  (refine goesI_oper rfl rfl (by decide) (fun d K hK=>?_)
   go_simp
   refine hK _ _ ⟨dt_reads (fun e he=>?_),GoesI.at ?_ d⟩
   ·have hm:=mem_listed he
    simp [go_sem, *] at hm
    try exact ⟨_,_,hm⟩
    try (rcases hm with rfl|rfl<;>exact ⟨_,_,rfl⟩)
   clear hK K)
 refine goesI_regionEnd (dt_idle _ _) ?_
 refine goesI_cond (dt_idle _ _) (t:=false) (by simp [Act.eval]) ?_
 simp only [if_true,if_false,Bool.false_eq_true]
 refine goesI_seq (dt_idle _ _) ?_
 refine goesI_region (dt_idle _ _) ?_
 simp only [List.size_toArray,List.length_cons,List.length_nil,Nat.reduceAdd,Nat.zero_add,List.range,List.range.loop]
 iterate 2
  (refine goesI_oper rfl rfl (by decide) (fun d K hK=>?_)
   go_simp
   refine hK _ _ ⟨dt_reads (fun e he=>?_),GoesI.at ?_ d⟩
   ·have hm:=mem_listed he
    simp [go_sem, *] at hm
    try exact ⟨_,_,hm⟩
    try (rcases hm with rfl|rfl<;>exact ⟨_,_,rfl⟩)
   clear hK K)
 refine goesI_regionEnd (dt_idle _ _) ?_
 refine goesI_cond (dt_idle _ _) (t:=true) (by simp [Act.eval]) ?_
 simp only [if_true,if_false,Bool.false_eq_true]
 refine goesI_seq (dt_idle _ _) ?_
 refine goesI_region (dt_idle _ _) ?_
 simp only [List.size_toArray,List.length_cons,List.length_nil,Nat.reduceAdd,Nat.zero_add,List.range,List.range.loop]
 iterate 3
  (refine goesI_oper rfl rfl (by decide) (fun d K hK=>?_)
   go_simp
   refine hK _ _ ⟨dt_reads (fun e he=>?_),GoesI.at ?_ d⟩
   ·have hm:=mem_listed he
    simp [go_sem, *] at hm
    try exact ⟨_,_,hm⟩
    try (rcases hm with rfl|rfl<;>exact ⟨_,_,rfl⟩)
   clear hK K)
 refine goesI_into (f:=19) (fn:=Tryd.f19) (args:=#[Pt ob 0,Pt tb 0,.agg #[I 3,I b]]) (dt_idle _ _) rfl rfl (by decide) rfl (by simp [Act.eval]) Tryd.func19 (by decide) rfl ?_
 refine hk _ _ _ _ _ _ _ _ (hr'.re rfl rfl rfl rfl rfl rfl) rfl ?_ _ rfl
 clear hk hr' hn' d0 d1
 intro z1 Ch1 St w2 v2 S1 K1 a r2 n2 m2 hM hO hk
 have hpb:v2.heap[N+1]? = some (.cells #[I 0,I 0] 38 (0,0)):=has_one.1 hM
 have hO1:¬ Own S1 K1 (N+1):=hO (N+1) (by rw [oneM_at];simp)
 have he:=ans_evo m2 hO1 70 a.1
 have hk:=fun w' r' n'=>hk (ansW v2 (N+1) 70 a.1) w' r' n' (he.wider (fun b _ hb=>by rw [show b=N+1 from hb,oneM_at];simp))
 walk_nrm
 iterate 2
  (refine goesI_oper rfl rfl (by decide) (fun d K hK=>?_)
   go_simp
   refine hK _ _ ⟨dt_reads (fun e he=>?_),GoesI.at ?_ d⟩
   ·have hm:=mem_listed he
    simp [go_sem, *] at hm
    try exact ⟨_,_,hm⟩
    try (rcases hm with rfl|rfl<;>exact ⟨_,_,rfl⟩)
   clear hK K)
 have q0:v2.cell? ⟨N+1,0,none⟩=some (I 0):=by simp [World.cell?,hpb]
 have q1:v2.cell? ⟨N+1,1,none⟩=some (I 0):=by simp [World.cell?,hpb]
 have p0:v2.frozen? ⟨N+1,0,none⟩=false:=by simp [World.frozen?,hpb]
 have p1:v2.frozen? ⟨N+1,1,none⟩=false:=by simp [World.frozen?,hpb]
 have hrow:=ans_row hpb (70) (a.1)
 refine goesI_doZ (L:=LT) rfl rfl (by decide) (fineOp_ask callT extT (by kernel_rfl)) r2 n2 (v':=ansW v2 (N+1) (70) (a.1)) (by unfold ansW;go_simp) rfl (fun w9 r9 n9=>?_)
 refine goesI_regionEnd (dt_idle _ _) ?_
 refine GoesI.ctl rfl (fun _=>stepG_ret') (dt_idle _ _) ?_
 refine goesI_unwind_clo (dt_idle _ _) rfl Tryd.func52 (by kernel_rfl) rfl ?_
 simp only [Tryd.ntmps52,List.size_toArray,List.length_cons,List.length_nil,Nat.reduceAdd,Nat.reduceSub,Array.replicate_succ,Array.replicate_zero,List.push_toArray,List.append_toArray,List.nil_append,List.cons_append]
 refine goesI_seq (dt_idle _ _) ?_
 refine goesI_region (dt_idle _ _) ?_
 simp only [List.size_toArray,List.length_cons,List.length_nil,Nat.reduceAdd,Nat.zero_add,List.range,List.range.loop]
 refine goesI_recover_none (dt_idle _ _) rfl rfl rfl rfl (fun w=>by go_simp) (fun w=>by simp [go_sem,execOp,resolve,invoke,builtin]) ?_
 (refine goesI_oper rfl rfl (by decide) (fun d K hK=>?_)
  go_simp
  refine hK _ _ ⟨dt_reads (fun e he=>?_),GoesI.at ?_ d⟩
  ·have hm:=mem_listed he
   simp [go_sem,ev_nil, *] at hm
  clear hK K)
 refine goesI_regionEnd (dt_idle _ _) ?_
 refine goesI_cond (dt_idle _ _) (t:=false) rfl ?_
 simp only [if_true,if_false,Bool.false_eq_true]
 refine goesI_skip (dt_idle _ _) ?_
 refine goesI_end (dt_idle _ _) ?_
 refine GoesI.ctl rfl (fun w=>stepG_backR Tryd.func52 rfl rfl) (dt_idle _ _) ?_
 refine goesI_leaveZ (f:=32) (fn:=Tryd.f32) (x:=.agg #[I (70),I (a.1)]) r9 n9 Tryd.func32 rfl hoc ?_ (fun w' r'=>hk w' r' n9)
 generalize ansW v2 (N+1) (70) (a.1)=V at hrow
 have k0:V.cell? ⟨N+1,0,none⟩=some (I (70)):=by simp [World.cell?,hrow]
 have k1:V.cell? ⟨N+1,1,none⟩=some (I (a.1)):=by simp [World.cell?,hrow]
 simp [results,go_sem,Tryd.f32,Frame.at, *]
end Go.Proofs.YtaofjdoielmobaaDoor.Gen
