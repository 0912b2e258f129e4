/- CounterTimes, whatever the schedule, the shards and the scripts: each Sum is what all Adds whose step was done come to at one time between its begin and its end; one that meets no Add takes two steps a shard. No conditions. Part 31 of 31. (Joined, by program, and written short, of: La15d, La15e, La14f, GOpens, GRowL, La14Row, La14Card.) -/
import Derived.Test.YtfjjoohflcchnaaDoorCounterTimes29
import Derived.Test.YtfjjoohflcchnaaDoorCounterTimes30
import Derived.Conc.LeavingOf
import Derived.ProofKit
import Derived.OpenShut
import Derived.ChangeOld
import Derived.SizedLaws
import Derived.Lib.SmallJoins
import Derived.Deep.SlicePairs
import Derived.Test.YtfjjoohflcchnaaDoorRows
import Derived.LaidLaws
import Derived.LaidHandle
import Derived.Lay
import Derived.Test.YtfjjoohflcchnaaDoorTie
import Derived.Test.YtfjjoohflcchnaaDoorCards
import Derived.SevenTiedAt
set_option linter.unusedSimpArgs false
set_option linter.unusedVariables false
set_option maxHeartbeats 4000000
set_option maxRecDepth 100000
namespace Go.Proofs.YtfjjoohflcchnaaDoor.Gen
open Go Go.Lift Go.Conc Go.RowKit
theorem Fcs.keep {v v':World} {c sb s:Nat} {kb:List Nat} {xs:List Int} (h:Fcs v c sb s kb xs) (hs:∀ b,b=c∨b=sb∨b∈kb→v'.heap[b]? = v.heap[b]?):Fcs v' c sb s kb xs:=by
 refine ⟨⟨?_,fun j hj=>?_,h.ctr.s0,h.ctr.s1⟩,h.len,h.klen,fun j cb x hc hx=>?_,h.nd,h.csb,h.ckb⟩
 ·rw [World.cell?_of_block (w:=v) (w':=v') (hs c (.inl rfl))];exact h.ctr.row
 ·obtain ⟨cb,e1,e2⟩:=h.ctr.cel j hj
  exact ⟨cb,e1,by rw [World.cell?_of_block (w:=v) (w':=v') (hs sb (.inr (.inl rfl)))];exact e2⟩
 ·rw [hs cb (.inr (.inr (List.mem_of_getElem? hc)))];exact h.cel j cb x hc hx
theorem Fcs.ftg {v v':World} {c sb s cb j:Nat} {kb:List Nat} {xs:List Int} {y:Int} (h:Fcs v c sb s kb xs) (hj:kb[j]? = some cb) (f:Ftg cb y v v'):Fcs v' c sb s kb (xs.set j y):=by
 obtain ⟨l1,l2,l3⟩:=h.lt
 obtain ⟨n1,n2⟩:=h.ckb cb (List.mem_of_getElem? hj)
 refine ⟨⟨?_,fun j hj=>?_,h.ctr.s0,h.ctr.s1⟩,by rw [List.length_set];exact h.len,h.klen,fun j' cb' x hc hx=>?_,h.nd,h.csb,h.ckb⟩
 ·rw [World.cell?_of_block (w:=v) (w':=v') (f.old c l1 (Ne.symm n1))];exact h.ctr.row
 ·obtain ⟨cb,e1,e2⟩:=h.ctr.cel j hj
  exact ⟨cb,e1,by rw [World.cell?_of_block (w:=v) (w':=v') (f.old sb l2 (Ne.symm n2))];exact e2⟩
 ·rw [List.getElem?_set] at hx
  by_cases e:j=j'
  ·subst e
   rw [if_pos rfl] at hx
   split at hx
   ·cases hx
    rw [hj] at hc
    cases hc
    exact f.cel
   ·cases hx
  ·rw [if_neg e] at hx
   have hne:cb'≠cb:=fun e2=>by
    subst e2
    exact e ((List.getElem?_inj (List.getElem?_eq_some_iff.1 hj).1 h.nd).1 (hj.trans hc.symm))
   rw [f.old cb' (l3 cb' (List.mem_of_getElem? hc)) hne]
   exact h.cel j' cb' x hc hx
structure M15 (u0:World) (c sb s ab:Nat) (kb:List Nat) (xs:List Int) (v:World):Prop where
 fcs:Fcs v c sb s kb xs
 am:v.heap[ab]? = some (rowI (xs.map R1.amtS))
 abn:ab≠c∧ab≠sb∧ab ∉ kb
 bl:Bl u0.heap.size u0 v
 lo:u0.heap.size≤c∧u0.heap.size≤sb∧u0.heap.size≤ab∧∀ cb∈kb,u0.heap.size≤cb
section
variable {u0 v v' v3 v4 v5:World} {c sb s ab cb j:Nat} {kb:List Nat} {xs:List Int} {x y:Int}
theorem M15.ablt (h:M15 u0 c sb s ab kb xs v):ab<v.heap.size:=(Array.getElem?_eq_some_iff.1 h.am).1
theorem M15.grows (h:M15 u0 c sb s ab kb xs v) (g:Grows v v'):M15 u0 c sb s ab kb xs v' :=
 ⟨h.fcs.bl ⟨g.old,g.size,g.os,g.output⟩,by rw [g.old ab h.ablt];exact h.am,h.abn,h.bl.trans (Grows.bl g h.bl.size),h.lo⟩
theorem M15.same (h:M15 u0 c sb s ab kb xs v) (e:v'.heap=v.heap) (e1:v'.os=v.os) (e2:v'.output=v.output):M15 u0 c sb s ab kb xs v' :=
 h.grows ⟨by rw [e];exact Nat.le_refl _,fun b _=>by rw [e],e1,e2⟩
theorem M15.am4 (h:M15 u0 c sb s ab kb xs v3) (hj:kb[j]? = some cb) (f:Ftg cb (R1.addI y x) v3 v4):v4.heap[ab]? = some (rowI (xs.map R1.amtS)):=by
 rw [f.old ab h.ablt (fun e=>h.abn.2.2 (e▸List.mem_of_getElem? hj))];exact h.am
theorem M15.bl4 (h:M15 u0 c sb s ab kb xs v3) (hj:kb[j]? = some cb) (f:Ftg cb (R1.addI y x) v3 v4):Bl u0.heap.size u0 v4 :=
 h.bl.trans ⟨fun b hb=>f.old b (by have:=h.bl.size;omega) (fun e=>by have:=h.lo.2.2.2 cb (List.mem_of_getElem? hj);omega),f.size,f.os,f.out⟩
theorem M15.next (h:M15 u0 c sb s ab kb xs v3) (hj:kb[j]? = some cb) (hy:xs[j]? = some y) (f:Ftg cb (R1.addI y x) v3 v4) (e5:v5.heap=(v4.setCell ⟨ab,j,none⟩ (I (R1.wr56 (wrap64 (R1.amtS y+x.tmod 4294967296))))).heap) (o5:v5.os=v4.os) (u5:v5.output=v4.output):M15 u0 c sb s ab kb (xs.set j (R1.addI y x)) v5:=by
 have oth:∀ b,b≠ab→v5.heap[b]? = v4.heap[b]?:=fun b hb=>by rw [e5];exact Below.heap_setCell _ _ _ _ hb
 refine ⟨(h.fcs.ftg hj f).keep (fun b hb=>oth b (fun e=>?_)),?_,h.abn,(h.bl4 hj f).trans ⟨fun b hb=>oth b (by have:=h.lo.2.2.1;omega),by rw [e5];simp [World.setCell],o5,u5⟩,h.lo⟩
 ·subst e
  rcases hb with e|e|e
  ·exact h.abn.1 e
  ·exact h.abn.2.1 e
  ·exact h.abn.2.2 e
 ·rw [e5,R1.amtS_add,rowI_set (h.am4 hj f) j,List.map_set]
end
def InN (w:World) (lb lo:Nat) (xs:List Int):Prop:=∀ (k:Nat) (c:Int),xs[k]? = some c→w.cell? ⟨lb,lo+k,none⟩=some (I c)
theorem InN.bl {v v':World} {lb lo:Nat} {xs:List Int} (h:InN v lb lo xs) (g:Bl v.heap.size v v'):InN v' lb lo xs:=fun k c hc=>g.cell (World.block_lt_of_cell? _ _ (h k c hc)) (h k c hc)
section
variable {Ch:Nat→Prop} {Stop:Goroutine→World→Prop} {main:Bool} {v w:World} {a:Act} {u0:World} {c sb s ab i:Nat} {kb:List Nat} {xs:List Int} {b1 o1 n1 cap1 b2 o2 n2 cap2:Nat} {p2:Option Addr} {ad wh:List Int}
end
section
variable {Ch:Nat→Prop} {Stop:Goroutine→World→Prop} {main:Bool} {u0:World} {c sb s ab:Nat} {kb:List Nat} {b1 o1 n1 cap1 b2 o2 n2 cap2:Nat} {p1 p2:Option Addr} {ad wh:List Int}
end
theorem alone_ends {gs:Array Goroutine} {w:World} {T:Trace} {q:Nat→Nat} (A:Alone gs w T q) {a:Goroutine} (hg:gs[0]? = some a) (sl:Option (Nat×Nat)) {Post:Value→World→Prop} (hE:∀ B,∀ d,AtEnd Tryd.prog (fun _=>False) B Post a (w.at d)) :
 ∃ N last o w' t',runNT Tryd.prog (N+1) (crowd gs w sl) T=(.ended o w',t')∧runN Tryd.prog N (crowd gs w sl)=.next last∧step Tryd.prog last=.ended o w'∧Go.Conc.Good Tryd.prog Post last o w' t':=by
 obtain ⟨B,hB,hP⟩:=A.past
 refine beside_ends (D:=fun _ _ es=>es=#[]) (Shun:=fun _=>False) (B:=B) (n:=0) (fun _ _ es h e he=>by subst h;simp at he) hg A.left hP ?_
 rintro w1 ⟨d,rfl⟩
 exact hE B d
noncomputable def P14:Code:=.seq q14_2 (.seq q14_3 T14)
theorem eC14:C14=.seq q14_0 (.seq q14_1 P14):=e14
theorem fine_T14:fineCode Tryd.prog true LV T14:=fineCode_askS callV extT (by kernel_rfl)
theorem fine_q14_2:fineCode Tryd.prog true LV q14_2:=fineCode_askS callV extT (by kernel_rfl)
theorem q14_2_wp {v:World} {a:Act} {s1 s2:Value} (p:Option Addr) (cap vb vo:Nat) (xs:List Int) (hp:0<xs.length→p=some ⟨vb,vo,none⟩) (hx1:xs.length≤17592186043904) (hv:∀ k x,xs[k]? = some x→v.cell? ⟨vb,vo+k,none⟩=some (I x)) (hA:Fl 267 [(0,.slice p xs.length cap),(1,s1),(2,s2),(7,.bool true)] a) :
 q14_2.wp Tryd.prog (fun e a w'=>e=.normal∧∃ wb bk sc,Fl 267 [(1,s1),(2,s2),(7,.bool true),(8,Pt wb 0)] a∧IsNew v xs wb bk sc w') a v:=by
 have H7:Hid (Calls Tryd.prog 17 #[.slice p xs.length cap] v _):=⟨(body7A p vb vo cap xs hp hx1 hv).calls Tryd.func17 rfl⟩
 clear hp hx1 hv
 obtain ⟨hsz,hd,hp⟩:=hA
 obtain ⟨u,rfl,hg⟩:=litN hsz hd
 simp only [List.forall_mem_cons,hg] at hp
 obtain ⟨u0,u1,u2,u7,-⟩:=hp
 clear hg hsz hd
 unfold q14_2 C14 Tryd.f14 seq2 seq1
 simp only [Option.getD_some,lits,Nat.reduceAdd,u0,u1,u2,u7]
 clear u0 u1 u2 u7
 go_wp2_with (first
  |(go_at_call 17;refine H7.out.mono ?_;rintro e w1 ⟨_,rfl,wb,bk,sc,rfl,hnew⟩))
 exact ⟨wb,⟨rfl,rfl,by
  intro p hp
  simp only [List.mem_cons,List.not_mem_nil,or_false] at hp
  rcases hp with rfl|rfl|rfl|rfl<;>rfl⟩,bk,sc,hnew⟩
theorem law14_in {Ch:Nat→Prop} {Stop:Goroutine→World→Prop} {main:Bool} {w:World} (x0:Value) (x1:Value) (x2:Value)
 (hk:∀ (w':World) (bd:Frame) (ad:Act) (od:Array Oper) (qd:Nat) (rd:List Nat) (oe:Oper) (kd:List Item),(∃ d,w'=w.at d)→od[qd]? = some oe →
   (∀ (Ch:Nat→Prop) (Stop:Goroutine→World→Prop) (w1:World),(∀ a,Fl 267 [(0,x0),(1,x1),(2,x2),(7,.bool true)] a→GoesI Tryd.prog main (DT (ScZ zn) Ch) Stop (G ((base 14).at a [.code P14]) []) w1)→GoesI Tryd.prog main (DT (ScZ zn) Ch) Stop (G (bd.at (ad.put oe.dst (.bool true)) (.inRegion od rd :: kd)) []) w1) →
   GoesI Tryd.prog main (DT (ScZ zn) Ch) Stop (G ((base 51).at { tmps:=Array.replicate 28 undef,defers:=[] } [.code B51]) [bd.at ad (.inRegion od (qd :: rd) :: kd)]) w') :
 GoesI Tryd.prog main (DT (ScZ zn) Ch) Stop (G ((base 14).at { tmps:=#[x0,x1,x2]++Array.replicate 264 undef,defers:=[] } [.code C14]) []) w:=by
 rw [eC14]
 simp only [Array.replicate_succ,Array.replicate_zero,List.push_toArray,List.append_toArray,List.nil_append,List.cons_append]
 refine goesI_seq (dt_idle _ _) ?_
 generalize hR:P14=R9 at hk ⊢
 unfold q14_0 q14_1 C14 Tryd.f14 seq1 seq2
 simp only [Option.getD_some]
 refine goesI_region (dt_idle _ _) ?_
 simp only [List.size_toArray,List.length_cons,List.length_nil,Nat.reduceAdd,Nat.zero_add,List.range,List.range.loop]
 iterate 1
  (refine goesI_oper rfl rfl (by decide) (fun d K hK=>?_)
   go_simp
   refine hK _ _ ⟨dt_reads (fun e he=>?_),GoesI.at ?_ d⟩
   ·have hm:=mem_listed he
    simp [go_sem, *] at hm
    try exact ⟨_,_,hm⟩
   clear hK K)
 refine goesI_regionEnd (dt_idle _ _) ?_
 refine goesI_seq (dt_idle _ _) ?_
 refine goesI_region (dt_idle _ _) ?_
 simp only [List.size_toArray,List.length_cons,List.length_nil,Nat.reduceAdd,Nat.zero_add,List.range,List.range.loop]
 refine goesI_into (f:=51) (fn:=Tryd.f51) (args:=#[]) (dt_idle _ _) rfl rfl (by decide) rfl (by simp [Act.eval]) Tryd.func51 (by decide) rfl ?_
 refine hk w _ _ _ _ _ _ _ ⟨w.drawn,rfl⟩ rfl (fun Ch Stop w1 hg=>?_)
 clear hk
 iterate 1
  (refine goesI_oper rfl rfl (by decide) (fun d K hK=>?_)
   go_simp
   refine hK _ _ ⟨dt_reads (fun e he=>?_),GoesI.at ?_ d⟩
   ·have hm:=mem_listed he
    simp [go_sem, *] at hm
    try exact ⟨_,_,hm⟩
   clear hK K)
 refine goesI_regionEnd (dt_idle _ _) ?_
 exact hg _ ⟨rfl,rfl,by
  intro p hp
  simp only [List.mem_cons,List.not_mem_nil,or_false] at hp
  rcases hp with rfl|rfl|rfl|rfl<;>rfl⟩
theorem end14 {a:Act} {todo:List Item} {w:World} (hd:a.defers=[]) (h4:a.tmps.getD 6 undef=.bool true):stepG Tryd.prog true (G { (base 14).at a todo with mode:=.returning } []) w=.ended (.done (.bool true)) w #[]:=by
 have hr:(results Tryd.f14 a.tmps).run Tryd.prog w=.ok (.bool true) w:=by rw [results_tmp (t:=6) rfl,h4]
 have he:(results Tryd.f14 a.tmps).events Tryd.prog w #[]=#[]:=by simp [results,go_sem,Tryd.f14]
 simp [G,stepG,unwind,Frame.at,hd,Tryd.func14,base,hr,he,doReturn,GStep.after,seen]
theorem law14_b {Ch:Nat→Prop} {Stop:Goroutine→World→Prop} {main:Bool} {v w:World} (p:Option Addr) (cap vb vo:Nat) (xs:List Int) (hp:0<xs.length→p=some ⟨vb,vo,none⟩) (hx1:xs.length≤17592186043904) (hv:∀ k x,xs[k]? = some x→v.cell? ⟨vb,vo+k,none⟩=some (I x)) (s1 s2:Value) (hvw:Rel zn v w) (hn:NoRow Ch v)
 (hk:∀ (v' w':World) (wb bk:Nat) (sc:Value) (bd:Frame) (ad:Act) (od:Array Oper) (qd:Nat) (rd:List Nat) (oe:Oper) (kd:List Item),Rel zn v' w'→NoRow Ch v'→IsNew v xs wb bk sc v'→od[qd]? = some oe →
   (∀ (Ch:Nat→Prop) (Stop:Goroutine→World→Prop) (w2:World) (A:Value) (E:Int),(∀ a,Fl 267 [(1,s1),(2,s2),(7,.bool true),(8,Pt wb 0),(9,A),(10,I E)] a→GoesI Tryd.prog main (DT (ScZ zn) Ch) Stop (G ((base 14).at a [.code T14]) []) w2) →
     GoesI Tryd.prog main (DT (ScZ zn) Ch) Stop (G (bd.at (ad.put oe.dst (.tuple #[A,I E])) (.inRegion od rd :: kd)) []) w2) →
   GoesI Tryd.prog main (DT (ScZ zn) Ch) Stop (G ((base 52).at { tmps:=#[Pt wb 0,s1,s2]++Array.replicate 25 undef,defers:=[] } [.code B52]) [bd.at ad (.inRegion od (qd :: rd) :: kd)]) w') :
 ∀ a,Fl 267 [(0,.slice p xs.length cap),(1,s1),(2,s2),(7,.bool true)] a→GoesI Tryd.prog main (DT (ScZ zn) Ch) Stop (G ((base 14).at a [.code P14]) []) w:=by
 intro a0 hA0
 unfold P14
 refine goesI_seq (dt_idle _ _) ?_
 refine goesI_plain (z:=zn) (wr:=true) (L:=LV) (I:=NoRow Ch) hE fineV noRow_keeps (fun v v' w w' es hi hr ho he=>dt_of_z v v' w w' es hi hr ho he) hvw fine_q14_2 hA0.2.1 (by simp [base]) hn
  (Q:=fun a w'=>∃ wb bk sc,Fl 267 [(1,s1),(2,s2),(7,.bool true),(8,Pt wb 0)] a∧IsNew v xs wb bk sc w') (fun τ=>wp_mono (q14_2_wp (v:=onTape v τ 0) p cap vb vo xs hp hx1 hv hA0) (fun e a w' hq=>⟨hq.1,by
    obtain ⟨_,wb,bk,sc,h1,h2⟩:=hq
    exact ⟨wb,bk,sc,h1,h2.mem,h2.opn,h2.new,⟨h2.old.size,h2.old.old,h2.old.os,h2.old.output⟩⟩⟩)) ?_
 rintro a1 v1 w1 ⟨wb,bk,sc,hB,hnew⟩ hr1 hn1 -
 obtain ⟨hsz,hd,hpp⟩:=hB
 obtain ⟨u,rfl,hg⟩:=litN hsz hd
 simp only [List.forall_mem_cons,hg] at hpp
 obtain ⟨u1,u2,u7,u8,-⟩:=hpp
 clear hg hsz hd hA0
 refine goesI_seq (dt_idle _ _) ?_
 clear hvw hn hp hx1 hv
 generalize hT:T14=T at hk ⊢
 unfold q14_3 C14 Tryd.f14 seq1 seq2
 simp only [Option.getD_some,lits,Nat.reduceAdd,u1,u2,u7,u8]
 clear u1 u2 u7 u8
 refine goesI_region (dt_idle _ _) ?_
 simp only [List.size_toArray,List.length_cons,List.length_nil,Nat.reduceAdd,Nat.zero_add,List.range,List.range.loop]
 iterate 3
  (refine goesI_oper rfl rfl (by decide) (fun d K hK=>?_)
   go_simp
   refine hK _ _ ⟨dt_reads (fun e he=>?_),GoesI.at ?_ d⟩
   ·have hm:=mem_listed he
    simp [go_sem, *] at hm
    try exact ⟨_,_,hm⟩
   clear hK K)
 refine goesI_into (f:=52) (fn:=Tryd.f52) (args:=#[Pt wb 0,s1,s2]) (dt_idle _ _) rfl rfl (by decide) rfl (by simp [Act.eval]) Tryd.func52 (by decide) rfl ?_
 refine hk v1 w1 wb bk sc _ _ _ _ _ _ _ hr1 hn1 hnew rfl (fun Ch Stop w2 A E hwp=>?_)
 clear hk hnew hr1 hn1
 iterate 5
  (refine goesI_oper rfl rfl (by decide) (fun d K hK=>?_)
   go_simp
   refine hK _ _ ⟨dt_reads (fun e he=>?_),GoesI.at ?_ d⟩
   ·have hm:=mem_listed he
    simp [go_sem, *] at hm
    try exact ⟨_,_,hm⟩
   clear hK K)
 refine goesI_regionEnd (dt_idle _ _) ?_
 exact hwp _ ⟨rfl,rfl,by
  intro p hp
  simp only [List.mem_cons,List.not_mem_nil,or_false] at hp
  rcases hp with rfl|rfl|rfl|rfl|rfl|rfl<;>rfl⟩
theorem law14_no {Ch:Nat→Prop} {Stop:Goroutine→World→Prop} {main:Bool} {v w:World} {a:Act} {E:Int} (hE1:¬ E=0) (hvw:Rel zn v w) (hn:NoRow Ch v) (hA:Fl 267 [(7,.bool true),(10,I E)] a)
 (hend:∀ a' v' w' todo,Rel zn v' w'→Grows v v'→a'.defers=[]→a'.tmps.getD 6 undef=.bool true→GoesI Tryd.prog main (DT (ScZ zn) Ch) Stop (G { (base 14).at a' todo with mode:=.returning } []) w') :
 GoesI Tryd.prog main (DT (ScZ zn) Ch) Stop (G ((base 14).at a [.code T14]) []) w :=
 goesI_retZ (Q:=fun a w'=>Fl 267 [(6,.bool true)] a∧Kq v.heap.size v w') hvw hn fine_T14 hA.2.1 (fun τ=>wp_mono (tail14_no (v:=onTape v τ 0) hE1 hA) (fun e a w' hq=>⟨hq.1,hq.2.1,hq.2.2.os,hq.2.2.out,hq.2.2.size,hq.2.2.old⟩)) (fun a' v' w' todo hQ hd hr hn'=>hend a' v' w' todo hr (hQ.2.grows (Nat.le_refl _)) hd (hQ.1.at 6 (.bool true) (by simp)))
theorem law14_yes {Ch:Nat→Prop} {Stop:Goroutine→World→Prop} {main:Bool} {v w:World} {a:Act} {S:TS} {n N b o cap M:Nat} {A ln cp rb ro:Nat→Nat} {pc:Nat→Option Addr} {cl:Nat→List Cl} {l:Nat→Ph} {L:List Stp} (hs16:n≤16) (hN:N≤8)
 (hS:SL N b o ln cp rb ro pc cl v) (hL:AL N M A ln l v) (hR:Rep zn S v) (hsk:S.stk=false) (htr:S.tr=flat L) (hSn:S.n=L.length) (hs4:S.n≤400000) (hst:EndsC N n cl l L) (hvw:Rel zn v w) (hn:NoRow Ch v)
 (hA:Fl 267 [(7,.bool true),(10,I 0),(1,I (n:Nat)),(2,.slice (some ⟨b,o,none⟩) N cap),(8,Pt S.wb 0),(9,.slice (some ⟨M,0,none⟩) N N)] a)
 (hend:∀ a' v' w' todo,Rel zn v' w'→Grows v v'→a'.defers=[]→a'.tmps.getD 6 undef=.bool true→GoesI Tryd.prog main (DT (ScZ zn) Ch) Stop (G { (base 14).at a' todo with mode:=.returning } []) w') :
 GoesI Tryd.prog main (DT (ScZ zn) Ch) Stop (G ((base 14).at a [.code T14]) []) w :=
 goesI_retZ (Q:=fun a w'=>Fl 267 [(6,.bool true)] a∧Kq v.heap.size v w') hvw hn fine_T14 hA.2.1 (fun τ=>wp_mono (tail14_yes (v:=onTape v τ 0) hs16 hN (hS.go (Kq.same rfl rfl rfl)) (hL.go (Kq.same rfl rfl rfl)) (hR.same (v':=onTape v τ 0) rfl) hsk htr hSn hs4 hst hA) (fun e a w' hq=>⟨hq.1,hq.2.1,hq.2.2.os,hq.2.2.out,hq.2.2.size,hq.2.2.old⟩)) (fun a' v' w' todo hQ hd hr hn'=>hend a' v' w' todo hr (hQ.2.grows (Nat.le_refl _)) hd (hQ.1.at 6 (.bool true) (by simp)))
theorem run14 (W:World) (hGl:Gl W) (n0:Int) {sp:Option Addr} {sb so scap:Nat} {sched:List Int} (hS:InI W sp sb so sched) {p:Option Addr} {b o n cap:Nat} {pc:Nat→Option Addr} {ln cp rb:Nat→Nat} {cl:Nat→List Cl} (hC:InS W p b o n pc ln cp rb cl) :
 ∃ M last o w' t',runNT Tryd.prog (M+1) (solo (G (Frame.enter Tryd.prog 14 #[.slice sp sched.length scap,I n0,.slice p n cap] .normal) []) W) #[]=(.ended o w',t') ∧
   runN Tryd.prog M (solo (G (Frame.enter Tryd.prog 14 #[.slice sp sched.length scap,I n0,.slice p n cap] .normal) []) W)=.next last∧step Tryd.prog last=.ended o w'∧Go.Conc.Good Tryd.prog (PostT W) last o w' t':=by
 have e:Frame.enter Tryd.prog 14 #[.slice sp sched.length scap,I n0,.slice p n cap] .normal=(base 14).at { tmps:=#[.slice sp sched.length scap,I n0,.slice p n cap]++Array.replicate 264 undef,defers:=[] } [.code C14]:=enter_at (fn:=Tryd.f14) (c:=C14) _ Tryd.func14 (by rfl)
 rw [e,solo_eq_crowd]
 have A:Alone #[G ((base 14).at { tmps:=#[.slice sp sched.length scap,I n0,.slice p n cap]++Array.replicate 264 undef,defers:=[] } [.code C14]) []] W #[] (fun _=>0):=⟨leavers_one _ _,0,Nat.zero_le _,past_nil⟩
 obtain ⟨N1,gs1,a1,w1,sl1,T1,q1,r1,z1,h1,⟨bd,ad,od,qd,rd,oe,kd,⟨d1,rfl⟩,hoe,hback,rfl⟩,A1⟩:=alone_goes A rfl none (Stop:=fun g w'=>∃ (bd:Frame) (ad:Act) (od:Array Oper) (qd:Nat) (rd:List Nat) (oe:Oper) (kd:List Item),(∃ d,w'=W.at d)∧od[qd]? = some oe ∧
  (∀ (Ch:Nat→Prop) (Stop:Goroutine→World→Prop) (w1:World),(∀ a,Fl 267 [(0,.slice sp sched.length scap),(1,I n0),(2,.slice p n cap),(7,.bool true)] a→GoesI Tryd.prog true (DT (ScZ zn) Ch) Stop (G ((base 14).at a [.code P14]) []) w1)→GoesI Tryd.prog true (DT (ScZ zn) Ch) Stop (G (bd.at (ad.put oe.dst (.bool true)) (.inRegion od rd :: kd)) []) w1) ∧
  g=G ((base 51).at { tmps:=Array.replicate 28 undef,defers:=[] } [.code B51]) [bd.at ad (.inRegion od (qd :: rd) :: kd)])
  (law14_in _ _ _ (fun w' bd ad od qd rd oe kd hw ho hback=>GoesI.stop fun d=>⟨bd,ad,od,qd,rd,oe,kd,by obtain ⟨d0,rfl⟩:=hw;exact ⟨d,rfl⟩,ho,hback,rfl⟩))
 obtain ⟨N2,gs2,w2,sl2,T2,q2,r2,h2,A2,g2⟩:=cawake_all hoe sl1 A1 (w:=W.at d1) (show Gl (W.at d1) from ⟨hGl.a,hGl.b⟩) h1
 have g2':Grows W w2:=⟨g2.size,g2.old,g2.os,g2.output⟩
 have hS2:=hS.grows g2'
 have hC2:=hC.grows g2'
 obtain ⟨N3,gs3,a3,w3,sl3,T3',q3,r3,z3,h3,⟨wb,bk,sc,bd,ad,od,qd,rd,oe,kd,hnew,hoe3,hend3,rfl⟩,A3⟩:=alone_goes A2 h2 sl2 (Stop:=fun g w'=>∃ (wb bk:Nat) (sc:Value) (bd:Frame) (ad:Act) (od:Array Oper) (qd:Nat) (rd:List Nat) (oe:Oper) (kd:List Item),IsNew w2 sched wb bk sc w'∧od[qd]? = some oe ∧
  (∀ (Ch:Nat→Prop) (Stop:Goroutine→World→Prop) (w2:World) (A:Value) (E:Int),(∀ a,Fl 267 [(1,I n0),(2,.slice p n cap),(7,.bool true),(8,Pt wb 0),(9,A),(10,I E)] a→GoesI Tryd.prog true (DT (ScZ zn) Ch) Stop (G ((base 14).at a [.code T14]) []) w2) →
    GoesI Tryd.prog true (DT (ScZ zn) Ch) Stop (G (bd.at (ad.put oe.dst (.tuple #[A,I E])) (.inRegion od rd :: kd)) []) w2) ∧
  g=G ((base 52).at { tmps:=#[Pt wb 0,I n0,.slice p n cap]++Array.replicate 25 undef,defers:=[] } [.code B52]) [bd.at ad (.inRegion od (qd :: rd) :: kd)])
  (hback (fun _=>False) _ w2 (law14_b sp scap sb so sched hS2.at_ hS2.len hS2.cell _ _ (Rel.refl w2) (fun c hc=>hc.elim) (fun v' w' wb bk sc bd ad od qd rd oe kd hr hn hnew ho hend=>GoesI.stop fun d=>⟨wb,bk,sc,bd,ad,od,qd,rd,oe,kd,by
    have e:(w'.at d).heap=v'.heap:=hr.eq
    have hgr:Grows v' (w'.at d):=⟨by rw [e];exact Nat.le_refl _,fun b _=>by rw [e],hr.os,hr.output⟩
    refine ⟨(hnew.mem.grows hgr).mem,?_,hnew.new,⟨by rw [e];exact hnew.old.size,fun b hb=>by rw [e];exact hnew.old.old b hb,hr.os.trans hnew.old.os,hr.output.trans hnew.old.output⟩⟩
    obtain ⟨c,m,h⟩:=hnew.opn
    exact ⟨c,m,by rw [e];exact h⟩,ho,hend,rfl⟩)))
 have g3:Grows W w3:=g2'.trans' hnew.old
 have hC3:=hC2.grows hnew.old
 have fin:∀ (N4:Nat) (gs4:Array Goroutine) (w4:World) (sl4:Option (Nat×Nat)) (T14:Trace) (q4:Nat→Nat) (a4:Goroutine),runNT Tryd.prog N4 (crowd gs3 w3 sl3) T3'=(.next (crowd gs4 w4 sl4),T14)→gs4[0]? = some a4→Alone gs4 w4 T14 q4→(∃ a' todo,a'.defers=[]∧a'.tmps.getD 6 undef=.bool true∧Grows W w4∧a4=G { (base 14).at a' todo with mode:=.returning } []) →
  ∃ M last o w' t',runNT Tryd.prog (M+1) (crowd #[G ((base 14).at { tmps:=#[.slice sp sched.length scap,I n0,.slice p n cap]++Array.replicate 264 undef,defers:=[] } [.code C14]) []] W none) #[]=(.ended o w',t')∧runN Tryd.prog M (crowd #[G ((base 14).at { tmps:=#[.slice sp sched.length scap,I n0,.slice p n cap]++Array.replicate 264 undef,defers:=[] } [.code C14]) []] W none)=.next last∧step Tryd.prog last=.ended o w'∧Go.Conc.Good Tryd.prog (PostT W) last o w' t':=by
  intro N4 gs4 w4 sl4 T14 q4 a4 r4 h4 A4 ⟨a',todo,hd,h6,g4,ea⟩
  subst ea
  obtain ⟨M5,last,o,w',t',e1,e2,e3,e4⟩:=alone_ends A4 h4 sl4 (Post:=PostT W) (fun B d=>⟨rfl,.bool true,#[],end14 hd h6,fun e he=>by simp at he,rfl,⟨g4.size,g4.old,g4.os,g4.output⟩⟩)
  have hrun:=runNT_then (runNT_then (runNT_then r1 r2) r3) r4
  refine ⟨N1+N2+N3+N4+M5,last,o,w',t',?_,?_,e3,e4⟩
  ·rw [Nat.add_assoc,runNT_add,hrun];exact e1
  ·rw [runN_add,←runNT_fst Tryd.prog _ _ #[],hrun];exact e2
 by_cases hyes:(∀ k,k<n→ln k≤64)∧(0<n∧n≤8)∧1≤n0∧n0≤16
 ·obtain ⟨h64,hn8,hx0,hx1⟩:=hyes
  obtain ⟨s,rfl⟩:∃ s:Nat,n0=(s:Int):=⟨n0.toNat,by omega⟩
  have hs0:0<s:=by omega
  have hs1:s≤16:=by omega
  have hl64:∀ j,j<n→(cl j).length≤64:=fun j hj=>by rw [hC.len j hj];exact h64 j hj
  have hlens:∀ caps pk N K,lens (scrs (mcC s) 86 caps pk N n K pc ln cp rb cl)≤512:=fun caps pk N K=>Nat.le_trans (lens_scrs _ _ _ _ _ _ _ _ _ _ _ _ hl64) (by omega)
  have hpp:=hC.at_ hn8.1
  subst hpp
  have hG3:=hGl.grows g3
  have hGlt:=hGl.lt
  have hpf:∀ b,glP w3 b≠none→¬ Own (newS wb bk w2.heap.size sc sched) [] b∧b≠(newS wb bk w2.heap.size sc sched).bk:=fun b hb=>by
   have hb':=glP_in hb
   have hs2:=g2'.size
   exact ⟨fun h=>by have:=hnew.new b (.inl h);omega,fun h=>by have:=hnew.new b (.inr h);omega⟩
  have hcs:((List.range n).map fun i=>(cl i).length).sum≤512:=by
   have h1:∀ k,k≤n→((List.range k).map fun i=>(cl i).length).sum≤64*k:=fun k=>by
    induction k with
    |zero=>intro _;simp
    |succ k ih =>
     intro hk
     rw [List.range_succ,List.map_append,List.sum_append]
     have h2:=ih (by omega)
     have h3:=hl64 k (by omega)
     simp only [List.map_cons,List.map_nil,List.sum_cons,List.sum_nil,Nat.add_zero]
     omega
   have:=h1 n (Nat.le_refl _)
   omega
  obtain ⟨N4,gs4,w4,sl4,T4',q4,caps,pk,N,cv,K,S',S1,l1,m,p',r4,z4,h4,A4,hK,hnv,hH,hT,O⟩:=cplay_all s hs0 hs1 (S:=newS wb bk w2.heap.size sc sched) (n:=n) (sb:=b) (so:=o) (cap:=cap) (pc:=pc) (ln:=ln) (cp:=cp) (rb:=rb) (cl:=cl) hoe3 sl3 320000 A3 h3 hnew.mem rfl rfl rfl hnew.opn (glP_gf hG3) (glP_has w3) hpf (glP_row hG3) (asked_of hC2 hnew h64 hn8.1) hn8 (fun caps pk N K=>by
   have:=hlens caps pk N K
   show 0+2*_≤1000000
   omega) (by have:=hS.len;show sched.length≤_;omega) (fun x hx=>hS.inr x hx) (fun _=>.done []) (fun caps pk N cv K hK S1 l1 hH=>Mf.play_ends (metC s hs0 hs1) hH rfl (by rw [scrs_len];exact hn8.2) (hlens caps pk N K) (Nat.le_refl _) rfl)
  obtain ⟨v,t1,t2,t3,t4,hI,_⟩:=ctr_run (n:=n) (cl:=cl) hs0 hs1 (scrs_len _ _ _ _ _ _ _ _ _ _ _ _) hn8.2 hcs (by unfold scrs;rw [List.map_map];rfl) (fun x hx=>by
   simp only [scrs,List.mem_map,List.mem_range'] at hx
   obtain ⟨j,⟨i,hi,rfl⟩,rfl⟩:=hx
   show List.replicate (ln (0+1*i)) (0,0)=List.replicate (cl (0+1*i)).length (0,0)
   rw [hC.len _ (by omega)]) rfl rfl rfl rfl hK hH hT
  have hsm:=Mf.play_small (metC s hs0 hs1) hH hT rfl (by rw [scrs_len];exact hn8.2) (hlens caps pk N _) (Nat.le_refl _) rfl
  have hSn:S'.n=v.L.length:=by have:=congrArg TS.n hnv;exact this.trans t2
  have hStr:S'.tr=flat v.L:=by have:=congrArg TS.tr hnv;exact this.trans t1
  have hSk:S'.stk=false:=by have:=congrArg TS.stk hnv;exact this.trans t3
  have hSw:S'.wb=wb:=by
   have h5:=congrArg TS.wb hnv
   have h6:=(turns_wb hT).trans (hires_wb hH)
   exact h5.trans h6
  have hn1:S'.n≤400000:=by
   have:S'.n=p'.S.n:=by have:=congrArg TS.n hnv;exact this
   omega
  have hg34:∀ b,b<w2.heap.size→w4.heap[b]? = w3.heap[b]?:=fun b hb=>by
   have hs:=hnew.old.size
   exact (O.old b (by omega) (fun h=>by have:=hnew.new b (.inl h);omega) (fun h=>by have:=hnew.new b (.inr h);omega)).1
  have hgW:Grows W w4:=⟨by have:=g3.size;have:=O.size;omega,fun b hb=>by rw [hg34 b (by have:=g2'.size;omega)];exact g3.old b hb,O.os.trans g3.os,O.out.trans g3.output⟩
  have hC14:=hC.grows hgW
  subst hSw
  have hal:∀ j,j<n→(p'.l j).ans.length=ln j:=fun j hj=>(O.ans j hj).1
  have hSL:SL n b o ln cp rb (fun j=>roOf (pc j)) pc cl w4:=⟨hC14.len,hC14.row,hC14.pq,hC14.call⟩
  have hAL:AL n (N+1) (fun j=>N+4+3*j+2) ln p'.l w4:=⟨O.rows,hal,fun k hk j q hq=>by
   have hj:=(List.getElem?_eq_some_iff.1 hq).1
   have hpos:0<ln k:=by have:=hal k hk;omega
   have:=arow_get _ _ _ hq
   exact ⟨cell_of ((O.ans k hk).2.1 hpos) (by rw [List.getElem?_toArray];exact this.1),cell_of ((O.ans k hk).2.1 hpos) (by rw [List.getElem?_toArray];exact this.2)⟩⟩
  obtain ⟨N5,gs5,a5,w5,sl5,T5,q5,r5,z5,h5,hs5,A5⟩:=alone_goes A4 h4 sl4 (hend3 (fun _=>False) (fun g w'=>∃ a' todo,a'.defers=[]∧a'.tmps.getD 6 undef=.bool true∧Grows W w'∧g=G { (base 14).at a' todo with mode:=.returning } []) w4 _ 0 (fun a hA=>law14_yes (v:=w4) (S:=S') hs1 hn8.2 hSL hAL O.mem.rep hSk hStr hSn hn1 (t4▸hI.ends) (Rel.refl w4) (fun c hc=>hc.elim) (show Fl 267 [(7,.bool true),(10,I 0),(1,I (s:Nat)),(2,.slice (some ⟨b,o,none⟩) n cap),(8,Pt S'.wb 0),(9,.slice (some ⟨N+1,0,none⟩) n n)] a from hA.sub (by simp)) (fun a' v' w' todo hr hgr hd h6=>GoesI.stop fun d=>⟨a',todo,hd,h6,by
   have e:(w'.at d).heap=v'.heap:=hr.eq
   have:=hgW.trans' hgr
   exact ⟨by rw [e];exact this.size,fun b hb=>by rw [e];exact this.old b hb,hr.os.trans this.os,hr.output.trans this.output⟩,rfl⟩)))
  exact fin _ gs5 w5 sl5 T5 q5 a5 (runNT_then r4 r5) h5 A5 hs5
 ·obtain ⟨E,hE0,hE⟩:∃ E:Int,¬ E=0∧(Refused n ln E∨((∀ k,k<n→ln k≤64)∧(0<n∧n≤8)∧(n0<1∨16<n0)∧E=1)):=by
   by_cases h64:∀ k,k<n→ln k≤64
   ·by_cases hn8:0<n∧n≤8
    ·refine ⟨1,by decide,.inr ⟨h64,hn8,?_,rfl⟩⟩
     have:¬ (1≤n0∧n0≤16):=fun h=>hyes ⟨h64,hn8,h⟩
     omega
    ·exact ⟨1,by decide,.inl (.inr ⟨h64,by omega,rfl⟩)⟩
   ·refine ⟨2,by decide,.inl (.inl ⟨?_,rfl⟩)⟩
    simp only [Classical.not_forall] at h64
    obtain ⟨k,hk,hk2⟩:=h64
    exact ⟨k,hk,by omega⟩
  obtain ⟨N5,gs5,a5,w5,sl5,T5,q5,r5,z5,h5,hs5,A5⟩:=alone_goes A3 h3 sl3 (Stop:=fun g w'=>∃ a' todo,a'.defers=[]∧a'.tmps.getD 6 undef=.bool true∧Grows W w'∧g=G { (base 14).at a' todo with mode:=.returning } []) (cplay_no (S:=newS wb bk w2.heap.size sc sched) (v:=w3) n0 p n cap pc ln cp (fun k hk=>⟨b,o,hC3.at_ (by omega),hC3.row k hk⟩) hC.n rfl hnew.mem hE [] hoe3 (Rel.refl w3) (fun c hc=>hc.elim) (fun v' w' hr hn e1 e2 e3=>hend3 (fun _=>False) _ w' _ E (fun a hA=>law14_no hE0 hr hn (show Fl 267 [(7,.bool true),(10,I E)] a from hA.sub (by simp)) (fun a' v'' w'' todo hr' hgr hd h6=>GoesI.stop fun d=>⟨a',todo,hd,h6,by
   have e:(w''.at d).heap=v''.heap:=hr'.eq
   have:Grows W v':=⟨by rw [e1];exact g3.size,fun b hb=>by rw [e1];exact g3.old b hb,e2.trans g3.os,e3.trans g3.output⟩
   have:=this.trans' hgr
   exact ⟨by rw [e];exact this.size,fun b hb=>by rw [e];exact this.old b hb,hr'.os.trans this.os,hr'.output.trans this.output⟩,rfl⟩))))
  exact fin _ gs5 w5 sl5 T5 q5 a5 r5 h5 A5 hs5
end Go.Proofs.YtfjjoohflcchnaaDoor.Gen
namespace Go.Proofs.YtfjjoohflcchnaaDoor.Gen
open Go Go.Lift Go.Conc
open Go.ChangeShapes Go.WideShapes Go.ChangeAt Go.RowKit Go.Joins Go.Deep
theorem op_knob:ownKnob Tryd.prog.godebug=none:=by kernel_rfl
theorem op_cells3:Tryd.prog.cellsOf 3=1:=by kernel_rfl
theorem op_cells39:Tryd.prog.cellsOf 35=4:=by kernel_rfl
theorem op_cells37:Tryd.prog.cellsOf 33=1:=by kernel_rfl
theorem op_bytes3:Tryd.prog.bytesOf 3=8:=by kernel_rfl
theorem op_bytes37:Tryd.prog.bytesOf 33=24:=by kernel_rfl
def clV (c:Cl):List Value:=[I c.po,I c.ca,I c.cb,I c.cc]
theorem inr_of {n:Int} (h:(Lit.int .i64 n).wf=true):InR n:=by
 have:=bounds_i64 h
 unfold InR
 omega
section
variable {H:Type} {enc:TypeId×Value→H} {w:World}
theorem ints_in {r:Reach} {b0:Nat} {v:Value} {d:DataW H} {ps:List MemPlace} (hv:Value.okWide Tryd.prog w r b0 22 v) (h:DataW.Trod enc Tryd.prog w 0 (fun _=>true) true 22 v d ps) (hsz:∀ elems spare,d=.slice elems spare→(elems.length+spare.length)*Tryd.prog.bytesOf 3≤reachBytes) :
 ∃ (p:Option Addr) (cap b o:Nat) (xs:List Int),v=.slice p xs.length cap∧InI w p b o xs:=by
 obtain ⟨a0,len0,cap0,rfl⟩:=okWide_slice Tryd.underlying22 hv
 obtain ⟨fuel,hf⟩:=h
 rcases open_ints Tryd.underlying22 Tryd.underlying3 op_cells3 hf with ⟨hcs,_⟩|⟨x,l,c,zs,hcs,_,hl,hm,hz,hx,hcell,hwf⟩
 ·simp [Value.cells] at hcs
  obtain ⟨rfl,rfl,rfl⟩:=hcs
  exact ⟨none,0,0,0,[],rfl,⟨fun h=>by simp at h,fun k x hk=>by simp at hk,fun x hx=>by simp at hx,Nat.zero_le _⟩⟩
 ·simp [Value.cells] at hcs
  obtain ⟨rfl,rfl,rfl⟩:=hcs
  have hz':zs.length=cap0:=by simpa using hz
  have ht:(zs.take len0).length=len0:=by rw [List.length_take];omega
  have hb:=hsz _ _ (congrArg Prod.fst hx)
  have hlz:∀ (k:IntKind) (l:List Int),(ChangeShapes.lits (H:=H) k l).length=l.length:=fun k l=>by simp [ChangeShapes.lits]
  rw [op_bytes3,hlz,hlz,ht] at hb
  have hlen:len0≤17592186043904:=by unfold reachBytes at hb;omega
  obtain ⟨b,off,spot⟩:=x
  by_cases h0:len0=0
  ·subst h0
   exact ⟨_,_,0,0,[],rfl,⟨fun h=>by simp at h,fun k x hk=>by simp at hk,fun x hx=>by simp at hx,Nat.zero_le _⟩⟩
  ·have hspot:spot=none:=by simpa [Addr.add] using World.cell?_spot (hcell 0 (by omega))
   subst hspot
   refine ⟨_,_,b,off,zs.take len0,by rw [ht],⟨fun _=>rfl,fun i a hi=>?_,fun x hx=>inr_of (hwf x (List.mem_of_mem_take hx)),by rw [ht];exact hlen⟩⟩
   have hil:i<len0:=by have:=(List.getElem?_eq_some_iff.1 hi).1;omega
   have hc:=hcell i (by omega)
   have hadd:(⟨b,off,none⟩:Addr).add i=⟨b,off+i,none⟩:=by unfold Addr.add;split<;>simp_all
   rw [hadd] at hc
   have ha:zs.getD i 0=a:=by
    rw [List.getElem?_take_of_lt hil] at hi
    rw [List.getD_eq_getElem?_getD,hi]
    rfl
   rw [ha] at hc
   exact hc
theorem clV_open:∀ fuel cs (y:DataW H×List MemPlace),cs.length=4→DataW.trod enc Tryd.prog w 0 (fun _=>true) true fuel 35 cs=some y→∃ a,cs=clV a∧InR a.ca∧a.ok:=by
 intro fuel cs y hl h
 obtain ⟨xs,k,hk,hxy,_,hxl,hf⟩:=DataW.trod_struct Tryd.underlying35 h
 match xs,hxl,cs,hl with
 | [y0,y1,y2,y3],_,[c0,c1,c2,c3],_ =>
  have g0:=hf 0 _ rfl
  have g1:=hf 1 _ rfl
  have g2:=hf 2 _ rfl
  have g3:=hf 3 _ rfl
  simp [op_cells3] at g0 g1 g2 g3
  obtain ⟨a0,e0,_,f0⟩:=DataW.trod_int Tryd.underlying3 g0
  obtain ⟨a1,e1,_,f1⟩:=DataW.trod_int Tryd.underlying3 g1
  obtain ⟨a2,e2,_,f2⟩:=DataW.trod_int Tryd.underlying3 g2
  obtain ⟨a3,e3,_,f3⟩:=DataW.trod_int Tryd.underlying3 g3
  simp at e0 e1 e2 e3
  subst e0 e1 e2 e3
  exact ⟨⟨a0,a1,a2,a3⟩,rfl,inr_of f1,inr_of f2,inr_of f3⟩
def Sc (w:World) (v:Value) (q:Option Addr×Nat×Nat×List Cl):Prop :=
 v=.slice q.1 q.2.2.2.length q.2.1∧(0<q.2.2.2.length→q.1=some ⟨q.2.2.1,roOf q.1,none⟩)∧(∀ (k:Nat) (c:Cl),q.2.2.2[k]? = some c→w.cell? ⟨q.2.2.1,roOf q.1+k*4,none⟩=some (I c.po)∧w.cell? ⟨q.2.2.1,roOf q.1+k*4+1,none⟩=some (I c.ca)∧w.cell? ⟨q.2.2.1,roOf q.1+k*4+2,none⟩=some (I c.cb)∧w.cell? ⟨q.2.2.1,roOf q.1+k*4+3,none⟩=some (I c.cc))∧∀ c∈q.2.2.2,InR c.ca∧c.ok
theorem script_in {fuel:Nat} {cs:List Value} {y:DataW H×List MemPlace} (h:DataW.trod enc Tryd.prog w 0 (fun _=>true) true fuel 33 cs=some y):∃ v q,cs=[v]∧Sc w v q:=by
 rcases open_slice Tryd.underlying33 h with ⟨hcs,hx⟩|⟨ad,len,cap,m,k,D,Pl,hcs,_,hl,hm,hmm,hxe,hx⟩
 ·exact ⟨_,(none,0,0,[]),hcs,rfl,fun h=>by simp at h,fun k c h=>by simp at h,fun c hc=>by simp at hc⟩
 ·simp only [if_true] at hmm
  subst hmm
  have each:∀ i,i<len→∃ a:Cl,(∀ j,j<4→w.cell? ((ad.add (i*4)).add j)=(clV a)[j]?)∧InR a.ca∧a.ok:=by
   intro i hi
   obtain ⟨cs',h1,h2⟩:=hx i (by omega)
   rw [op_cells39] at h1
   obtain ⟨_,hlen,hc⟩:=World.cells?_some h1
   obtain ⟨a,rfl,ha⟩:=clV_open _ _ _ hlen h2
   exact ⟨a,hc,ha⟩
  have ie:Inhabited Cl:=⟨⟨0,0,0,0⟩⟩
  obtain ⟨q,hq⟩:=choose_lt each
  obtain ⟨b,off,spot⟩:=ad
  by_cases h0:len=0
  ·subst h0
   exact ⟨_,(some ⟨b,off,spot⟩,m,0,[]),hcs,rfl,fun h=>by simp at h,fun k c h=>by simp at h,fun c hc=>by simp at hc⟩
  ·have c01:w.cell? (((⟨b,off,spot⟩:Addr).add (0*4)).add 0)=some (I (q 0).po):=(hq 0 (by omega)).1 0 (by omega)
   have hspot:spot=none:=by
    have:=World.cell?_spot c01
    simpa [Addr.add] using this
   subst hspot
   have hadd:∀ (o j:Nat),(⟨b,o,none⟩:Addr).add j=⟨b,o+j,none⟩:=by intro o j;unfold Addr.add;split<;>simp_all
   refine ⟨_,(some ⟨b,off,none⟩,m,b,(List.range len).map q),hcs,?_,fun _=>rfl,fun i a hi=>?_,fun c hc=>?_⟩
   ·simp
   ·have hil:i<len:=by simpa using (List.getElem?_eq_some_iff.1 hi).1
    have ha:a=q i:=by simp [hil] at hi;exact hi.symm
    subst ha
    have k0:=(hq i hil).1 0 (by omega)
    have k1:=(hq i hil).1 1 (by omega)
    have k2:=(hq i hil).1 2 (by omega)
    have k3:=(hq i hil).1 3 (by omega)
    rw [hadd,hadd] at k0 k1 k2 k3
    exact ⟨k0,k1,k2,k3⟩
   ·obtain ⟨i,hi,rfl⟩:=List.mem_map.1 hc
    exact (hq i (List.mem_range.1 hi)).2
theorem scripts_in {r:Reach} {b0:Nat} {v:Value} {d:DataW H} {ps:List MemPlace} (hv:Value.okWide Tryd.prog w r b0 23 v) (h:DataW.Trod enc Tryd.prog w 0 (fun _=>true) true 23 v d ps) (hsz:∀ elems spare,d=.slice elems spare→(elems.length+spare.length)*Tryd.prog.bytesOf 33≤reachBytes) :
 ∃ (p:Option Addr) (b o n cap:Nat) (pc:Nat→Option Addr) (ln cp rb:Nat→Nat) (cl:Nat→List Cl),v=.slice p n cap∧InS w p b o n pc ln cp rb cl:=by
 obtain ⟨a0,len0,cap0,rfl⟩:=okWide_slice Tryd.underlying23 hv
 obtain ⟨fuel,hf⟩:=h
 have nothing:∀ p cap,∃ (p':Option Addr) (b o n cap':Nat) (pc:Nat→Option Addr) (ln cp rb:Nat→Nat) (cl:Nat→List Cl),(Value.slice p 0 cap)=.slice p' n cap'∧InS w p' b o n pc ln cp rb cl:=fun p cap =>
  ⟨p,0,0,0,cap,fun _=>none,fun _=>0,fun _=>0,fun _=>0,fun _=>[],rfl,⟨fun h=>by omega,fun k hk=>by omega,fun k hk=>by omega,fun k hk=>by omega,fun k hk=>by omega,fun k hk=>by omega,Nat.zero_le _⟩⟩
 rcases open_slice Tryd.underlying23 hf with ⟨hcs,_⟩|⟨ad,len,cap,m,k,D,Pl,hcs,_,hl,hm,hmm,hxe,hx⟩
 ·simp [Value.cells] at hcs
  obtain ⟨rfl,rfl,rfl⟩:=hcs
  exact nothing _ _
 ·simp [Value.cells] at hcs
  obtain ⟨rfl,rfl,rfl⟩:=hcs
  simp only [if_true] at hmm
  subst hmm
  have hb:=hsz _ _ (congrArg Prod.fst hxe)
  rw [op_bytes37] at hb
  simp only [List.length_map,List.length_range] at hb
  have hlen:len0≤17592186043904:=by unfold reachBytes at hb;omega
  have each:∀ i,i<len0→∃ q:Option Addr×Nat×Nat×List Cl,∃ v,w.cell? ((ad.add (i*1)).add 0)=some v∧Sc w v q:=by
   intro i hi
   obtain ⟨cs',h1,h2⟩:=hx i (by omega)
   rw [op_cells37] at h1
   obtain ⟨_,hlen,hc⟩:=World.cells?_some h1
   obtain ⟨v,q,rfl,hq⟩:=script_in h2
   exact ⟨q,v,hc 0 (by omega),hq⟩
  have ie:Inhabited (Option Addr×Nat×Nat×List Cl):=⟨(none,0,0,[])⟩
  obtain ⟨q,hq⟩:=choose_lt each
  obtain ⟨b,off,spot⟩:=ad
  by_cases h0:len0=0
  ·subst h0
   exact nothing _ _
  ·obtain ⟨v0,hv0,_⟩:=hq 0 (by omega)
   have hspot:spot=none:=by
    have:=World.cell?_spot hv0
    simpa [Addr.add] using this
   subst hspot
   have hadd:∀ (o j:Nat),(⟨b,o,none⟩:Addr).add j=⟨b,o+j,none⟩:=by intro o j;unfold Addr.add;split<;>simp_all
   refine ⟨some ⟨b,off,none⟩,b,off,len0,_,fun i=>(q i).1,fun i=>(q i).2.2.2.length,fun i=>(q i).2.1,fun i=>(q i).2.2.1,fun i=>(q i).2.2.2,rfl,⟨fun _=>rfl,fun i hi=>?_,fun _ _=>rfl,fun i hi h=>?_,fun i hi k c hc=>?_,fun i hi c hc=>?_,hlen⟩⟩
   ·obtain ⟨v,h1,h2⟩:=hq i hi
    rw [hadd,hadd,Nat.mul_one,h2.1] at h1
    exact h1
   ·obtain ⟨v,h1,h2⟩:=hq i hi
    exact h2.2.1 h
   ·obtain ⟨v,h1,h2⟩:=hq i hi
    exact h2.2.2.1 k c hc
   ·obtain ⟨v,h1,h2⟩:=hq i hi
    exact h2.2.2.2 c hc
end
theorem grows_frame {W w':World} (h:Grows W w') (may:MemPlace→Prop):W.keptBut w' may:=by
 refine ⟨h.os,h.output,fun i hi=>?_⟩
 rw [h.old i hi]
 split<;>simp_all
theorem grows_same {W w':World} (h:Grows W w') {p:MemPlace} (hp:p.block<W.heap.size):W.sameAt w' p:=by
 cases p with
 |cell b o=>exact World.cell?_of_block (w:=W) (h.old b hp)
 |map b=>exact h.old b hp
theorem op_laid:laidOutB Tryd.prog=true:=by kernel_rfl
theorem grows_trod {H:Type} {enc:TypeId×Value→H} {t:TypeId} (hr:Tryd.prog.readableRec t=true) (hrow:t<Tryd.prog.types.size) {W W':World} {v:Value} {d:DataW H} {ps:List MemPlace}
 (h:DataW.Trod enc Tryd.prog W 0 (fun _=>true) true t v d ps) (hb:Grows W W') (hlt:∀ x∈ps,x.block<W.heap.size) :
 DataW.Trod enc Tryd.prog W' 0 (fun b=>decide (b<W.heap.size)) true t v d ps :=
 WideElems.Trod_stays op_laid hr hrow h (fun x hx=>grows_same hb (hlt x hx)) (fun x hx=>by simpa using hlt x hx)
end Go.Proofs.YtfjjoohflcchnaaDoor.Gen
namespace Go.Proofs.YtfjjoohflcchnaaDoor
open Go Go.Lift Go.Conc
open Go.ChangeShapes Go.WideShapes Go.ChangeAt Go.RowKit Go.Joins Go.Deep
open Gen
section
variable {H:Type} {enc:TypeId×Value→H}
theorem leaving_and {a:Assume} {C:Checked} {os:Os} {f:FuncId} {fn:Func} {s:ChangeSpec} {X:World→Array Value→Prop}
 (hX:∀ (w w':World) (args:Array Value),w.heap=w'.heap→X w args→X w' args)
 (own:ownKnob C.prog.godebug=none) (started:os.Started) (hfn:C.prog.funcs[f]? = some fn)
 (wit:∃ (w:World) (tape:Tape) (i:Input),w.os=os∧(w.forCall tape i).Shaped C.prog∧i.vars=[]∧Input.okWide C.prog (w.forCall tape i) .any w.heap.size f i ∧
   ((s.pre enc C.prog fn [] false (w.forCall tape i).memory i.args∧X (w.forCall tape i).memory i.args)∧sizedMet enc C.prog fn (OpenSpec.ofChange s) false (w.forCall tape i).memory i.args)∧a.holds C.prog (lone (Frame.enter C.prog f i.args .normal) [] (w.forCall tape i)))
 (runs:∀ (W:World) (base:Nat) (args:Array Value) (ds gs:List (DataW H)) (before:List MemPlace),
   (∀ (j:Nat) t v,fn.params[j]? = some t→args[j]? = some v→Value.okWide C.prog W .any base t v) →
   DataW.Whole enc C.prog fn.params.toList s.vars false W args.toList ds gs before →
   (DataW.weightsEach C.prog (fn.params.toList++s.plain.varTypes C.prog) (ds++gs)).all (·≤reachBytes)=true→X W args →
   ∃ M last o w' t',runNT C.prog (M+1) (solo (G (Frame.enter C.prog f args .normal) []) W) #[]=(.ended o w',t')∧runN C.prog M (solo (G (Frame.enter C.prog f args .normal) []) W)=.next last ∧
     step C.prog last=.ended o w'∧Conc.Good C.prog (fun v W'=>s.post enc C.prog fn false true false false W args v W') last o w' t') :
 ReturnsInLeavingWide a C os f .any (fun w args=>(s.pre enc C.prog fn [] false w args∧X w args)∧sizedMet enc C.prog fn (OpenSpec.ofChange s) false w args) (s.post enc C.prog fn false true false false):=by
 refine returnsInLeavingWide_of_good own started wit ?_
 intro w tape i _ _ _ hok hpre _
 obtain ⟨_,_,_,fn',hfn',_,_,_,_,hval⟩:=hok
 have e:fn'=fn:=Option.some.inj (hfn'.symm.trans hfn)
 subst e
 obtain ⟨⟨⟨ds,gs,before,hw,hc⟩,hx⟩,hz⟩:=hpre
 have hw':=DataW.Whole.of_heap (w':=w.forCall tape i) (by rfl) hw
 obtain ⟨M,last,o,w',t',h1,h2,h3,h4⟩:=runs (w.forCall tape i) w.heap.size i.args ds gs before hval hw' (hz.weights hw) (hX _ _ _ (by rfl) hx)
 exact ⟨M,last,o,w',t',h1,h2,h3,h4.mono fun v hp=>ChangeSpec.post_blind hp⟩
end
theorem fieldT6:(Tryd.prog.globals[6]?).map (·.type)=some 124:=by kernel_rfl
theorem fieldT7:(Tryd.prog.globals[7]?).map (·.type)=some 124:=by kernel_rfl
theorem cells110:Tryd.prog.cellsOf 124=2:=by kernel_rfl
theorem field_open {w:World} {fuel:Nat} {cs:List Value} {x y:Int} {p:List MemPlace} (h:DataW.trod (fun _=>()) Tryd.prog w 0 (fun _=>true) false fuel 124 cs=some (.agg [.lit (.int .i64 x),.lit (.int .i64 y)],p)):cs=[I x,I y]:=by
 obtain ⟨xs,k,hk,hxy,hl,hxl,hf⟩:=DataW.trod_struct Tryd.underlying124 h
 rw [cells110] at hl
 match xs,hxl,cs,hl with
 | [y0,y1],_,[c0,c1],_ =>
  have g0:=hf 0 _ rfl
  have g1:=hf 1 _ rfl
  simp [op_cells3] at g0 g1
  obtain ⟨a0,e0,f0,_⟩:=DataW.trod_int Tryd.underlying3 g0
  obtain ⟨a1,e1,f1,_⟩:=DataW.trod_int Tryd.underlying3 g1
  simp at e0 e1
  subst e0 e1 f0 f1
  simp at hxy
  obtain ⟨⟨rfl,rfl⟩,_⟩:=hxy
  rfl
theorem var_row {w:World} {n:String} {g:Nat} {cs:Array Value} (hg:Tryd.prog.globalNamed n=some g) (h:w.var? Tryd.prog n=some cs):∃ t f,w.heap[g]? = some (.cells cs t f):=by
 simp only [World.var?,hg,Option.bind_some] at h
 split at h
 ·rename_i c t f e
  cases h
  exact ⟨t,f,e⟩
 ·cases h
abbrev laidC : List (String × DataW Unit) := [("butler/counter.fieldAmount", Rows.laid_butler_counter_fieldAmount), ("butler/counter.fieldVersion", Rows.laid_butler_counter_fieldVersion)]
theorem gA : Tryd.prog.globalNamed "butler/counter.fieldAmount" = some 6 := by kernel_rfl
theorem gV : Tryd.prog.globalNamed "butler/counter.fieldVersion" = some 7 := by kernel_rfl
theorem gl_laid {W:World} (h:laidMetH Tryd.prog laidC W):Gl W:=by
 have h':laidMet Tryd.prog laidC W:=h
 obtain ⟨ps,hv,_,_⟩:=h'
 obtain ⟨g,t,cs,fuel,p,q,e1,e2,e3,e4,hr,rfl⟩:=hv
 obtain ⟨g',t',cs',fuel',p',q',k1,k2,k3,k4,hr',rfl⟩:=hr
 obtain rfl:=Option.some.inj (gA.symm.trans e1)
 obtain rfl:=Option.some.inj (gV.symm.trans k1)
 obtain rfl:=Option.some.inj (fieldT6.symm.trans e2)
 obtain rfl:=Option.some.inj (fieldT7.symm.trans k2)
 have f1:=field_open e4
 have f2:=field_open k4
 obtain ⟨ty,fz,r1⟩:=var_row gA e3
 obtain ⟨ty',fz',r2⟩:=var_row gV k3
 have c1:cs=#[I 0,I 32]:=by rw [←f1]
 have c2:cs'=#[I 32,I 30]:=by rw [←f2]
 subst c1 c2
 exact ⟨⟨_,_,_,r1,rfl,rfl⟩,⟨_,_,_,r2,rfl,rfl⟩⟩
noncomputable def laidW14 (os:Os):World:=World.laidAll Tryd.prog os laidC
theorem laidW14_met (os:Os) (args:Array Value):laidMetH Tryd.prog laidC ((laidW14 os).forCall (fun _ _=>0) ⟨#[],args,[]⟩).memory:=laidMet_laidAll (laid:=laidC) args (by kernel_rfl) (by kernel_rfl)
theorem counterTimes_lifted (os:Os) (started:os.Started) (H:Type) (enc:TypeId×Value→H) :
 ReturnsInLeavingWide {} Tryd.checked os 14 .any (fun w args=>(Rows.counterTimesSpec.pre enc Tryd.prog Tryd.f14 [] false w args∧laidMetH Tryd.prog laidC w)∧sizedMet enc Tryd.prog Tryd.f14 (OpenSpec.ofChange Rows.counterTimesSpec) false w args) (Rows.counterTimesSpec.post enc Tryd.prog Tryd.f14 false true false false):=by
 refine leaving_and (C:=Tryd.checked) (X:=fun w _=>laidMetH Tryd.prog laidC w) (fun _ _ _ hh h=>laidMet.of_heap (l:=laidC) hh h) op_knob started Tryd.func14
  (ChangeSpec.witness_at (enc:=enc) (C:=Tryd.checked) (os:=os) (X:=fun w _=>laidMetH Tryd.prog laidC w) false (laidW14 os) #[.slice none 0 0,.int .i64 0,.slice none 0 0] 8 (World.laidAll_os _ _ _) (by kernel_rfl) (by kernel_rfl) (by kernel_rfl) (by kernel_rfl) (by kernel_rfl) (laidW14_met os _)) ?_
 intro W base args ds gs before hval0 hW hsz0 hL
 have hval:∀ (j:Nat) t v,Tryd.f14.params[j]? = some t→args[j]? = some v→Value.okWide Tryd.prog W .any base t v:=hval0
 have hW':=hW
 obtain ⟨p,q,hA0,hV,rfl,_,_⟩:=hW
 have hA:DataW.TrodAll enc Tryd.prog W 0 (fun _=>true) true Tryd.f14.params.toList args.toList ds p:=hA0
 have hsz:(DataW.weightsEach Tryd.prog (Tryd.f14.params.toList++Rows.counterTimesSpec.plain.varTypes Tryd.prog) (ds++gs)).all (·≤reachBytes)=true:=hsz0
 rw [Tryd.params14] at hA hval hsz
 obtain ⟨v0,vs0,d0,ds0,p0,q0,hargs,rfl,rfl,h0,r0⟩:=trodAll_cons hA
 obtain ⟨v1,vs1,d1,ds1,p1,q1,rfl,rfl,rfl,h1,r1⟩:=trodAll_cons r0
 obtain ⟨v2,vs2,d2,ds2,p2,q2,rfl,rfl,rfl,h2,r2⟩:=trodAll_cons r1
 obtain ⟨rfl,rfl,rfl⟩:=trodAll_nil r2
 obtain rfl:args=#[v0,v1,v2]:=by cases args;simp_all
 obtain ⟨rfl,rfl⟩:=trodVars_none hV
 have k0:=h0
 have k1:=h1
 have k2:=h2
 have lt0:∀ x∈p0,x.block<W.heap.size:=by obtain ⟨m,hm⟩:=k0;exact DataW.trod_lt m _ _ _ hm
 have lt1:∀ x∈p1,x.block<W.heap.size:=by obtain ⟨m,hm⟩:=k1;exact DataW.trod_lt m _ _ _ hm
 have lt2:∀ x∈p2,x.block<W.heap.size:=by obtain ⟨m,hm⟩:=k2;exact DataW.trod_lt m _ _ _ hm
 obtain ⟨sp,scap,sb,so,sched,e0,hS⟩:=ints_in (hval 0 22 v0 rfl rfl) h0 (fun el sp e=>sized_slice hsz (j:=0) rfl (by rw [e];rfl) Tryd.underlying22)
 obtain ⟨x0,hx0,j1,j2,j3⟩:=open_int Tryd.underlying3 (hval 1 3 v1 rfl rfl) h1
 obtain ⟨cp0,b,o,n,cap,pc,ln,cp,rb,cl,e2,hC⟩:=scripts_in (hval 2 23 v2 rfl rfl) h2 (fun el sp e=>sized_slice hsz (j:=2) rfl (by rw [e];rfl) Tryd.underlying23)
 clear hA0 hval0 hsz0
 subst e0 hx0 e2
 simp only [List.append_nil] at hW'
 obtain ⟨M,last,o',w',t',g1,g2,g3,g4⟩:=run14 (scap:=scap) (cap:=cap) W (gl_laid hL) x0 hS hC
 refine ⟨M,last,o',w',t',g1,g2,g3,g4.mono fun v hF=>?_⟩
 obtain ⟨rfl,bel⟩:PostT W v w':=hF
 exact ⟨_,_,_,[],_,[],hW',trodAll_mk1 (shut_bool Tryd.underlying4 _),
  (trodAll_cons_mk (grows_trod (by kernel_rfl) (of_decide_eq_true (by kernel_rfl)) k0 bel lt0)
  (trodAll_cons_mk (grows_trod (by kernel_rfl) (of_decide_eq_true (by kernel_rfl)) k1 bel lt1)
  (trodAll_cons_mk (grows_trod (by kernel_rfl) (of_decide_eq_true (by kernel_rfl)) k2 bel lt2) trodAll_mk0))),rfl,grows_frame bel _,fun h=>by cases h⟩
theorem counterTimes_holds:Rows.CounterTimesSaid :=
 OpenClaim.holds_of_wide_leaving 14 Tryd.f14 rfl rfl rfl rfl rfl rfl rfl ⟨rfl,rfl,rfl,rfl,rfl⟩ rfl rfl rfl rfl rfl (by kernel_rfl) Tryd.func14 (by kernel_rfl)
  (of_decide_eq_true (by kernel_rfl)) (by unfold Func.isWrapper;first|(rw [if_pos (by decide +kernel)];kernel_rfl)|(rw [if_neg (by decide +kernel)];exact ⟨rfl,rfl⟩))
  (fun os started H enc _=>counterTimes_lifted os started H enc)
end Go.Proofs.YtfjjoohflcchnaaDoor
namespace Go.Proofs.YtfjjoohflcchnaaDoor
open Go
theorem card_goes14 {p:Pinned} {s:OpenSpec} {c:OpenClaim} {kinds:List LaidKind} {tests:Bool} {har:Bool×String} {lk:Bool} (Lk:Looks)
 (hc:c.holds p s) (hw:c.wfByText s=true) (htie:c.laidByTextAt Lk p kinds tests)
 (hst:c.start=.entering) (hnb:c.noBlocks=false∧c.again=false) (hm:p.checked.prog.mainIs=some (har.1,har.2.toList)) (hn:(!har.1&&har.2.isEmpty&&!lk)=false)
 (hl:∀ f fn,p.checked.prog.funcNamed c.func=some f→p.checked.prog.funcs[f]? = some fn→lk=p.checked.prog.looks []∧∀ (j:Nat) t,fn.params[j]? = some t→p.checked.prog.wantsStandIn t=false)
 (hg:true=c.goesBy p.checked.prog) :
 Claim7.holds p (.plain s) { stood:={ row:=c,standIns:=[],harness:=har,looks:=lk },kinds:=[],alts:=[],goes:=true,laidByText:=true,laidKinds:=kinds,laidTests:=tests,laidLooks:=Lk }:=by
 have h6:Claim7.isSixth { stood:={ row:=c,standIns:=[],harness:=har,looks:=lk },kinds:=[] }=false:=by simpa [Claim7.isSixth] using hn
 have h1:=Claim7.new_of_sixth hc har lk hst hnb hm h6 hl
 obtain ⟨_,rest⟩:=h1
 exact ⟨⟨hw,rest⟩,fun D hD=>(by cases hD),htie,(fun h=>by cases h),hg⟩
theorem counterTimes_card:Rows.CounterTimesCardSaid :=
 card_goes14 .later counterTimes_holds (by kernel_rfl) counterTimes_row_tie rfl ⟨rfl,rfl⟩ (by kernel_rfl) rfl
  (fun f fn hf hfn=>by
    obtain rfl : f = 14 := Option.some.inj ((show Tryd.prog.funcNamed "butler/butlerlaw10.CounterTimes" = some 14 by kernel_rfl).symm.trans hf) |>.symm
    obtain rfl:fn=Tryd.f14:=(Option.some.inj (Tryd.func14.symm.trans hfn)).symm
    exact ⟨by kernel_rfl,fun j t ht=>by
     rw [Tryd.params14] at ht
     have hm:t∈[22,3,23]:=by simpa using Array.mem_of_getElem? ht
     have hall:([22,3,23].all fun u=>!Tryd.prog.wantsStandIn u)=true:=by kernel_rfl
     exact (show Tryd.prog.wantsStandIn t=false by simpa using List.all_eq_true.1 hall t hm)⟩)
  (by kernel_rfl)
#print axioms counterTimes_card
end Go.Proofs.YtfjjoohflcchnaaDoor
