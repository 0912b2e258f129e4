/- Of the proof of CounterAlone. Part 20 of 21. (Joined, by program, and written short, of: La15c, La15d, CtY, SamA, GPts, CtAw1.) -/
import Derived.Test.YtfjjoohflcchnaaDoorCounterAlone12
import Derived.Test.YtfjjoohflcchnaaDoorCounterAlone13
import Derived.Test.YtfjjoohflcchnaaDoorCounterAlone17
import Derived.Test.YtfjjoohflcchnaaDoorCounterAlone18
import Derived.Test.YtfjjoohflcchnaaDoorCounterAlone19
import Derived.BigQuiet
import Derived.KernelRfl
set_option linter.unusedSimpArgs false
set_option linter.unusedVariables false
set_option maxHeartbeats 4000000
set_option maxRecDepth 100000
namespace Go.Proofs.YtfjjoohflcchnaaDoor.Gen
open Go Go.Lift Go.Conc Go.RowKit
theorem y2_wp {v:World} {a:Act} {l1 l2:Value} {n0:Int}  (hA:Fl 90 [(0,I n0),(1,l1),(2,l2),(7,.bool true)] a):y2.wp Tryd.prog (fun e a' w'=>e=.normal∧Fl 90 [(0,I n0),(1,l1),(2,l2),(7,.bool true),(8,Pt (v.heap.size+1) 0)] a'∧NwC v (shN n0) v.heap.size (shN n0) w') a v:=by
 obtain ⟨hsz,hd,hp⟩:=hA
 obtain ⟨u,rfl,hg⟩:=litN hsz hd
 simp only [List.forall_mem_cons,hg] at hp
 obtain ⟨u0,u1,u2,u7,-⟩:=hp
 clear hg hsz hd
 unfold y2 LB15 Tryd.f15 seq2 seq1
 simp only [Option.getD_some,lits,Nat.reduceAdd,u0,u1,u2,u7]
 clear u0 u1 u2 u7
 go_wp2_with (first
  |(go_at_call 54;refine ((body54n v n0).calls Tryd.func54 rfl).mono ?_;rintro e w1 ⟨_,rfl,rfl,q1⟩))
 first
  |exact ⟨rfl,rfl,by
    intro p hp
    simp only [List.mem_cons,List.not_mem_nil,or_false] at hp
    rcases hp with rfl|rfl|rfl|rfl|rfl<;>rfl⟩
  |exact ⟨⟨rfl,rfl,by
    intro p hp
    simp only [List.mem_cons,List.not_mem_nil,or_false] at hp
    rcases hp with rfl|rfl|rfl|rfl|rfl<;>rfl⟩,rfl⟩
  |exact ⟨⟨rfl,rfl,by
    intro p hp
    simp only [List.mem_cons,List.not_mem_nil,or_false] at hp
    rcases hp with rfl|rfl|rfl|rfl|rfl<;>rfl⟩,rfl,rfl⟩
  |exact ⟨⟨rfl,rfl,by
    intro p hp
    simp only [List.mem_cons,List.not_mem_nil,or_false] at hp
    rcases hp with rfl|rfl|rfl|rfl|rfl<;>rfl⟩,rfl,rfl,rfl⟩
  |exact ⟨⟨rfl,rfl,by
    intro p hp
    simp only [List.mem_cons,List.not_mem_nil,or_false] at hp
    rcases hp with rfl|rfl|rfl|rfl|rfl<;>rfl⟩,rfl,rfl,rfl,rfl⟩
  |exact ⟨⟨rfl,rfl,by
    intro p hp
    simp only [List.mem_cons,List.not_mem_nil,or_false] at hp
    rcases hp with rfl|rfl|rfl|rfl|rfl<;>rfl⟩,rfl,rfl,rfl,rfl,rfl⟩
  |exact ⟨rfl,⟨rfl,rfl,by
  intro p hp
  simp only [List.mem_cons,List.not_mem_nil,or_false] at hp
  rcases hp with rfl|rfl|rfl|rfl|rfl<;>rfl⟩,q1⟩
  |exact ⟨⟨rfl,rfl,by
  intro p hp
  simp only [List.mem_cons,List.not_mem_nil,or_false] at hp
  rcases hp with rfl|rfl|rfl|rfl|rfl<;>rfl⟩,q1⟩
theorem y3_wp {v:World} {a:Act} {l1 l2:Value} {n0:Int} {c:Nat}  (hA:Fl 90 [(0,I n0),(1,l1),(2,l2),(7,.bool true),(8,Pt c 0)] a):y3.wp Tryd.prog (fun e a' w'=>e=.normal∧Fl 90 [(0,I n0),(1,l1),(2,l2),(7,.bool true),(8,Pt c 0)] a'∧w'.heap=v.heap∧w'.os=v.os∧w'.output=v.output) a v:=by
 obtain ⟨hsz,hd,hp⟩:=hA
 obtain ⟨u,rfl,hg⟩:=litN hsz hd
 simp only [List.forall_mem_cons,hg] at hp
 obtain ⟨u0,u1,u2,u7,u8,-⟩:=hp
 clear hg hsz hd
 unfold y3 LB15 Tryd.f15 seq2 seq1
 simp only [Option.getD_some,lits,Nat.reduceAdd,u0,u1,u2,u7,u8]
 clear u0 u1 u2 u7 u8
 go_wp2_with fail
 first
  |exact ⟨rfl,rfl,by
    intro p hp
    simp only [List.mem_cons,List.not_mem_nil,or_false] at hp
    rcases hp with rfl|rfl|rfl|rfl|rfl<;>rfl⟩
  |exact ⟨⟨rfl,rfl,by
    intro p hp
    simp only [List.mem_cons,List.not_mem_nil,or_false] at hp
    rcases hp with rfl|rfl|rfl|rfl|rfl<;>rfl⟩,rfl⟩
  |exact ⟨⟨rfl,rfl,by
    intro p hp
    simp only [List.mem_cons,List.not_mem_nil,or_false] at hp
    rcases hp with rfl|rfl|rfl|rfl|rfl<;>rfl⟩,rfl,rfl⟩
  |exact ⟨⟨rfl,rfl,by
    intro p hp
    simp only [List.mem_cons,List.not_mem_nil,or_false] at hp
    rcases hp with rfl|rfl|rfl|rfl|rfl<;>rfl⟩,rfl,rfl,rfl⟩
  |exact ⟨⟨rfl,rfl,by
    intro p hp
    simp only [List.mem_cons,List.not_mem_nil,or_false] at hp
    rcases hp with rfl|rfl|rfl|rfl|rfl<;>rfl⟩,rfl,rfl,rfl,rfl⟩
  |exact ⟨⟨rfl,rfl,by
    intro p hp
    simp only [List.mem_cons,List.not_mem_nil,or_false] at hp
    rcases hp with rfl|rfl|rfl|rfl|rfl<;>rfl⟩,rfl,rfl,rfl,rfl,rfl⟩
theorem y5_wp {v:World} {a:Act} {l1 l2:Value} {n0:Int} {c s:Nat} (hs:shN n0=s) (hA:Fl 90 [(0,I n0),(1,l1),(2,l2),(7,.bool true),(8,Pt c 0)] a):y5.wp Tryd.prog (fun e a' w'=>e=.normal∧Fl 90 [(0,I n0),(1,l1),(2,l2),(7,.bool true),(8,Pt c 0),(9,I (s:Int))] a'∧w'.heap=v.heap∧w'.os=v.os∧w'.output=v.output) a v:=by
 obtain ⟨hsz,hd,hp⟩:=hA
 obtain ⟨u,rfl,hg⟩:=litN hsz hd
 simp only [List.forall_mem_cons,hg] at hp
 obtain ⟨u0,u1,u2,u7,u8,-⟩:=hp
 clear hg hsz hd
 have hmx:=shN_max n0
 have hmn:=shN_min n0
 rw [hs] at hmn
 generalize (if (1:Int) > n0 then 1 else n0)=M at hmx hmn
 unfold y5 LB15 Tryd.f15 seq2 seq1
 simp only [Option.getD_some,lits,Nat.reduceAdd,u0,u1,u2,u7,u8]
 clear u0 u1 u2 u7 u8
 go_wp2_with fail
 first
  |exact ⟨rfl,rfl,by
    intro p hp
    simp only [List.mem_cons,List.not_mem_nil,or_false] at hp
    rcases hp with rfl|rfl|rfl|rfl|rfl|rfl<;>rfl⟩
  |exact ⟨⟨rfl,rfl,by
    intro p hp
    simp only [List.mem_cons,List.not_mem_nil,or_false] at hp
    rcases hp with rfl|rfl|rfl|rfl|rfl|rfl<;>rfl⟩,rfl⟩
  |exact ⟨⟨rfl,rfl,by
    intro p hp
    simp only [List.mem_cons,List.not_mem_nil,or_false] at hp
    rcases hp with rfl|rfl|rfl|rfl|rfl|rfl<;>rfl⟩,rfl,rfl⟩
  |exact ⟨⟨rfl,rfl,by
    intro p hp
    simp only [List.mem_cons,List.not_mem_nil,or_false] at hp
    rcases hp with rfl|rfl|rfl|rfl|rfl|rfl<;>rfl⟩,rfl,rfl,rfl⟩
  |exact ⟨⟨rfl,rfl,by
    intro p hp
    simp only [List.mem_cons,List.not_mem_nil,or_false] at hp
    rcases hp with rfl|rfl|rfl|rfl|rfl|rfl<;>rfl⟩,rfl,rfl,rfl,rfl⟩
  |exact ⟨⟨rfl,rfl,by
    intro p hp
    simp only [List.mem_cons,List.not_mem_nil,or_false] at hp
    rcases hp with rfl|rfl|rfl|rfl|rfl|rfl<;>rfl⟩,rfl,rfl,rfl,rfl,rfl⟩
theorem y6_wp {v:World} {a:Act} {l1 l2:Value} {n0:Int} {c s:Nat} (hs:s≤16) (hA:Fl 90 [(0,I n0),(1,l1),(2,l2),(7,.bool true),(8,Pt c 0),(9,I (s:Int))] a):y6.wp Tryd.prog (fun e a' w'=>e=.normal∧Fl 90 [(1,l1),(2,l2),(8,Pt c 0),(9,I (s:Int)),(10,.slice (some ⟨v.heap.size,0,none⟩) s s)] a'∧w'.heap=v.heap.push (rowI (List.replicate s 0))∧w'.os=v.os∧w'.output=v.output) a v:=by
 obtain ⟨hsz,hd,hp⟩:=hA
 obtain ⟨u,rfl,hg⟩:=litN hsz hd
 simp only [List.forall_mem_cons,hg] at hp
 obtain ⟨u0,u1,u2,u7,u8,u9,-⟩:=hp
 clear hg hsz hd
 have hmk:=make_nums s (by omega)
 rw [made_rowI] at hmk
 unfold y6 LB15 Tryd.f15 seq2 seq1
 simp only [Option.getD_some,lits,Nat.reduceAdd,u0,u1,u2,u7,u8,u9]
 clear u0 u1 u2 u7 u8 u9
 go_wp2_with fail
 first
  |exact ⟨rfl,rfl,by
    intro p hp
    simp only [List.mem_cons,List.not_mem_nil,or_false] at hp
    rcases hp with rfl|rfl|rfl|rfl|rfl<;>rfl⟩
  |exact ⟨⟨rfl,rfl,by
    intro p hp
    simp only [List.mem_cons,List.not_mem_nil,or_false] at hp
    rcases hp with rfl|rfl|rfl|rfl|rfl<;>rfl⟩,rfl⟩
  |exact ⟨⟨rfl,rfl,by
    intro p hp
    simp only [List.mem_cons,List.not_mem_nil,or_false] at hp
    rcases hp with rfl|rfl|rfl|rfl|rfl<;>rfl⟩,rfl,rfl⟩
  |exact ⟨⟨rfl,rfl,by
    intro p hp
    simp only [List.mem_cons,List.not_mem_nil,or_false] at hp
    rcases hp with rfl|rfl|rfl|rfl|rfl<;>rfl⟩,rfl,rfl,rfl⟩
  |exact ⟨⟨rfl,rfl,by
    intro p hp
    simp only [List.mem_cons,List.not_mem_nil,or_false] at hp
    rcases hp with rfl|rfl|rfl|rfl|rfl<;>rfl⟩,rfl,rfl,rfl,rfl⟩
  |exact ⟨⟨rfl,rfl,by
    intro p hp
    simp only [List.mem_cons,List.not_mem_nil,or_false] at hp
    rcases hp with rfl|rfl|rfl|rfl|rfl<;>rfl⟩,rfl,rfl,rfl,rfl,rfl⟩
theorem y7_wp {v:World} {a:Act} {l1 l2:Value} {c s ab:Nat}  (hA:Fl 90 [(1,l1),(2,l2),(8,Pt c 0),(9,I (s:Int)),(10,.slice (some ⟨ab,0,none⟩) s s)] a):y7.wp Tryd.prog (fun e a' w'=>e=.normal∧Fl 90 [(1,l1),(2,l2),(8,Pt c 0),(9,I (s:Int)),(10,.slice (some ⟨ab,0,none⟩) s s),(11,I 0)] a'∧w'.heap=v.heap∧w'.os=v.os∧w'.output=v.output) a v:=by
 obtain ⟨hsz,hd,hp⟩:=hA
 obtain ⟨u,rfl,hg⟩:=litN hsz hd
 simp only [List.forall_mem_cons,hg] at hp
 obtain ⟨u1,u2,u8,u9,u10,-⟩:=hp
 clear hg hsz hd
 unfold y7 C15 LB15 Tryd.f15 seq2 seq1
 simp only [Option.getD_some,lits,Nat.reduceAdd,u1,u2,u8,u9,u10]
 clear u1 u2 u8 u9 u10
 go_wp2_with fail
 first
  |exact ⟨rfl,rfl,by
    intro p hp
    simp only [List.mem_cons,List.not_mem_nil,or_false] at hp
    rcases hp with rfl|rfl|rfl|rfl|rfl|rfl<;>rfl⟩
  |exact ⟨⟨rfl,rfl,by
    intro p hp
    simp only [List.mem_cons,List.not_mem_nil,or_false] at hp
    rcases hp with rfl|rfl|rfl|rfl|rfl|rfl<;>rfl⟩,rfl⟩
  |exact ⟨⟨rfl,rfl,by
    intro p hp
    simp only [List.mem_cons,List.not_mem_nil,or_false] at hp
    rcases hp with rfl|rfl|rfl|rfl|rfl|rfl<;>rfl⟩,rfl,rfl⟩
  |exact ⟨⟨rfl,rfl,by
    intro p hp
    simp only [List.mem_cons,List.not_mem_nil,or_false] at hp
    rcases hp with rfl|rfl|rfl|rfl|rfl|rfl<;>rfl⟩,rfl,rfl,rfl⟩
  |exact ⟨⟨rfl,rfl,by
    intro p hp
    simp only [List.mem_cons,List.not_mem_nil,or_false] at hp
    rcases hp with rfl|rfl|rfl|rfl|rfl|rfl<;>rfl⟩,rfl,rfl,rfl,rfl⟩
  |exact ⟨⟨rfl,rfl,by
    intro p hp
    simp only [List.mem_cons,List.not_mem_nil,or_false] at hp
    rcases hp with rfl|rfl|rfl|rfl|rfl|rfl<;>rfl⟩,rfl,rfl,rfl,rfl,rfl⟩
theorem T15_wp {v:World} {a:Act} (hs:a.tmps.size=90) (hd:a.defers=[]):T15.wp Tryd.prog (fun e a' w'=>e=.ret∧a'.tmps.getD 6 undef=.bool true∧w'.heap=v.heap∧w'.os=v.os∧w'.output=v.output) a v:=by
 obtain ⟨u,rfl,hg⟩:=litN hs hd
 clear hg hs hd
 unfold T15 LB15 Tryd.f15 seq2
 simp only [Option.getD_some,lits,Nat.reduceAdd]
 go_wp2_with fail
theorem p14_goes {Ch:Nat→Prop} {Stop:Goroutine→World→Prop} {main:Bool} {v w:World} {a:Act} {l1 l2:Value} {c s ab i d tb:Nat} {b1 o1 n cap sb cb:Nat} {kb:List Nat} {x y:Int} (hl:l1=.slice (some ⟨b1,o1,none⟩) n cap) (hin:i<n) (c1:v.cell? ⟨b1,o1+i,none⟩=some (I x)) (hC:Ctr v c sb s kb) (h1:v.cell? ⟨tb,1,none⟩=some (I d)) (hcb:kb[d % s]? = some cb) (hF:R1.Flds v) (m0:Fm tb cb y v) (cs:List Frame) (kk:List Item) (hvw:Rel zn v w) (hn:NoRow Ch v) (hA:Fl 90 [(1,l1),(2,l2),(8,Pt c 0),(9,I (s:Int)),(10,.slice (some ⟨ab,0,none⟩) s s),(11,I (i:Int)),(12,I (d:Int)),(13,Pt tb 0)] a)
 (hk:∀ a' v' w',Rel zn v' w'→NoRow Ch v'→Ftg cb (R1.addI y x) v v'→Fl 90 [(1,l1),(2,l2),(8,Pt c 0),(9,I (s:Int)),(10,.slice (some ⟨ab,0,none⟩) s s),(11,I (i:Int)),(12,I (d:Int)),(13,Pt tb 0)] a'→GoesI Tryd.prog main (DT (ScZ zn) Ch) Stop (G ((base 15).at a' kk) cs) w') :
 GoesI Tryd.prog main (DT (ScZ zn) Ch) Stop (G ((base 15).at a (.code p14 :: kk)) cs) w:=by
 subst hl
 have e0:w.cell? ⟨b1,o1+i,none⟩=some (I x):=by rw [hvw.cell?];exact c1
 have hin':(i:Int)<(n:Int):=by omega
 obtain ⟨hsz,hd,hp⟩:=hA
 obtain ⟨u,rfl,hg⟩:=litN hsz hd
 simp only [List.forall_mem_cons,hg] at hp
 obtain ⟨u1,u2,u8,u9,u10,u11,u12,u13,-⟩:=hp
 clear hg hsz hd
 unfold p14 I15 L15 C15 LB15 Tryd.f15 seq2 seq1 blockC loopC
 simp only [Option.getD_some,lits,Nat.reduceAdd,u1,u2,u8,u9,u10,u11,u12,u13]
 clear u1 u2 u8 u9 u10 u11 u12 u13
 refine goesI_region (dt_idle _ _) ?_
 simp only [List.size_toArray,List.length_cons,List.length_nil,Nat.reduceAdd,Nat.zero_add,List.range,List.range.loop]
 iterate 6
  (refine goesI_oper rfl rfl (by decide) (fun d K hK=>?_)
   go_simp
   refine hK _ _ ⟨dt_reads (fun e he=>?_),GoesI.at ?_ d⟩
   ·have hm:=mem_listed he
    simp [go_sem, *] at hm
    try exact ⟨_,_,hm⟩
   clear hK K)
 refine goesI_into (f:=55) (fn:=Tryd.f55) (args:=#[Pt c 0,Pt tb 0,I x]) (dt_idle _ _) rfl rfl (by decide) rfl (by simp [Act.eval]) Tryd.func55 (by decide) rfl ?_
 refine fadd x rfl hvw hn hC h1 hcb hF m0 (fun v1 w1 r1 n1 f1=>?_) _ rfl
 refine goesI_regionEnd (dt_idle _ _) ?_
 exact hk _ v1 w1 r1 n1 f1 ⟨rfl,rfl,by
  intro p hp
  simp only [List.mem_cons,List.not_mem_nil,or_false] at hp
  rcases hp with rfl|rfl|rfl|rfl|rfl|rfl|rfl|rfl<;>rfl⟩
theorem p21_goes {Ch:Nat→Prop} {Stop:Goroutine→World→Prop} {main:Bool} {v w:World} {a:Act} {l1 l2:Value} {c s ab i d tb:Nat} {sb:Nat} {kb:List Nat} {xs:List Int} {k:Int} (hC:Fcs v c sb s kb xs) (ht:v.cell? ⟨tb,0,none⟩=some (.pointer none)) (hF:R1.Flds v) (cs:List Frame) (kk:List Item) (hvw:Rel zn v w) (hn:NoRow Ch v) (hA:Fl 90 [(1,l1),(2,l2),(8,Pt c 0),(9,I (s:Int)),(10,.slice (some ⟨ab,0,none⟩) s s),(11,I (i:Int)),(12,I (d:Int)),(13,Pt tb 0),(14,I k)] a)
 (hk:∀ a' v' w',Rel zn v' w'→NoRow Ch v'→Grows v v'→Fl 90 [(1,l1),(2,l2),(8,Pt c 0),(9,I (s:Int)),(10,.slice (some ⟨ab,0,none⟩) s s),(11,I (i:Int)),(12,I (d:Int)),(13,Pt tb 0),(14,I k),(16,I (R1.totI xs))] a'→GoesI Tryd.prog main (DT (ScZ zn) Ch) Stop (G ((base 15).at a' kk) cs) w') :
 GoesI Tryd.prog main (DT (ScZ zn) Ch) Stop (G ((base 15).at a (.code p21 :: kk)) cs) w:=by
 obtain ⟨hsz,hd,hp⟩:=hA
 obtain ⟨u,rfl,hg⟩:=litN hsz hd
 simp only [List.forall_mem_cons,hg] at hp
 obtain ⟨u1,u2,u8,u9,u10,u11,u12,u13,u14,-⟩:=hp
 clear hg hsz hd
 unfold p21 I15 L15 C15 LB15 Tryd.f15 seq2 seq1 blockC loopC
 simp only [Option.getD_some,lits,Nat.reduceAdd,u1,u2,u8,u9,u10,u11,u12,u13,u14]
 clear u1 u2 u8 u9 u10 u11 u12 u13 u14
 refine goesI_region (dt_idle _ _) ?_
 simp only [List.size_toArray,List.length_cons,List.length_nil,Nat.reduceAdd,Nat.zero_add,List.range,List.range.loop]
 iterate 2
  (refine goesI_oper rfl rfl (by decide) (fun d K hK=>?_)
   go_simp
   refine hK _ _ ⟨dt_reads (fun e he=>?_),GoesI.at ?_ d⟩
   ·have hm:=mem_listed he
    simp [go_sem, *] at hm
    try exact ⟨_,_,hm⟩
   clear hK K)
 refine goesI_into (f:=57) (fn:=Tryd.f57) (args:=#[Pt c 0,Pt tb 0]) (dt_idle _ _) rfl rfl (by decide) rfl (by simp [Act.eval]) Tryd.func57 (by decide) rfl ?_
 refine fsum rfl hvw hn hC ht hF (fun v1 w1 r1 n1 f1=>?_) _ rfl
 iterate 1
  (refine goesI_oper rfl rfl (by decide) (fun d K hK=>?_)
   go_simp
   refine hK _ _ ⟨dt_reads (fun e he=>?_),GoesI.at ?_ d⟩
   ·have hm:=mem_listed he
    simp [go_sem, *] at hm
    try exact ⟨_,_,hm⟩
   clear hK K)
 refine goesI_regionEnd (dt_idle _ _) ?_
 exact hk _ v1 w1 r1 n1 f1 ⟨rfl,rfl,by
  intro p hp
  simp only [List.mem_cons,List.not_mem_nil,or_false] at hp
  rcases hp with rfl|rfl|rfl|rfl|rfl|rfl|rfl|rfl|rfl|rfl<;>rfl⟩
theorem Fcs.keep {v v':World} {c sb s:Nat} {kb:List Nat} {xs:List Int} (h:Fcs v c sb s kb xs) (hs:∀ b,b=c∨b=sb∨b∈kb→v'.heap[b]? = v.heap[b]?):Fcs v' c sb s kb xs:=by
 refine ⟨⟨?_,fun j hj=>?_,h.ctr.s0,h.ctr.s1⟩,h.len,h.klen,fun j cb x hc hx=>?_,h.nd,h.csb,h.ckb⟩
 ·rw [World.cell?_of_block (w:=v) (w':=v') (hs c (.inl rfl))];exact h.ctr.row
 ·obtain ⟨cb,e1,e2⟩:=h.ctr.cel j hj
  exact ⟨cb,e1,by rw [World.cell?_of_block (w:=v) (w':=v') (hs sb (.inr (.inl rfl)))];exact e2⟩
 ·rw [hs cb (.inr (.inr (List.mem_of_getElem? hc)))];exact h.cel j cb x hc hx
theorem Fcs.ftg {v v':World} {c sb s cb j:Nat} {kb:List Nat} {xs:List Int} {y:Int} (h:Fcs v c sb s kb xs) (hj:kb[j]? = some cb) (f:Ftg cb y v v'):Fcs v' c sb s kb (xs.set j y):=by
 obtain ⟨l1,l2,l3⟩:=h.lt
 obtain ⟨n1,n2⟩:=h.ckb cb (List.mem_of_getElem? hj)
 refine ⟨⟨?_,fun j hj=>?_,h.ctr.s0,h.ctr.s1⟩,by rw [List.length_set];exact h.len,h.klen,fun j' cb' x hc hx=>?_,h.nd,h.csb,h.ckb⟩
 ·rw [World.cell?_of_block (w:=v) (w':=v') (f.old c l1 (Ne.symm n1))];exact h.ctr.row
 ·obtain ⟨cb,e1,e2⟩:=h.ctr.cel j hj
  exact ⟨cb,e1,by rw [World.cell?_of_block (w:=v) (w':=v') (f.old sb l2 (Ne.symm n2))];exact e2⟩
 ·rw [List.getElem?_set] at hx
  by_cases e:j=j'
  ·subst e
   rw [if_pos rfl] at hx
   split at hx
   ·cases hx
    rw [hj] at hc
    cases hc
    exact f.cel
   ·cases hx
  ·rw [if_neg e] at hx
   have hne:cb'≠cb:=fun e2=>by
    subst e2
    exact e ((List.getElem?_inj (List.getElem?_eq_some_iff.1 hj).1 h.nd).1 (hj.trans hc.symm))
   rw [f.old cb' (l3 cb' (List.mem_of_getElem? hc)) hne]
   exact h.cel j' cb' x hc hx
structure M15 (u0:World) (c sb s ab:Nat) (kb:List Nat) (xs:List Int) (v:World):Prop where
 fcs:Fcs v c sb s kb xs
 am:v.heap[ab]? = some (rowI (xs.map R1.amtS))
 abn:ab≠c∧ab≠sb∧ab ∉ kb
 bl:Bl u0.heap.size u0 v
 lo:u0.heap.size≤c∧u0.heap.size≤sb∧u0.heap.size≤ab∧∀ cb∈kb,u0.heap.size≤cb
section
variable {u0 v v' v3 v4 v5:World} {c sb s ab cb j:Nat} {kb:List Nat} {xs:List Int} {x y:Int}
theorem M15.ablt (h:M15 u0 c sb s ab kb xs v):ab<v.heap.size:=(Array.getElem?_eq_some_iff.1 h.am).1
theorem M15.grows (h:M15 u0 c sb s ab kb xs v) (g:Grows v v'):M15 u0 c sb s ab kb xs v' :=
 ⟨h.fcs.bl ⟨g.old,g.size,g.os,g.output⟩,by rw [g.old ab h.ablt];exact h.am,h.abn,h.bl.trans (Grows.bl g h.bl.size),h.lo⟩
theorem M15.same (h:M15 u0 c sb s ab kb xs v) (e:v'.heap=v.heap) (e1:v'.os=v.os) (e2:v'.output=v.output):M15 u0 c sb s ab kb xs v' :=
 h.grows ⟨by rw [e];exact Nat.le_refl _,fun b _=>by rw [e],e1,e2⟩
theorem M15.am4 (h:M15 u0 c sb s ab kb xs v3) (hj:kb[j]? = some cb) (f:Ftg cb (R1.addI y x) v3 v4):v4.heap[ab]? = some (rowI (xs.map R1.amtS)):=by
 rw [f.old ab h.ablt (fun e=>h.abn.2.2 (e▸List.mem_of_getElem? hj))];exact h.am
theorem M15.bl4 (h:M15 u0 c sb s ab kb xs v3) (hj:kb[j]? = some cb) (f:Ftg cb (R1.addI y x) v3 v4):Bl u0.heap.size u0 v4 :=
 h.bl.trans ⟨fun b hb=>f.old b (by have:=h.bl.size;omega) (fun e=>by have:=h.lo.2.2.2 cb (List.mem_of_getElem? hj);omega),f.size,f.os,f.out⟩
theorem M15.next (h:M15 u0 c sb s ab kb xs v3) (hj:kb[j]? = some cb) (hy:xs[j]? = some y) (f:Ftg cb (R1.addI y x) v3 v4) (e5:v5.heap=(v4.setCell ⟨ab,j,none⟩ (I (R1.wr56 (wrap64 (R1.amtS y+x.tmod 4294967296))))).heap) (o5:v5.os=v4.os) (u5:v5.output=v4.output):M15 u0 c sb s ab kb (xs.set j (R1.addI y x)) v5:=by
 have oth:∀ b,b≠ab→v5.heap[b]? = v4.heap[b]?:=fun b hb=>by rw [e5];exact Below.heap_setCell _ _ _ _ hb
 refine ⟨(h.fcs.ftg hj f).keep (fun b hb=>oth b (fun e=>?_)),?_,h.abn,(h.bl4 hj f).trans ⟨fun b hb=>oth b (by have:=h.lo.2.2.1;omega),by rw [e5];simp [World.setCell],o5,u5⟩,h.lo⟩
 ·subst e
  rcases hb with e|e|e
  ·exact h.abn.1 e
  ·exact h.abn.2.1 e
  ·exact h.abn.2.2 e
 ·rw [e5,R1.amtS_add,rowI_set (h.am4 hj f) j,List.map_set]
end
def InN (w:World) (lb lo:Nat) (xs:List Int):Prop:=∀ (k:Nat) (c:Int),xs[k]? = some c→w.cell? ⟨lb,lo+k,none⟩=some (I c)
theorem InN.bl {v v':World} {lb lo:Nat} {xs:List Int} (h:InN v lb lo xs) (g:Bl v.heap.size v v'):InN v' lb lo xs:=fun k c hc=>g.cell (World.block_lt_of_cell? _ _ (h k c hc)) (h k c hc)
theorem flds_bl {v v':World} (h:R1.Flds v) (g:Bl v.heap.size v v'):R1.Flds v':=h.of fun a x ha=>by
 rw [World.cell?_of_block (w:=v) (w':=v') (g.old _ (World.block_lt_of_cell? _ _ ha))];exact ha
section
variable {Ch:Nat→Prop} {Stop:Goroutine→World→Prop} {main:Bool} {v w:World} {a:Act} {u0:World} {c sb s ab i:Nat} {kb:List Nat} {xs:List Int} {b1 o1 n1 cap1 b2 o2 n2 cap2:Nat} {p2:Option Addr} {ad wh:List Int}
theorem round15 (hF:R1.Flds u0) (hl1:ad.length=n1) (hI1:InN u0 b1 o1 ad) (hp2:0<n2→p2=some ⟨b2,o2,none⟩) (hl2:wh.length=n2) (hI2:InN u0 b2 o2 wh) (hin:i<n1) (hM:M15 u0 c sb s ab kb xs v) (cs:List Frame) (kk:List Item) (hvw:Rel zn v w) (hn:NoRow Ch v) (hA:Fl 90 [(1,.slice (some ⟨b1,o1,none⟩) n1 cap1),(2,.slice p2 n2 cap2),(8,Pt c 0),(9,I (s:Int)),(10,.slice (some ⟨ab,0,none⟩) s s),(11,I (i:Int))] a)
 (hK:∀ a' v' w' xs',Rel zn v' w'→NoRow Ch v'→M15 u0 c sb s ab kb xs' v'→Fl 90 [(1,.slice (some ⟨b1,o1,none⟩) n1 cap1),(2,.slice p2 n2 cap2),(8,Pt c 0),(9,I (s:Int)),(10,.slice (some ⟨ab,0,none⟩) s s),(11,I (i:Int))] a'→GoesI Tryd.prog main (DT (ScZ zn) Ch) Stop (G ((base 15).at a' kk) cs) w') :
 GoesI Tryd.prog main (DT (ScZ zn) Ch) Stop (G ((base 15).at a (.code I15 :: .inBlock 1 :: kk)) cs) w:=by
 generalize hq1:Value.slice (some ⟨b1,o1,none⟩) n1 cap1=l1 at hA hK
 generalize hq2:Value.slice p2 n2 cap2=l2 at hA hK
 obtain ⟨x,hx⟩:∃ x,ad[i]? = some x:=⟨_,List.getElem?_eq_getElem (by omega)⟩
 rw [eI15]
 refine goesI_seq (dt_idle _ _) ?_
 refine goesI_plain (z:=zn) (wr:=true) (L:=LV) (I:=NoRow Ch) hE fineV noRow_keeps (fun v v' w w' es hi hr ho he=>dt_of_z v v' w w' es hi hr ho he) hvw fine_p10 hA.2.1 (by simp [base]) hn (Q:=fun a w'=>Fl 90 [(1,l1),(2,l2),(8,Pt c 0),(9,I (s:Int)),(10,.slice (some ⟨ab,0,none⟩) s s),(11,I (i:Int)),(12,I 0)] a∧w'.heap=v.heap∧w'.os=v.os∧w'.output=v.output) (fun τ=>p10_wp (v:=onTape v τ 0) hA) ?_
 rintro a1 v1 w1 ⟨hA1,e1,q1,z1⟩ hr1 hn1 -
 have hM1:=hM.same e1 q1 z1
 refine goesI_seq (dt_idle _ _) ?_
 refine goesI_plain (z:=zn) (wr:=true) (L:=LV) (I:=NoRow Ch) hE fineV noRow_keeps (fun v v' w w' es hi hr ho he=>dt_of_z v v' w w' es hi hr ho he) hr1 fine_p11 hA1.2.1 (by simp [base]) hn1 (Q:=fun a w'=>∃ d:Nat,Fl 90 [(1,l1),(2,l2),(8,Pt c 0),(9,I (s:Int)),(10,.slice (some ⟨ab,0,none⟩) s s),(11,I (i:Int)),(12,I (d:Int))] a∧w'.heap=v1.heap∧w'.os=v1.os∧w'.output=v1.output) (fun τ=>?_) ?_
 ·by_cases hi:i<n2
  ·obtain ⟨y,hy⟩:∃ y,wh[i]? = some y:=⟨_,List.getElem?_eq_getElem (by omega)⟩
   obtain ⟨d,hd⟩:=R1.and255 y
   have h2:(onTape v1 τ 0).cell? ⟨b2,o2+i,none⟩=some (I y):=(hI2.bl hM1.bl) i y hy
   have:=p11_wpy (v:=onTape v1 τ 0) (x:=y) (by rw [←hq2,hp2 (by omega)]) hi h2 hA1
   rw [hd] at this
   exact wp_mono this fun e a w hq=>⟨hq.1,d,hq.2⟩
  ·exact wp_mono (p11_wpn (v:=onTape v1 τ 0) hq2.symm hi hA1) fun e a w hq=>⟨hq.1,0,hq.2⟩
 rintro a2 v2 w2 ⟨d,hA2,e2,q2,z2⟩ hr2 hn2 -
 have hM2:=hM1.same e2 q2 z2
 refine goesI_seq (dt_idle _ _) ?_
 refine goesI_plain (z:=zn) (wr:=true) (L:=LV) (I:=NoRow Ch) hE fineV noRow_keeps (fun v v' w w' es hi hr ho he=>dt_of_z v v' w w' es hi hr ho he) hr2 fine_p13 hA2.2.1 (by simp [base]) hn2 (Q:=fun a w'=>Fl 90 [(1,l1),(2,l2),(8,Pt c 0),(9,I (s:Int)),(10,.slice (some ⟨ab,0,none⟩) s s),(11,I (i:Int)),(12,I (d:Int)),(13,Pt v2.heap.size 0)] a∧w'.heap=v2.heap.push (.cells #[.pointer none,I (d:Int),.chan none,I 0,I 0,I 0,I 0] 107)∧w'.os=v2.os∧w'.output=v2.output) (fun τ=>p13_wp (v:=onTape v2 τ 0) hA2) ?_
 rintro a3 v3 w3 ⟨hA3,e3,q3,z3⟩ hr3 hn3 -
 have g3:Grows v2 v3:=⟨by rw [e3];simp,fun b hb=>by rw [e3,Array.getElem?_push,if_neg (by omega)],q3,z3⟩
 have hM3:=hM2.grows g3
 have hb3:v3.heap[v2.heap.size]? = some (.cells #[.pointer none,I (d:Int),.chan none,I 0,I 0,I 0,I 0] 107 (0,0)):=by rw [e3,Array.getElem?_push_size]
 have ht0:v3.cell? ⟨v2.heap.size,0,none⟩=some (.pointer none):=cell_of hb3 rfl
 have ht1:v3.cell? ⟨v2.heap.size,1,none⟩=some (I (d:Int)):=cell_of hb3 rfl
 have hs0:=hM3.fcs.ctr.s0
 have hjs:d % s<s:=Nat.mod_lt _ hs0
 obtain ⟨cb,hcb⟩:∃ cb,kb[d % s]? = some cb:=⟨_,List.getElem?_eq_getElem (by rw [hM3.fcs.klen];exact hjs)⟩
 obtain ⟨y,hy⟩:∃ y,xs[d % s]? = some y:=⟨_,List.getElem?_eq_getElem (by rw [hM3.fcs.len];exact hjs)⟩
 have m3:Fm v2.heap.size cb y v3:=hM3.fcs.fm hcb hy ht0
 refine goesI_seq (dt_idle _ _) ?_
 refine p14_goes hq1.symm hin ((hI1.bl hM3.bl) i x hx) hM3.fcs.ctr ht1 hcb (flds_bl hF hM3.bl) m3 cs _ hr3 hn3 hA3 (fun a4 v4 w4 hr4 hn4 f4 hA4=>?_)
 have htl:v2.heap.size<v3.heap.size:=by rw [e3];simp
 have ht4:v4.cell? ⟨v2.heap.size,0,none⟩=some (.pointer none):=by rw [World.cell?_of_block (w:=v3) (w':=v4) (f4.old _ htl m3.ne)];exact ht0
 refine goesI_seq (dt_idle _ _) ?_
 refine goesI_plain (z:=zn) (wr:=true) (L:=LV) (I:=NoRow Ch) hE fineV noRow_keeps (fun v v' w w' es hi hr ho he=>dt_of_z v v' w w' es hi hr ho he) hr4 fine_p15 hA4.2.1 (by simp [base]) hn4 (Q:=fun a w'=>Fl 90 [(1,l1),(2,l2),(8,Pt c 0),(9,I (s:Int)),(10,.slice (some ⟨ab,0,none⟩) s s),(11,I (i:Int)),(12,I (d:Int)),(13,Pt v2.heap.size 0)] a∧w'.heap=(v4.setCell ⟨ab,d % s,none⟩ (I (R1.wr56 (wrap64 (R1.amtS y+x.tmod 4294967296))))).heap∧w'.os=v4.os∧w'.output=v4.output) (fun τ=>wp_nrm (p15_wp0 (v:=onTape v4 τ 0) hq1.symm hin hs0 rfl ((hI1.bl (hM3.bl4 hcb f4)) i x hx) (rowI_cell (v:=v4) (hM3.am4 hcb f4) (by rw [List.getElem?_map,hy];rfl)) (rowI_froz (v:=v4) (hM3.am4 hcb f4) _) hA4)) ?_
 rintro a5 v5 w5 ⟨hA5,e5,q5,z5⟩ hr5 hn5 -
 have hM5:=hM3.next hcb hy f4 e5 q5 z5
 have ht5:v5.cell? ⟨v2.heap.size,0,none⟩=some (.pointer none):=by
  rw [World.cell?_of_block (w:=v4) (w':=v5) (by rw [e5];exact Below.heap_setCell _ _ _ _ (by have:=hM2.ablt;simp only;omega))];exact ht4
 generalize xs.set (d % s) (R1.addI y x)=xs' at hM5
 refine goesI_seq (dt_idle _ _) ?_
 refine goesI_plain (z:=zn) (wr:=true) (L:=LV) (I:=NoRow Ch) hE fineV noRow_keeps (fun v v' w w' es hi hr ho he=>dt_of_z v v' w w' es hi hr ho he) hr5 fine_p16 hA5.2.1 (by simp [base]) hn5 (Q:=fun a w'=>Fl 90 [(1,l1),(2,l2),(8,Pt c 0),(9,I (s:Int)),(10,.slice (some ⟨ab,0,none⟩) s s),(11,I (i:Int)),(12,I (d:Int)),(13,Pt v2.heap.size 0),(14,I 0)] a∧w'.heap=v5.heap∧w'.os=v5.os∧w'.output=v5.output) (fun τ=>p16_wp (v:=onTape v5 τ 0) hA5) ?_
 rintro a6 v6 w6 ⟨hA6,e6,q6,z6⟩ hr6 hn6 -
 have hM6:=hM5.same e6 q6 z6
 refine goesI_seq (dt_idle _ _) ?_
 refine goesI_plain (z:=zn) (wr:=true) (L:=LV) (I:=NoRow Ch) hE fineV noRow_keeps (fun v v' w w' es hi hr ho he=>dt_of_z v v' w w' es hi hr ho he) hr6 fine_p17 hA6.2.1 (by simp [base]) hn6 (Q:=fun a w'=>Fl 90 [(1,l1),(2,l2),(8,Pt c 0),(9,I (s:Int)),(10,.slice (some ⟨ab,0,none⟩) s s),(11,I (i:Int)),(12,I (d:Int)),(13,Pt v2.heap.size 0),(14,I (R1.totI xs'))] a∧w'.heap=v6.heap∧w'.os=v6.os∧w'.output=v6.output) (fun τ=>?_) ?_
 ·have:=wp_nrm (p17_wp0 (v:=onTape v6 τ 0) hM6.am (by rw [List.length_map];exact hM6.fcs.len) hM6.fcs.ctr.s1 hA6)
  rw [totA_map] at this
  exact this
 rintro a7 v7 w7 ⟨hA7,e7,q7,z7⟩ hr7 hn7 -
 have hM7:=hM6.same e7 q7 z7
 refine goesI_seq (dt_idle _ _) ?_
 refine p21_goes hM7.fcs (by rw [World.cell?_of_block (w:=v5) (w':=v7) (by rw [e7,e6])];exact ht5) (flds_bl hF hM7.bl) cs _ hr7 hn7 hA7 (fun a8 v8 w8 hr8 hn8 g8 hA8=>?_)
 have hM8:=hM7.grows g8
 refine goesI_plain (z:=zn) (wr:=true) (L:=LV) (I:=NoRow Ch) hE fineV noRow_keeps (fun v v' w w' es hi hr ho he=>dt_of_z v v' w w' es hi hr ho he) hr8 fine_p22 hA8.2.1 (by simp [base]) hn8 (Q:=fun a w'=>Fl 90 [(1,l1),(2,l2),(8,Pt c 0),(9,I (s:Int)),(10,.slice (some ⟨ab,0,none⟩) s s),(11,I (i:Int))] a∧w'.heap=v8.heap∧w'.os=v8.os∧w'.output=v8.output) (fun τ=>p22_wp (v:=onTape v8 τ 0) hA8) ?_
 rintro a9 v9 w9 ⟨hA9,e9,q9,z9⟩ hr9 hn9 -
 refine goesI_inBlock (dt_idle _ _) ?_
 exact hK a9 v9 w9 xs' hr9 hn9 (hM8.same e9 q9 z9) hA9
end
noncomputable def B52:Code:=Tryd.f52.body.getD .skip
noncomputable def k520:Code:=seq1 B52
noncomputable def k521:Code:=seq1 (seq2 B52)
noncomputable def k522:Code:=seq1 (seq2 (seq2 B52))
noncomputable def R52:Code:=seq2 (seq2 (seq2 B52))
theorem eB52:B52=.seq k520 (.seq k521 (.seq k522 R52)):=by kernel_rfl
theorem fine_k520:fineCode Tryd.prog true LV k520:=fineCode_askS callV extT (by kernel_rfl)
theorem fine_k521:fineCode Tryd.prog true LV k521:=fineCode_askS callV extT (by kernel_rfl)
theorem fine_k522:fineCode Tryd.prog true LV k522:=fineCode_askS callV extT (by kernel_rfl)
section
variable {S:TS} {v:World} {a:Act} {n cap:Nat} {p:Option Addr} {m:Int}
theorem k520_wp (hA:Fl 28 [(0,Pt S.wb 0),(1,I m),(2,.slice p n cap)] a):k520.wp Tryd.prog (fun e a w'=>e=.normal∧Fl 28 [(0,Pt S.wb 0),(1,I m),(2,.slice p n cap),(6,.slice none 0 0),(7,I 0)] a∧w'.heap=v.heap∧w'.os=v.os∧w'.output=v.output) a v:=by
 obtain ⟨hsz,hd,hpp⟩:=hA
 obtain ⟨u,rfl,hg⟩:=litN hsz hd
 have u0:=(hg 0).symm.trans (hpp (0,Pt S.wb 0) (by simp))
 have u1:=(hg 1).symm.trans (hpp (1,I m) (by simp))
 have u2:=(hg 2).symm.trans (hpp (2,.slice p n cap) (by simp))
 clear hg hpp hsz hd
 unfold k520 B52 Tryd.f52 seq1
 simp only [Option.getD_some,lits,Nat.reduceAdd,u0,u1,u2]
 clear u0 u1 u2
 go_wp2_with fail
 first
  |exact ⟨rfl,⟨rfl,rfl,by
    intro p hp
    simp only [List.mem_cons,List.not_mem_nil,or_false] at hp
    rcases hp with rfl|rfl|rfl|rfl|rfl<;>rfl⟩,rfl,rfl,rfl⟩
  |exact ⟨⟨rfl,rfl,by
    intro p hp
    simp only [List.mem_cons,List.not_mem_nil,or_false] at hp
    rcases hp with rfl|rfl|rfl|rfl|rfl<;>rfl⟩,rfl,rfl,rfl⟩
  |exact ⟨rfl,rfl,by
    intro p hp
    simp only [List.mem_cons,List.not_mem_nil,or_false] at hp
    rcases hp with rfl|rfl|rfl|rfl|rfl<;>rfl⟩
theorem k521_yes (h:Rep zn S v) (pc:Nat→Option Addr) (ln cp:Nat→Nat) (hs:∀ k,k<n→∃ sb so,p=some ⟨sb,so,none⟩∧v.cell? ⟨sb,so+k,none⟩=some (.slice (pc k) (ln k) (cp k))) (hln:∀ k,k<n→ln k≤64) (hn:0<n∧n≤8) (hr:S.ran=false) (hA:Fl 28 [(0,Pt S.wb 0),(1,I m),(2,.slice p n cap),(6,.slice none 0 0),(7,I 0)] a) :
 k521.wp Tryd.prog (fun e a w'=>e=.normal∧Fl 28 [(0,Pt S.wb 0),(1,I m),(2,.slice p n cap),(6,.slice none 0 0),(7,I 0)] a∧w'.heap=v.heap∧w'.os=v.os∧w'.output=v.output) a v:=by
 have h19:=(body19 h p n cap (by omega) pc ln cp hs).calls Tryd.func59 rfl
 have he:checkE n S.ran=0:=by unfold checkE;rw [if_neg (by rw [hr];rintro (h|h|h)<;>first|omega|cases h)]
 have H19:Hid (Calls Tryd.prog 59 #[Pt S.wb 0,.slice p n cap] v (fun e w'=>e=.returned (I 0)∧w'=v)):=⟨h19.mono (by
  rintro e w' ⟨r,rfl,rfl,⟨⟨k,hk,h1⟩,_⟩|⟨_,rfl⟩⟩
  ·exact absurd (hln k hk) (by omega)
  ·rw [he];exact ⟨rfl,rfl⟩)⟩
 clear h19 h hs hln hn hr he
 obtain ⟨hsz,hd,hpp⟩:=hA
 obtain ⟨u,rfl,hg⟩:=litN hsz hd
 have u0:=(hg 0).symm.trans (hpp (0,Pt S.wb 0) (by simp))
 have u1:=(hg 1).symm.trans (hpp (1,I m) (by simp))
 have u2:=(hg 2).symm.trans (hpp (2,.slice p n cap) (by simp))
 have u6:=(hg 6).symm.trans (hpp (6,.slice none 0 0) (by simp))
 have u7:=(hg 7).symm.trans (hpp (7,I 0) (by simp))
 clear hg hpp hsz hd
 unfold k521 B52 Tryd.f52 seq1 seq2
 simp only [Option.getD_some,lits,Nat.reduceAdd,u0,u1,u2,u6,u7]
 clear u0 u1 u2 u6 u7
 go_wp2_with (first
  |(go_at_call 59;refine H19.out.mono ?_;rintro e w1 ⟨rfl,rfl⟩))
 first
  |exact ⟨rfl,⟨rfl,rfl,by
    intro p hp
    simp only [List.mem_cons,List.not_mem_nil,or_false] at hp
    rcases hp with rfl|rfl|rfl|rfl|rfl<;>rfl⟩,rfl,rfl,rfl⟩
  |exact ⟨⟨rfl,rfl,by
    intro p hp
    simp only [List.mem_cons,List.not_mem_nil,or_false] at hp
    rcases hp with rfl|rfl|rfl|rfl|rfl<;>rfl⟩,rfl,rfl,rfl⟩
  |exact ⟨rfl,rfl,by
    intro p hp
    simp only [List.mem_cons,List.not_mem_nil,or_false] at hp
    rcases hp with rfl|rfl|rfl|rfl|rfl<;>rfl⟩
theorem k522_yes (h1:1≤m) (h2:m≤16) (hA:Fl 28 [(0,Pt S.wb 0),(1,I m),(2,.slice p n cap),(6,.slice none 0 0),(7,I 0)] a):k522.wp Tryd.prog (fun e a w'=>e=.normal∧Fl 28 [(0,Pt S.wb 0),(1,I m),(2,.slice p n cap),(6,.slice none 0 0),(7,I 0)] a∧w'.heap=v.heap∧w'.os=v.os∧w'.output=v.output) a v:=by
 have g1:decide (m<1)=false:=decide_eq_false (by omega)
 have g2:decide (m > 16)=false:=decide_eq_false (by omega)
 have g3:¬ m<1:=by omega
 have g4:¬ m > 16:=by omega
 obtain ⟨hsz,hd,hpp⟩:=hA
 obtain ⟨u,rfl,hg⟩:=litN hsz hd
 have u0:=(hg 0).symm.trans (hpp (0,Pt S.wb 0) (by simp))
 have u1:=(hg 1).symm.trans (hpp (1,I m) (by simp))
 have u2:=(hg 2).symm.trans (hpp (2,.slice p n cap) (by simp))
 have u6:=(hg 6).symm.trans (hpp (6,.slice none 0 0) (by simp))
 have u7:=(hg 7).symm.trans (hpp (7,I 0) (by simp))
 clear hg hpp hsz hd
 unfold k522 B52 Tryd.f52 seq1 seq2
 simp only [Option.getD_some,lits,Nat.reduceAdd,u0,u1,u2,u6,u7]
 clear u0 u1 u2 u6 u7
 go_wp2_with fail
 first
  |exact ⟨rfl,⟨rfl,rfl,by
    intro p hp
    simp only [List.mem_cons,List.not_mem_nil,or_false] at hp
    rcases hp with rfl|rfl|rfl|rfl|rfl<;>rfl⟩,rfl,rfl,rfl⟩
  |exact ⟨⟨rfl,rfl,by
    intro p hp
    simp only [List.mem_cons,List.not_mem_nil,or_false] at hp
    rcases hp with rfl|rfl|rfl|rfl|rfl<;>rfl⟩,rfl,rfl,rfl⟩
  |exact ⟨rfl,rfl,by
    intro p hp
    simp only [List.mem_cons,List.not_mem_nil,or_false] at hp
    rcases hp with rfl|rfl|rfl|rfl|rfl<;>rfl⟩
end
structure GF (pk0:Nat→Option Obj):Prop where
 a:∃ c t f,pk0 6=some (.cells c t f)∧c[0]? = some (I 0)∧c[1]? = some (I 32)
 b:∃ c t f,pk0 7=some (.cells c t f)∧c[0]? = some (I 32)∧c[1]? = some (I 30)
def QCtr (s:Nat) (caps:Array Value) (pk:Nat→Option Obj) (K:List (Nat×Int)):Prop :=
 0<s∧s≤16∧∃ pk0 N,7<N∧GF pk0∧caps=#[Pt (N+1) 0]∧pk=pkN pk0 s N K∧K.length=s
theorem mineCtr (s:Nat) (caps:Array Value) (pk:Nat→Option Obj) (K:List (Nat×Int)) (h:QCtr s caps pk K) (X:Fix (mcC s)) (hf:X.fid=86) (hc:X.caps=caps) (hp:X.pk=pk) (hk:X.kb=K.map (·.1)):(pkgC s).Mine X:=by
 obtain ⟨h0,h1,pk0,N,hN,hG,rfl,rfl,hK⟩:=h
 refine ⟨N+1,N,hc,fun v hv=>?_⟩
 rw [hp] at hv
 have e0:=hv (N+1) (.cells #[.slice (some ⟨N,0,none⟩) s s] 138 (0,0)) (by unfold pkN;rw [padd_ne (by omega),padd_at])
 have e1:=hv N (objP s K) (by unfold pkN;rw [padd_at])
 refine ⟨⟨cell_of e0 rfl,fun j hj=>?_,h0,h1⟩,?_⟩
 ·obtain ⟨c,hcj⟩:∃ c,K[j]? = some c:=⟨_,List.getElem?_eq_getElem (by omega)⟩
  refine ⟨c.1,by rw [hk,List.getElem?_map,hcj];rfl,cell_of e1 ?_⟩
  unfold rowP
  simp [hj,hcj]
 ·obtain ⟨c6,t6,f6,g6,a0,a1⟩:=hG.a
  obtain ⟨c7,t7,f7,g7,b0,b1⟩:=hG.b
  have q6:=hv 6 _ (by unfold pkN;rw [padd_ne (by omega),padd_ne (by omega)];exact g6)
  have q7:=hv 7 _ (by unfold pkN;rw [padd_ne (by omega),padd_ne (by omega)];exact g7)
  exact ⟨cell_of q6 a0,cell_of q6 a1,cell_of q7 b0,cell_of q7 b1⟩
theorem cplay_in {Ch:Nat→Prop} {Stop:Goroutine→World→Prop} {main:Bool} {S:TS} {v w:World} (s:Nat) (h0:0<s) (h1:s≤16) {pk0:Nat→Option Obj} (hG:GF pk0) (hO:Objs v S [] pk0 S [] v) (hlt:∀ b,pk0 b≠none→b<v.heap.size) (p:Option Addr) (n cap:Nat) (hn8:0<n∧n≤8) (hran:S.ran=false) (pc:Nat→Option Addr) (ln cp:Nat→Nat) (hs:∀ k,k<n→∃ sb so,p=some ⟨sb,so,none⟩∧v.cell? ⟨sb,so+k,none⟩=some (.slice (pc k) (ln k) (cp k))) (hln:∀ k,k<n→ln k≤64)
 (cs:List Frame) {bc:Frame} {ac:Act} {ops:Array Oper} {q:Nat} {rest:List Nat} {oc:Oper} {k:List Item} (hoc:ops[q]? = some oc)
 (hvw:Rel zn v w) (hn:NoRow Ch v)
 (hk:∀ v' w' (bd:Frame) (ad:Act) (od:Array Oper) (qd:Nat) (rd:List Nat) (oe:Oper) (kd:List Item) (caps:Array Value) (pk:Nat→Option Obj) (S1:TS) (K:List (Nat×Int)),Rel zn v' w'→NoRow Ch v'→Objs v S (List.replicate s 0) pk S1 K v'→QCtr s caps pk K→od[qd]? = some oe →
   (∀ (Ch:Nat→Prop) (Stop:Goroutine→World→Prop) (w:World) (x:Value),(∀ d,GoesI Tryd.prog main (DT (ScZ zn) Ch) Stop (G (bc.at (ac.put oc.dst (.tuple #[x,I 0])) (.inRegion ops rest :: k)) cs) (w.at d))→GoesI Tryd.prog main (DT (ScZ zn) Ch) Stop (G (bd.at (ad.put oe.dst x) (.inRegion od rd :: kd)) (bc.at ac (.inRegion ops (q :: rest) :: k) :: cs)) w) →
   GoesI Tryd.prog main (DT (ScZ zn) Ch) Stop (G ((base 60).at { tmps:=#[Pt S.wb 0,.slice p n cap,.func (.func 86) ((mcC s).bn caps) ((mcC s).fr caps)]++Array.replicate 36 undef,defers:=[] } [.code B20]) (bd.at ad (.inRegion od (qd :: rd) :: kd) :: bc.at ac (.inRegion ops (q :: rest) :: k) :: cs)) w') :
 GoesI Tryd.prog main (DT (ScZ zn) Ch) Stop (G ((base 52).at { tmps:=#[Pt S.wb 0,I s,.slice p n cap]++Array.replicate 25 undef,defers:=[] } [.code B52]) (bc.at ac (.inRegion ops (q :: rest) :: k) :: cs)) w:=by
 rw [eB52]
 have hA0:Fl 28 [(0,Pt S.wb 0),(1,I s),(2,.slice p n cap)] { tmps:=#[Pt S.wb 0,I s,.slice p n cap]++Array.replicate 25 undef,defers:=[] }:=by
  simp only [Array.replicate_succ,Array.replicate_zero,List.push_toArray,List.append_toArray,List.nil_append,List.cons_append]
  exact ⟨rfl,rfl,by
   intro p hp
   simp only [List.mem_cons,List.not_mem_nil,or_false] at hp
   rcases hp with rfl|rfl|rfl<;>rfl⟩
 refine goesI_seq (dt_idle _ _) ?_
 refine goesI_plain (z:=zn) (wr:=true) (L:=LV) (I:=NoRow Ch) hE fineV noRow_keeps (fun v v' w w' es hi hr ho he=>dt_of_z v v' w w' es hi hr ho he) hvw fine_k520 hA0.2.1 (by simp [base]) hn (Q:=fun a w'=>Fl 28 [(0,Pt S.wb 0),(1,I s),(2,.slice p n cap),(6,.slice none 0 0),(7,I 0)] a∧w'.heap=v.heap∧w'.os=v.os∧w'.output=v.output) (fun τ=>k520_wp (v:=onTape v τ 0) hA0) ?_
 rintro a0 v0 w0 ⟨hB0,e0,o0,u0⟩ hr0 hn0 -
 have m0:Mem zn S [] v0:=(hO.cel.mem.grows (v':=v0) ⟨by rw [e0];exact Nat.le_refl _,fun b _=>by rw [e0],o0,u0⟩).mem
 have hs0:∀ τ,∀ k,k<n→∃ sb so,p=some ⟨sb,so,none⟩∧(onTape v0 τ 0).cell? ⟨sb,so+k,none⟩=some (.slice (pc k) (ln k) (cp k)):=fun τ k hk=>by
  obtain ⟨sb,so,h1,h2⟩:=hs k hk
  exact ⟨sb,so,h1,by rw [World.cell?_of_block (w:=v) (w':=onTape v0 τ 0) (by show v0.heap[_]? = _;rw [e0])];exact h2⟩
 refine goesI_seq (dt_idle _ _) ?_
 refine goesI_plain (z:=zn) (wr:=true) (L:=LV) (I:=NoRow Ch) hE fineV noRow_keeps (fun v v' w w' es hi hr ho he=>dt_of_z v v' w w' es hi hr ho he) hr0 fine_k521 hB0.2.1 (by simp [base]) hn0 (Q:=fun a w'=>Fl 28 [(0,Pt S.wb 0),(1,I s),(2,.slice p n cap),(6,.slice none 0 0),(7,I 0)] a∧w'.heap=v0.heap∧w'.os=v0.os∧w'.output=v0.output) (fun τ=>k521_yes (v:=onTape v0 τ 0) (m0.grows (v':=onTape v0 τ 0) ⟨Nat.le_refl _,fun _ _=>rfl,rfl,rfl⟩).mem.rep pc ln cp (hs0 τ) hln hn8 hran hB0) ?_
 rintro a1 v1 w1 ⟨hB1,e1,o1,u1⟩ hr1 hn1 -
 refine goesI_seq (dt_idle _ _) ?_
 refine goesI_plain (z:=zn) (wr:=true) (L:=LV) (I:=NoRow Ch) hE fineV noRow_keeps (fun v v' w w' es hi hr ho he=>dt_of_z v v' w w' es hi hr ho he) hr1 fine_k522 hB1.2.1 (by simp [base]) hn1 (Q:=fun a w'=>Fl 28 [(0,Pt S.wb 0),(1,I s),(2,.slice p n cap),(6,.slice none 0 0),(7,I 0)] a∧w'.heap=v1.heap∧w'.os=v1.os∧w'.output=v1.output) (fun τ=>k522_yes (v:=onTape v1 τ 0) (by omega) (by omega) hB1) ?_
 rintro a2 v2 w2 ⟨hB2,e2,o2,u2⟩ hr2 hn2 -
 have e20:v2.heap=v.heap:=e2.trans (e1.trans e0)
 have O2:Objs v2 S [] pk0 S [] v2:=⟨Cel.refl (hO.cel.mem.grows (v':=v2) ⟨by rw [e20];exact Nat.le_refl _,fun b _=>by rw [e20],o2.trans (o1.trans o0),u2.trans (u1.trans u0)⟩).mem,rfl,hO.st,fun b o hb=>by rw [e20];exact hO.has b o hb,fun b hb=>by have:=hO.new b hb;rw [e20];exact this,hO.row⟩
 have hlt2:∀ b,pk0 b≠none→b<v2.heap.size:=fun b hb=>by rw [e20];exact hlt b hb
 obtain ⟨hsz,hd,hpp⟩:=hB2
 obtain ⟨u,rfl,hg⟩:=litN hsz hd
 have u0:=(hg 0).symm.trans (hpp (0,Pt S.wb 0) (by simp))
 have u1:=(hg 1).symm.trans (hpp (1,I s) (by simp))
 have u2:=(hg 2).symm.trans (hpp (2,.slice p n cap) (by simp))
 have u6:=(hg 6).symm.trans (hpp (6,.slice none 0 0) (by simp))
 have u7:=(hg 7).symm.trans (hpp (7,I 0) (by simp))
 clear hg hpp hsz hd
 unfold R52 B52 Tryd.f52 seq2
 simp only [Option.getD_some,lits,Nat.reduceAdd,u0,u1,u2,u6,u7]
 clear u0 u1 u2 u6 u7
 refine goesI_seq (dt_idle _ _) ?_
 refine goesI_region (dt_idle _ _) ?_
 simp only [List.size_toArray,List.length_cons,List.length_nil,Nat.reduceAdd,Nat.zero_add,List.range,List.range.loop]
 iterate 4
  (refine goesI_oper rfl rfl (by decide) (fun d K hK=>?_)
   go_simp
   refine hK _ _ ⟨dt_reads (fun e he=>?_),GoesI.at ?_ d⟩
   ·have hm:=mem_listed he
    simp [go_sem, *] at hm
    try exact ⟨_,_,hm⟩
   clear hK K)
 refine goesI_call (L:=LV) (f:=54) (fn:=Tryd.f54) (args:=#[Pt S.wb 0,I s]) hE fineV rfl rfl (by decide) rfl (by simp [Act.eval]) Tryd.func54 (by kernel_rfl) rfl (fineFn_body fineV (by simp [LV,plainV]) Tryd.func54 rfl) (fun tmps=>⟨_,fun w=>results_tmp rfl _ _ _,fun w=>by simp [results,go_sem,Tryd.f54]⟩) hr2 hn2
  (R:=fun r v4=>r=Pt (v2.heap.size+1) 0∧∃ S1 K,K.length=s∧Objs v2 S (List.replicate s 0) (pkN pk0 s v2.heap.size K) S1 K v4) (fun τ=>?_) (fun r v4 w4 hR hr4 hn4=>?_)
 ·have Oτ:Objs (onTape v2 τ 0) S [] pk0 S [] (onTape v2 τ 0):=⟨Cel.refl (O2.cel.mem.grows (v':=onTape v2 τ 0) ⟨Nat.le_refl _,fun _ _=>rfl,rfl,rfl⟩).mem,rfl,O2.st,O2.has,O2.new,O2.row⟩
  refine wp_mono (body54 Oτ hlt2 s h0 h1 _ rfl) (bp_mono fun r u hq=>⟨hq.1,?_⟩)
  obtain ⟨_,S1,K,h2,o⟩:=hq
  exact ⟨S1,K,h2,⟨o.cel.from rfl rfl rfl,o.vals,o.st,o.has,o.new,o.row⟩⟩
 obtain ⟨rfl,S1,K,hKl,ob4⟩:=hR
 have hset:Objs v S (List.replicate s 0) (pkN pk0 s v2.heap.size K) S1 K v4 :=
  ⟨ob4.cel.from e20 (o2.trans (o1.trans o0)) (u2.trans (u1.trans u0)),ob4.vals,ob4.st,ob4.has,fun b hb=>by rw [←e20];exact ob4.new b hb,ob4.row⟩
 have h7:7<v2.heap.size:=by
  obtain ⟨c,t,f,hg,_⟩:=hG.b
  exact hlt2 7 (by rw [hg];simp)
 have hql:QCtr s #[Pt (v2.heap.size+1) 0] (pkN pk0 s v2.heap.size K) K:=⟨h0,h1,pk0,v2.heap.size,h7,hG,rfl,rfl,hKl⟩
 clear ob4 hr0 hr1 hr2 hn0 hn1 hn2 e0 e1 e2 e20 o0 o1 o2 u0 u1 u2 hvw hn hs hs0 hln m0 O2 hlt2 hO hlt
 walk_nrm
 iterate 1
  (refine goesI_oper rfl rfl (by decide) (fun d K hK=>?_)
   go_simp
   refine hK _ _ ⟨dt_reads (fun e he=>?_),GoesI.at ?_ d⟩
   ·have hm:=mem_listed he
    simp [go_sem, *] at hm
    try exact ⟨_,_,hm⟩
   clear hK K)
 refine goesI_into (f:=60) (fn:=Tryd.f60) (args:=#[Pt S.wb 0,.slice p n cap,.func (.func 86) #[Pt (v2.heap.size+1) 0] #[]]) (dt_idle _ _) rfl rfl (by decide) rfl (by simp [Act.eval]) Tryd.func60 (by decide) rfl ?_
 refine hk v4 w4 _ _ _ _ _ _ _ _ _ _ _ hr4 hn4 hset hql rfl (fun Ch Stop w x hg=>?_)
 clear hk hset hr4 hn4 hql
 iterate 2
  (refine goesI_oper rfl rfl (by decide) (fun d K hK=>?_)
   go_simp
   refine hK _ _ ⟨dt_reads (fun e he=>?_),GoesI.at ?_ d⟩
   ·have hm:=mem_listed he
    simp [go_sem, *] at hm
    try exact ⟨_,_,hm⟩
   clear hK K)
 refine goesI_regionEnd (dt_idle _ _) ?_
 refine GoesI.ctl rfl (fun _=>stepG_ret') (dt_idle _ _) ?_
 refine goesI_leave (b:=base 52) (fn:=Tryd.f52) (v:=.tuple #[x,I 0]) rfl rfl Tryd.func52 (fun w=>?_) (fun w=>by simp [results,go_sem,Tryd.f52]) hoc (dt_idle _ _) ?_
 ·rw [results_tmp2 (t:=6) (u:=7) rfl]
  simp
 ·have:=hg w.drawn
  exact this
section
variable {S:TS} {n sb so cap:Nat} {pc:Nat→Option Addr} {ln cp rb:Nat→Nat} {cl:Nat→List Cl}
theorem cplay_all (s:Nat) (h0:0<s) (h1:s≤16) {cs:List Frame} {bc:Frame} {ac:Act} {ops:Array Oper} {q0:Nat} {rest:List Nat} {oc:Oper} {k0:List Item} (hoc:ops[q0]? = some oc) {w:World} {T:Trace} {gs:Array Goroutine} {q:Nat→Nat} (sl:Option (Nat×Nat)) (NT:Nat) (A:Alone gs w T q)
 (hg:gs[0]? = some (G ((base 52).at { tmps:=#[Pt S.wb 0,I s,.slice (some ⟨sb,so,none⟩) n cap]++Array.replicate 25 undef,defers:=[] } [.code B52]) (bc.at ac (.inRegion ops (q0 :: rest) :: k0) :: cs)))
 (hm:Mem zn S [] w) (hthr:S.thr=[]) (hran:S.ran=false) (hch:S.chg=[]) (hbk:Open w S.bk) {pk0:Nat→Option Obj} (hG:GF pk0) (hpk:Has pk0 w) (hpf:∀ b,pk0 b≠none→¬ Own S [] b∧b≠S.bk) (hpr:∀ b o,pk0 b=some o→∃ c e f,o=.cells c e f) (t:Asked w S n sb so pc ln cp rb cl) (hn8:0<n∧n≤8)
 (hlen:∀ caps pk N K,S.n+2*lens (scrs (mcC s) 86 caps pk N n K pc ln cp rb cl)≤1000000) (hsl:S.sched.length≤4611686018427387904) (hsc:∀ x∈S.sched,-9223372036854775808≤x∧x<9223372036854775808) (l0:Nat→Ph)
 (hturn:∀ (caps:Array Value) (pk:Nat→Option Obj) (N:Nat) (cv:Value) (K:List (Nat×Int)),K.map (·.2)=List.replicate s 0→∀ S1 l1,Hires (mcC s) 0 (scrs (mcC s) 86 caps pk N n K pc ln cp rb cl) (nv { cellsS S cv (List.replicate s (0:Int)).length with ran:=true }) l0 S1 l1→∃ m p',m≤NT∧Turns (mcC s) m ⟨S1,K,l1⟩ p'∧p'.S.n*40≤140737488355328) :
 ∃ (N':Nat) (gs':Array Goroutine) (w':World) (sl':Option (Nat×Nat)) (T':Trace) (q':Nat→Nat) (caps:Array Value) (pk:Nat→Option Obj) (N:Nat) (cv:Value) (K:List (Nat×Int)) (S':TS) (S1:TS) (l1:Nat→Ph) (m:Nat) (p':PSt),
   runNT Tryd.prog N' (crowd gs w sl) T=(.next (crowd gs' w' sl'),T')∧gs'.size=gs.size+n∧gs'[0]? = some (G (bc.at (ac.put oc.dst (.tuple #[.slice (some ⟨N+1,0,none⟩) n n,I 0])) (.inRegion ops rest :: k0)) cs) ∧
   Alone gs' w' T' q'∧K.map (·.2)=List.replicate s 0∧nv S'=p'.S∧Hires (mcC s) 0 (scrs (mcC s) 86 caps pk N n K pc ln cp rb cl) (nv { cellsS S cv (List.replicate s (0:Int)).length with ran:=true }) l0 S1 l1∧Turns (mcC s) m ⟨S1,K,l1⟩ p'∧GOut w S n ln N S' p'.K p'.l w':=by
 refine gplay_all (xs:=List.replicate s 0) (cap:=cap) (q0:=q0) (pkgC s) (mineCtr s) sl NT A hg ?_ hm hthr hran hbk t hn8 hlen hsl hsc l0 hturn
 exact cplay_in s h0 h1 hG (Objs.startG hm hch hpk hpf hpr) (fun b hb=>by
  obtain ⟨o,ho⟩:=Option.ne_none_iff_exists'.1 hb
  exact (Array.getElem?_eq_some_iff.1 (hpk b o ho)).1) (some ⟨sb,so,none⟩) n cap hn8 hran pc ln cp (fun k hk=>⟨sb,so,rfl,t.row k hk⟩) (fun k hk=>(t.len k hk).2) cs hoc (Rel.refl w) (fun c hc=>hc.elim)
  (fun v' w' bd ad od qd rd oe kd caps pk S1 K hr hn ho hq hoe hback=>GoesI.stop fun d=>⟨bd,ad,od,qd,rd,oe,kd,caps,pk,S1,K,ho.same hr.eq hr.os hr.output,hq,hoe,hback,rfl⟩)
end
structure Rws (M:Nat) (n:Nat) (A cp ln:Nat→Nat) (e x:Nat→Nat→Int) (v:World):Prop where
 row:∀ k,k<n→v.cell? ⟨M,k,none⟩=some (.slice (some ⟨A k,0,none⟩) (ln k) (cp k))
 ans:∀ k,k<n→∀ j,j<ln k→v.cell? ⟨A k,j*2,none⟩=some (I (e k j))∧v.cell? ⟨A k,j*2+1,none⟩=some (I (x k j))
theorem Rws.same {M n:Nat} {A cp ln:Nat→Nat} {e x:Nat→Nat→Int} {v v':World} (h:Rws M n A cp ln e x v) (hh:v'.heap=v.heap):Rws M n A cp ln e x v':=by
 have hc:∀ a,v'.cell? a=v.cell? a:=fun a=>World.cell?_of_block (w:=v) (w':=v') (by rw [hh])
 exact ⟨fun k hk=>by rw [hc];exact h.row k hk,fun k hk j hj=>by rw [hc,hc];exact h.ans k hk j hj⟩
def Sam (v u:World):Prop:=u.heap=v.heap∧u.os=v.os∧u.output=v.output
theorem body58 {v:World} (M M' n c1 c2:Nat) {A B ca cb ln:Nat→Nat} {e x:Nat→Nat→Int} (h1:Rws M n A ca ln e x v) (h2:Rws M' n B cb ln e x v) (hn:n≤1000000) (hln:∀ k,k<n→ln k≤1000000) :
 Body Tryd.f58 #[.slice (some ⟨M,0,none⟩) n c1,.slice (some ⟨M',0,none⟩) n c2] v (fun r v'=>r=.bool true∧v'.heap=v.heap∧v'.os=v.os∧v'.output=v.output):=by
 intro code hb
 obtain rfl:=Option.some.inj hb
 clear hb
 have H1:Hid (∀ u,Sam v u→Rws M n A ca ln e x u∧Rws M' n B cb ln e x u):=⟨fun u hu=>⟨h1.same hu.1,h2.same hu.1⟩⟩
 have HL:Hid (∀ k,k<n→ln k≤1000000):=⟨hln⟩
 clear h1 h2 hln
 simp only [Tryd.ntmps58,List.size_toArray,List.length_cons,List.length_nil,Nat.reduceAdd,Nat.reduceSub,Array.replicate_succ,Array.replicate_zero,List.push_toArray,List.append_toArray,List.nil_append,List.cons_append]
 go_wp2_with fail
 go_loopw [5] (fun i u=>∃ k:Nat,k≤n∧i=.int .i64 k∧Hid (Sam v u)) (fun i _=>n - (intOf i).toNat)
 case atStart=>exact ⟨0,Nat.zero_le _,rfl,⟨rfl,rfl,rfl⟩⟩
 case round =>
  obtain ⟨k,hk,rfl,hs⟩:=hrel
  by_cases hlt:k<n
  ·obtain ⟨r1,r2⟩:=H1.out wr hs.out
   have a1:=r1.row k hlt
   have a2:=r2.row k hlt
   have hl:=HL.out k hlt
   clear r1 r2
   have hlt':(k:Int)<(n:Int):=by omega
   have hnl:¬ n≤k:=by omega
   obtain ⟨wo,hwo⟩:∃ wo,wo=wr:=⟨wr,rfl⟩
   rw [←hwo] at hs a1 a2 ⊢
   clear hwo
   go_wp2_with fail
   go_quiet (fail)
   go_wp2_with fail
   go_loopw [6] (fun i u=>∃ j:Nat,j≤ln k∧i=.int .i64 j∧Hid (Sam v u)) (fun i _=>ln k - (intOf i).toNat)
   case atStart=>exact ⟨0,Nat.zero_le _,rfl,hs.out.1,hs.out.2.1,hs.out.2.2⟩
   case round =>
    obtain ⟨j,hj,rfl,hs2⟩:=hrel
    obtain ⟨r1,r2⟩:=H1.out wr hs2.out
    have b1:=r1.row k hlt
    have b2:=r2.row k hlt
    by_cases hjl:j<ln k
    ·have c1':=r1.ans k hlt j hjl
     have c2':=r2.ans k hlt j hjl
     obtain ⟨x1,x2⟩:=c1'
     obtain ⟨y1,y2⟩:=c2'
     clear r1 r2 a1 a2
     have hjl':(j:Int)<(ln k:Int):=by omega
     have hnj:¬ ln k≤j:=by omega
     go_wp2_with fail
     go_quiet (fail)
     go_wp2_with fail
     go_roundw
     case rel=>exact ⟨j+1,by omega,by go_num,hs2.out.1,hs2.out.2.1,hs2.out.2.2⟩
     case measure=>simp [intOf];omega
    ·have hjj:j=ln k:=by omega
     subst hjj
     clear r1 r2 a1 a2
     go_wp2_with fail
     go_roundw
     case rel=>exact ⟨k+1,by omega,by go_num,hs2.out.1,hs2.out.2.1,hs2.out.2.2⟩
     case measure=>simp [intOf];omega
  ·have hkk:k=n:=by omega
   subst hkk
   go_wp2_with fail
   go_ret
   exact ⟨_,rfl,rfl,hs.out.1,hs.out.2.1,hs.out.2.2⟩
variable {mc:Mc}
theorem turns_det:∀ {m m':Nat} {p p1 p2:PSt},Turns mc m p p1→Turns mc m' p p2→p1=p2
 |_,_,_,_,_,.stop h,.stop h'=>rfl
 |_,_,_,_,_,.stop h,.step h' _=>by rw [h] at h';cases h'
 |_,_,_,_,_,.step h _,.stop h'=>by rw [h] at h';cases h'
 |_,_,_,_,_,.step h t,.step h' t'=>by
  rw [h] at h'
  cases h'
  exact turns_det t t'
def pt (mc:Mc) (p:PSt):PSt:=(pturn mc p).getD p
def pts (mc:Mc):Nat→PSt→PSt
 |0,p=>p
 |n+1,p=>pts mc n (pt mc p)
def runs (mc:Mc):Nat→PSt→Bool
 |0,p=>(pturn mc p).isNone
 |n+1,p=>(pturn mc p).isSome&&runs mc n (pt mc p)
theorem turns_of:∀ (n:Nat) (p:PSt),runs mc n p=true→Turns mc n p (pts mc n p)
 |0,p,h=>by
  refine .stop ?_
  cases hp:pturn mc p with
  |none=>rfl
  |some x=>unfold runs at h;rw [hp] at h;cases h
 |n+1,p,h=>by
  unfold runs at h
  rw [Bool.and_eq_true] at h
  refine .step ?_ (turns_of n (pt mc p) h.2)
  unfold pt
  cases hp:pturn mc p with
  |none=>rw [hp] at h;cases h.1
  |some x=>rfl
end Go.Proofs.YtfjjoohflcchnaaDoor.Gen
namespace Go.Proofs.YtfjjoohflcchnaaDoor.Gen
open Go Go.Lift Go.Conc Go.RowKit
open Go.ConcN (upd upd_same upd_ne)
def clW (j:Nat):List Cl:=if j=0 then [⟨1,5,0,0⟩,⟨2,0,0,0⟩] else [⟨1,-7,0,0⟩]
def lnW (j:Nat):Nat:=if j=0 then 2 else 1
def an0 (j:Nat):List (Int×Int):=List.replicate (lnW j) (0,0)
def awST (wb bk base:Nat) (sc cv:Value) (k:Nat):TS:=nv { cellsS (newS wb bk base sc []) cv k with ran:=true }
def awF (wb bk base:Nat) (sc cv:Value) (tv0:Value) (tb0 gc0:Nat):TS×Ph:=flow 0 (mcC 2) (clW 0) 0 false (an0 0) (hiredS (awST wb bk base sc cv 2) tv0 tb0 gc0)
def awG (wb bk base:Nat) (sc cv:Value) (tv0:Value) (tb0 gc0:Nat) (tv1:Value) (tb1 gc1:Nat):TS×Ph:=flow 1 (mcC 2) (clW 1) 0 false (an0 1) (hiredS (awF wb bk base sc cv tv0 tb0 gc0).1 tv1 tb1 gc1)
def awPT (wb bk base:Nat) (sc cv:Value) (tv0:Value) (tb0 gc0:Nat) (tv1:Value) (tb1 gc1:Nat) (cb0 cb1:Nat) (l0:Nat→Ph):PSt :=
 ⟨(awG wb bk base sc cv tv0 tb0 gc0 tv1 tb1 gc1).1,[(cb0,0),(cb1,0)],upd (upd l0 0 (awF wb bk base sc cv tv0 tb0 gc0).2) 1 (awG wb bk base sc cv tv0 tb0 gc0 tv1 tb1 gc1).2⟩
section
variable (wb bk base:Nat) (sc cv:Value) (tv0:Value) (tb0 gc0:Nat) (tv1:Value) (tb1 gc1:Nat) (cb0 cb1:Nat) (l0:Nat→Ph)
set_option maxRecDepth 100000
theorem awt_runs:runs (mcC 2) 8 (awPT wb bk base sc cv tv0 tb0 gc0 tv1 tb1 gc1 cb0 cb1 l0)=true:=by kernel_rfl
theorem awt_n:(pts (mcC 2) 8 (awPT wb bk base sc cv tv0 tb0 gc0 tv1 tb1 gc1 cb0 cb1 l0)).S.n=14:=by kernel_rfl
theorem awt_ans:((pts (mcC 2) 8 (awPT wb bk base sc cv tv0 tb0 gc0 tv1 tb1 gc1 cb0 cb1 l0)).l 0).ans=[(0,0),(0,-2)]∧((pts (mcC 2) 8 (awPT wb bk base sc cv tv0 tb0 gc0 tv1 tb1 gc1 cb0 cb1 l0)).l 1).ans=[(0,0)]:=⟨by kernel_rfl,by kernel_rfl⟩
end
end Go.Proofs.YtfjjoohflcchnaaDoor.Gen
