/- StackVersions, for every schedule, number of slots and scripts: a change of HEAD is done just if HEAD is what it was when it was loaded, and each change has the next version. No conditions. Part 34 of 34. (Joined, by program, and written short, of: StAw4, La9F, GOpens, GRowL, La9Row, La9Card.) -/
import Derived.Test.YtbbhahigofeacaaDoorStackVersions15
import Derived.Test.YtbbhahigofeacaaDoorStackVersions25
import Derived.Test.YtbbhahigofeacaaDoorStackVersions29
import Derived.Test.YtbbhahigofeacaaDoorStackVersions30
import Derived.Test.YtbbhahigofeacaaDoorStackVersions33
import Derived.Conc.LeavingOf
import Derived.ProofKit
import Derived.OpenShut
import Derived.ChangeOld
import Derived.SizedLaws
import Derived.Lib.SmallJoins
import Derived.Deep.SlicePairs
import Derived.Test.YtbbhahigofeacaaDoorRows
import Derived.LaidLaws
import Derived.LaidHandle
import Derived.Lay
import Derived.Test.YtbbhahigofeacaaDoorTie
import Derived.Test.YtbbhahigofeacaaDoorCards
import Derived.SevenTiedAt
set_option linter.unusedSimpArgs false
set_option linter.unusedVariables false
set_option maxHeartbeats 4000000
set_option maxRecDepth 100000
namespace Go.Proofs.YtbbhahigofeacaaDoor.Gen
open Go Go.Lift Go.Conc Go.RowKit
open Go.ConcN (upd upd_same upd_ne)
open R1 (fstI verI hdI)
structure Set9 (v:World) (wb bk:Nat) (sc:Value) (c:Nat) (u:World):Prop where
 mem:Mem zn (newS wb bk v.heap.size sc []) [] u
 opn:Open u bk
 calls:u.heap[c]? = some (.cells #[I 1,I 7,I 0,I 0,I 1,I 8,I 0,I 0,I 1,I 9,I 0,I 0,I 2,I 0,I 0,I 0,I 2,I 0,I 0,I 0,I 2,I 0,I 0,I 0] 50)
 scr:u.heap[c+1]? = some (.cells #[.slice (some ⟨c,0,none⟩) 6 6] 45)
 own:∀ b,Own (newS wb bk v.heap.size sc []) [] b∨b=bk→v.heap.size≤b∧b<c
 old:Grows v u
theorem Set9.same {v:World} {wb bk:Nat} {sc:Value} {c:Nat} {u u':World} (h:Set9 v wb bk sc c u) (e:u'.heap=u.heap) (e1:u'.os=u.os) (e2:u'.output=u.output):Set9 v wb bk sc c u':=by
 have g:Grows u u':=⟨by rw [e];exact Nat.le_refl _,fun b _=>by rw [e],e1,e2⟩
 refine ⟨(h.mem.grows g).mem,?_,by rw [e];exact h.calls,by rw [e];exact h.scr,h.own,⟨by rw [e];exact h.old.size,fun b hb=>by rw [e];exact h.old.old b hb,e1.trans h.old.os,e2.trans h.old.output⟩⟩
 obtain ⟨c,m,hh⟩:=h.opn
 exact ⟨c,m,by rw [e];exact hh⟩
theorem tawake_in {Ch:Nat→Prop} {Stop:Goroutine→World→Prop} {main:Bool} {v w:World} (cs:List Frame)
 (hk:∀ v' w' (wb bk:Nat) (sc:Value) (c:Nat) (bd:Frame) (ad:Act) (od:Array Oper) (qd:Nat) (rd:List Nat) (oe:Oper) (kd:List Item),Rel zn v' w'→NoRow Ch v'→Set9 v wb bk sc c v'→od[qd]? = some oe →
   (∀ (Ch:Nat→Prop) (Stop:Goroutine→World→Prop) (M:Nat) (w:World),(∀ a,Fl 137 [(0,.bool false),(2,.slice (some ⟨M,0,none⟩) 1 1),(3,I 0)] a→GoesI Tryd.prog main (DT (ScZ zn) Ch) Stop (G ((base 27).at a [.code Y3]) cs) w)→GoesI Tryd.prog main (DT (ScZ zn) Ch) Stop (G (bd.at (ad.put oe.dst (.tuple #[.slice (some ⟨M,0,none⟩) 1 1,I 0])) (.inRegion od rd :: kd)) cs) w) →
   GoesI Tryd.prog main (DT (ScZ zn) Ch) Stop (G ((base 28).at { tmps:=#[Pt wb 0,I 2,.slice (some ⟨c+1,0,none⟩) 1 1]++Array.replicate 27 undef,defers:=[] } [.code B28]) (bd.at ad (.inRegion od (qd :: rd) :: kd) :: cs)) w') (hvw:Rel zn v w) (hn:NoRow Ch v) :
 GoesI Tryd.prog main (DT (ScZ zn) Ch) Stop (G ((base 27).at { tmps:=Array.replicate 137 undef,defers:=[] } [.code hwB]) cs) w:=by
 rw [eHwB]
 have hA:Fl 137 [] { tmps:=Array.replicate 137 undef,defers:=[] }:=⟨by simp,rfl,fun p hp=>by cases hp⟩
 refine goesI_seq (dt_idle _ _) ?_
 refine goesI_plain (z:=zn) (wr:=true) (L:=LV) (I:=NoRow Ch) hE fineV noRow_keeps (fun v v' w w' es hi hr ho he=>dt_of_z v v' w w' es hi hr ho he) hvw fine_y0 hA.2.1 (by simp [base]) hn (Q:=fun a w'=>Fl 137 [(0,.bool false)] a∧w'.heap=v.heap∧w'.os=v.os∧w'.output=v.output) (fun τ=>y0_wp (v:=onTape v τ 0) hA) ?_
 rintro a0 v0 w0 ⟨hA0,e0,o0,u0⟩ hr0 hn0 -
 refine goesI_seq (dt_idle _ _) ?_
 refine goesI_plain (z:=zn) (wr:=true) (L:=LV) (I:=NoRow Ch) hE fineV noRow_keeps (fun v v' w w' es hi hr ho he=>dt_of_z v v' w w' es hi hr ho he) hr0 fine_y1 hA0.2.1 (by simp [base]) hn0
  (Q:=fun a w'=>∃ wb bk sc,Fl 137 [(0,.bool false),(1,Pt wb 0)] a∧IsNew v0 [] wb bk sc w') (fun τ=>?_) ?_
 ·refine wp_mono (y1_wp (v:=onTape v0 τ 0) hA0) (fun e a w' hq=>⟨hq.1,?_⟩)
  obtain ⟨_,wb,bk,sc,h1,h2⟩:=hq
  exact ⟨wb,bk,sc,h1,⟨h2.mem,h2.opn,h2.new,⟨h2.old.size,h2.old.old,h2.old.os,h2.old.output⟩⟩⟩
 rintro a1 v1 w1 ⟨wb,bk,sc,hA,hnew⟩ hr1 hn1 -
 have hset:Set9 v wb bk sc v1.heap.size ((v1.alloc (.cells #[I 1,I 7,I 0,I 0,I 1,I 8,I 0,I 0,I 1,I 9,I 0,I 0,I 2,I 0,I 0,I 0,I 2,I 0,I 0,I 0,I 2,I 0,I 0,I 0] 50)).alloc (.cells #[.slice (some ⟨v1.heap.size,0,none⟩) 6 6] 45)):=by
  have g1:Grows v1 ((v1.alloc (.cells #[I 1,I 7,I 0,I 0,I 1,I 8,I 0,I 0,I 1,I 9,I 0,I 0,I 2,I 0,I 0,I 0,I 2,I 0,I 0,I 0,I 2,I 0,I 0,I 0] 50)).alloc (.cells #[.slice (some ⟨v1.heap.size,0,none⟩) 6 6] 45)):=⟨by show _≤((v1.heap.push _).push _).size;simp;omega,fun b hb=>by show ((v1.heap.push _).push _)[b]? = _;rw [Array.getElem?_push,if_neg (by simp;omega),Array.getElem?_push,if_neg (by omega)],rfl,rfl⟩
  have hm1:=hnew.mem
  have hnn:=hnew.new
  rw [e0] at hm1 hnn
  refine ⟨(hm1.grows g1).mem,?_,?_,?_,fun b hb=>⟨hnn b hb,?_⟩,⟨?_,fun b hb=>?_,?_,?_⟩⟩
  ·obtain ⟨c,m,h⟩:=hnew.opn
   exact ⟨c,m,by rw [g1.old _ (Array.getElem?_eq_some_iff.1 h).1];exact h⟩
  ·show ((v1.heap.push _).push _)[v1.heap.size]? = _
   rw [Array.getElem?_push,if_neg (by simp)]
   exact Array.getElem?_push_size
  ·show ((v1.heap.push _).push _)[v1.heap.size+1]? = _
   rw [Array.getElem?_push,if_pos (by simp)]
  ·rcases hb with hb|rfl
   ·exact hm1.lt hb
   ·obtain ⟨c,m,h⟩:=hnew.opn
    exact (Array.getElem?_eq_some_iff.1 h).1
  ·have:=hnew.old.size;have:=g1.size;rw [e0] at *;omega
  ·rw [g1.old b (by have:=hnew.old.size;rw [e0] at this;omega),hnew.old.old b (by rw [e0];exact hb),e0]
  ·exact hnew.old.os.trans o0
  ·exact hnew.old.output.trans u0
 clear hnew hr0 hn0 e0 o0 u0 hvw hn
 obtain ⟨hsz,hd,hpp⟩:=hA
 obtain ⟨u,rfl,hg⟩:=litN hsz hd
 have u0:=(hg 0).symm.trans (hpp (0,.bool false) (by simp))
 have u1:=(hg 1).symm.trans (hpp (1,Pt wb 0) (by simp))
 clear hg hpp hsz hd
 refine goesI_seq (dt_idle _ _) ?_
 generalize hT:Y3=TT at hk ⊢
 unfold y2 hwB Tryd.f27 seq2 seq1
 simp only [Option.getD_some,lits,Nat.reduceAdd,u0,u1]
 clear u0 u1 hT
 refine goesI_region (dt_idle _ _) ?_
 simp only [List.size_toArray,List.length_cons,List.length_nil,Nat.reduceAdd,Nat.zero_add,List.range,List.range.loop]
 iterate 1
  (refine goesI_oper rfl rfl (by decide) (fun d K hK=>?_)
   go_simp
   refine hK _ _ ⟨dt_reads (fun e he=>?_),GoesI.at ?_ d⟩
   ·have hm:=mem_listed he
    simp [go_sem, *] at hm
    try exact ⟨_,_,hm⟩
    try (rcases hm with rfl|rfl<;>exact ⟨_,_,rfl⟩)
   clear hK K)
 refine goesI_opZ (L:=LV) rfl rfl (by decide) (fineOp_ask callV extT (by kernel_rfl)) hr1 hn1 (v':=v1) (x:=.agg #[I 1,I 7,I 0,I 0]) (by go_simp) rfl (fun wb0 hb0 hc0=>?_)
 refine goesI_opZ (L:=LV) rfl rfl (by decide) (fineOp_ask callV extT (by kernel_rfl)) hb0 hc0 (v':=v1) (x:=.agg #[I 1,I 8,I 0,I 0]) (by go_simp) rfl (fun wb1 hb1 hc1=>?_)
 refine goesI_opZ (L:=LV) rfl rfl (by decide) (fineOp_ask callV extT (by kernel_rfl)) hb1 hc1 (v':=v1) (x:=.agg #[I 1,I 9,I 0,I 0]) (by go_simp) rfl (fun wb2 hb2 hc2=>?_)
 refine goesI_opZ (L:=LV) rfl rfl (by decide) (fineOp_ask callV extT (by kernel_rfl)) hb2 hc2 (v':=v1) (x:=.agg #[I 2,I 0,I 0,I 0]) (by go_simp) rfl (fun wb3 hb3 hc3=>?_)
 refine goesI_opZ (L:=LV) rfl rfl (by decide) (fineOp_ask callV extT (by kernel_rfl)) hb3 hc3 (v':=v1) (x:=.agg #[I 2,I 0,I 0,I 0]) (by go_simp) rfl (fun wb4 hb4 hc4=>?_)
 refine goesI_opZ (L:=LV) rfl rfl (by decide) (fineOp_ask callV extT (by kernel_rfl)) hb4 hc4 (v':=v1) (x:=.agg #[I 2,I 0,I 0,I 0]) (by go_simp) rfl (fun wb5 hb5 hc5=>?_)
 refine goesI_opZ (L:=LV) rfl rfl (by decide) (fineOp_ask callV extT (by kernel_rfl)) hb5 hc5 (v':=v1.alloc (.cells #[I 1,I 7,I 0,I 0,I 1,I 8,I 0,I 0,I 1,I 9,I 0,I 0,I 2,I 0,I 0,I 0,I 2,I 0,I 0,I 0,I 2,I 0,I 0,I 0] 50)) (x:=.slice (some ⟨v1.heap.size,0,none⟩) 6 6) (by go_simp) rfl (fun w5 hr5 hn5=>?_)
 refine goesI_opZ (L:=LV) rfl rfl (by decide) (fineOp_ask callV extT (by kernel_rfl)) hr5 hn5 (v':=((v1.alloc (.cells #[I 1,I 7,I 0,I 0,I 1,I 8,I 0,I 0,I 1,I 9,I 0,I 0,I 2,I 0,I 0,I 0,I 2,I 0,I 0,I 0,I 2,I 0,I 0,I 0] 50)).alloc (.cells #[.slice (some ⟨v1.heap.size,0,none⟩) 6 6] 45))) (x:=.slice (some ⟨v1.heap.size+1,0,none⟩) 1 1) (by go_simp) rfl (fun w6 hr6 hn6=>?_)
 refine goesI_into (f:=28) (fn:=Tryd.f28) (args:=#[Pt wb 0,I 2,.slice (some ⟨v1.heap.size+1,0,none⟩) 1 1]) (dt_idle _ _) rfl rfl (by decide) rfl (by simp [Act.eval,Act.put]) Tryd.func28 (by decide) rfl ?_
 refine hk _ w6 wb bk sc v1.heap.size _ _ _ _ _ _ _ hr6 hn6 hset rfl (fun Ch Stop M ww hg=>?_)
 clear hk hset hr1 hr5 hr6 hn1 hn5 hn6 hb0 hb1 hb2 hb3 hb4 hb5 hc0 hc1 hc2 hc3 hc4 hc5
 iterate 5
  (refine goesI_oper rfl rfl (by decide) (fun d K hK=>?_)
   go_simp
   refine hK _ _ ⟨dt_reads (fun e he=>?_),GoesI.at ?_ d⟩
   ·have hm:=mem_listed he
    simp [go_sem, *] at hm
    try exact ⟨_,_,hm⟩
    try (rcases hm with rfl|rfl<;>exact ⟨_,_,rfl⟩)
   clear hK K)
 refine goesI_regionEnd (dt_idle _ _) ?_
 exact hg _ ⟨rfl,rfl,by
  intro p hp
  simp only [List.mem_cons,List.not_mem_nil,or_false] at hp
  rcases hp with rfl|rfl|rfl<;>rfl⟩
section
variable {wb bk base:Nat} {sc cv:Value} {b:Nat→Nat} {l0:Nat→Ph}
theorem hires_aw {caps:Array Value} {pk:Nat→Option Obj} {N c:Nat} {S1:TS} {l1:Nat→Ph} (h:Hires (mcT 2) 0 (scrs (mcT 2) 52 caps pk N 1 (cellsT b) (fun _=>some ⟨c,0,none⟩) (fun _=>6) (fun _=>6) (fun _=>c) (fun _=>clsT)) (awST wb bk base sc cv 10) l0 S1 l1) :
 ∃ tv0 tb0 gc0,(⟨S1,cellsT b,l1⟩:PSt)=awPT wb bk base sc cv tv0 tb0 gc0 b l0:=by
 have e:(scrs (mcT 2) 52 caps pk N 1 (cellsT b) (fun _=>some ⟨c,0,none⟩) (fun _=>6) (fun _=>6) (fun _=>c) (fun _=>clsT))=[scrOf (mcT 2) 52 caps pk N 1 ((cellsT b).map (·.1)) (fun _=>some ⟨c,0,none⟩) (fun _=>6) (fun _=>6) (fun _=>c) (fun _=>clsT) 0]:=rfl
 rw [e] at h
 cases h with
 |cons tv0 tb0 gc0 h =>
  cases h
  exact ⟨tv0,tb0,gc0,rfl⟩
end
theorem asked9 {v u:World} {wb bk:Nat} {sc:Value} {c:Nat} (s:Set9 v wb bk sc c u):Asked u (newS wb bk v.heap.size sc []) 1 (c+1) 0 (fun _=>some ⟨c,0,none⟩) (fun _=>6) (fun _=>6) (fun _=>c) (fun _=>clsT):=by
 refine ⟨fun j hj=>⟨rfl,by decide⟩,fun k hk=>?_,fun h=>by have:=(s.own _ (.inl h)).2;omega,fun j hj _=>⟨rfl,fun h=>by have:=(s.own _ (.inl h)).2;omega⟩,fun j hj k x hx=>?_,fun j hj x hx=>?_⟩
 ·obtain rfl:k=0:=by omega
  exact cell_of s.scr rfl
 ·match k,hx with
  |0,hx=>cases hx;exact ⟨cell_of s.calls rfl,cell_of s.calls rfl,cell_of s.calls rfl,cell_of s.calls rfl⟩
  |1,hx=>cases hx;exact ⟨cell_of s.calls rfl,cell_of s.calls rfl,cell_of s.calls rfl,cell_of s.calls rfl⟩
  |2,hx=>cases hx;exact ⟨cell_of s.calls rfl,cell_of s.calls rfl,cell_of s.calls rfl,cell_of s.calls rfl⟩
  |3,hx=>cases hx;exact ⟨cell_of s.calls rfl,cell_of s.calls rfl,cell_of s.calls rfl,cell_of s.calls rfl⟩
  |4,hx=>cases hx;exact ⟨cell_of s.calls rfl,cell_of s.calls rfl,cell_of s.calls rfl,cell_of s.calls rfl⟩
  |5,hx=>cases hx;exact ⟨cell_of s.calls rfl,cell_of s.calls rfl,cell_of s.calls rfl,cell_of s.calls rfl⟩
  |k+6,hx=>simp [clsT] at hx
 ·unfold clsT at hx
  simp only [List.mem_cons,List.not_mem_nil,or_false] at hx
  rcases hx with rfl|rfl|rfl|rfl|rfl|rfl<;>decide
theorem K_ten {K:List (Nat×Int)} (hK:K.map (·.2)=sts 2 2):∃ b,K=cellsT b:=by
 have e:sts 2 2=[hdI 1 0,2,0,0,0,0,0,0,0,0]:=rfl
 rw [e] at hK
 have hl:K.length=10:=by have:=congrArg List.length hK;simpa using this
 refine ⟨fun j=>((K[j]?).getD (0,0)).1,?_⟩
 match K,hK,hl with
 | [a,b,c,d,e,f,g,h,i,j],hK,_ =>
  simp only [List.map_cons,List.map_nil,List.cons.injEq,and_true] at hK
  obtain ⟨h0,h1,h2,h3,h4,h5,h6,h7,h8,h9⟩:=hK
  obtain ⟨a1,a2⟩:=a
  obtain ⟨b1,b2⟩:=b
  obtain ⟨c1,c2⟩:=c
  obtain ⟨d1,d2⟩:=d
  obtain ⟨e1,e2⟩:=e
  obtain ⟨f1,f2⟩:=f
  obtain ⟨g1,g2⟩:=g
  obtain ⟨i1,i2⟩:=h
  obtain ⟨j1,j2⟩:=i
  obtain ⟨k1,k2⟩:=j
  cases h0;cases h1;cases h2;cases h3;cases h4;cases h5;cases h6;cases h7;cases h8;cases h9
  rfl
theorem tawake_all {cs:List Frame} {bc:Frame} {ac:Act} {ops:Array Oper} {q0:Nat} {rest:List Nat} {oc:Oper} {k0:List Item} (hoc:ops[q0]? = some oc) {w:World} {T:Trace} {gs:Array Goroutine} {q:Nat→Nat} (sl:Option (Nat×Nat)) (A:Alone gs w T q) (hGl:Gl w)
 (hg:gs[0]? = some (G ((base 27).at { tmps:=Array.replicate 137 undef,defers:=[] } [.code hwB]) (bc.at ac (.inRegion ops (q0 :: rest) :: k0) :: cs))) :
 ∃ (N':Nat) (gs':Array Goroutine) (w':World) (sl':Option (Nat×Nat)) (T':Trace) (q':Nat→Nat),
   runNT Tryd.prog N' (crowd gs w sl) T=(.next (crowd gs' w' sl'),T')∧gs'[0]? = some (G (bc.at (ac.put oc.dst (.bool true)) (.inRegion ops rest :: k0)) cs)∧Alone gs' w' T' q'∧Grows w w':=by
 obtain ⟨N1,gs1,a1,w1,sl1,T1,q1,r1,z1,h1,⟨wb,bk,sc,c,bd,ad,od,qd,rd,oe,kd,s,hoe,hback,rfl⟩,A1⟩:=alone_goes A hg sl (Stop:=fun g w'=>∃ (wb bk:Nat) (sc:Value) (c:Nat) (bd:Frame) (ad:Act) (od:Array Oper) (qd:Nat) (rd:List Nat) (oe:Oper) (kd:List Item),Set9 w wb bk sc c w'∧od[qd]? = some oe ∧
  (∀ (Ch:Nat→Prop) (Stop:Goroutine→World→Prop) (M:Nat) (w:World),(∀ a,Fl 137 [(0,.bool false),(2,.slice (some ⟨M,0,none⟩) 1 1),(3,I 0)] a→GoesI Tryd.prog true (DT (ScZ zn) Ch) Stop (G ((base 27).at a [.code Y3]) (bc.at ac (.inRegion ops (q0 :: rest) :: k0) :: cs)) w)→GoesI Tryd.prog true (DT (ScZ zn) Ch) Stop (G (bd.at (ad.put oe.dst (.tuple #[.slice (some ⟨M,0,none⟩) 1 1,I 0])) (.inRegion od rd :: kd)) (bc.at ac (.inRegion ops (q0 :: rest) :: k0) :: cs)) w) ∧
  g=G ((base 28).at { tmps:=#[Pt wb 0,I 2,.slice (some ⟨c+1,0,none⟩) 1 1]++Array.replicate 27 undef,defers:=[] } [.code B28]) (bd.at ad (.inRegion od (qd :: rd) :: kd) :: bc.at ac (.inRegion ops (q0 :: rest) :: k0) :: cs))
  (tawake_in _ (fun v' w' wb bk sc c bd ad od qd rd oe kd hr hn hset ho hback=>GoesI.stop fun d=>⟨wb,bk,sc,c,bd,ad,od,qd,rd,oe,kd,hset.same hr.eq hr.os hr.output,ho,hback,rfl⟩) (Rel.refl w) (fun c hc=>hc.elim))
 have l0:Nat→Ph:=fun _=>.done []
 have hG1:Gl w1:=hGl.grow s.old.old
 have hpf:∀ b,glP w1 b≠none→¬ Own (newS wb bk w.heap.size sc []) [] b∧b≠(newS wb bk w.heap.size sc []).bk:=fun b hb=>by
  have hb':=glP_lt hb
  have h4:=hGl.size
  exact ⟨fun h=>by have:=(s.own b (.inl h)).1;omega,fun h=>by have:=(s.own b (.inr h)).1;omega⟩
 obtain ⟨N2,gs2,w2,sl2,T2,q2,caps,pk,N,cv,K,S',S1,l1,m,p',r2,z2,h2,A2,hK,hnv,hH,hT,O⟩:=tplay_all 2 (by decide) (S:=newS wb bk w.heap.size sc []) (n:=1) (sb:=c+1) (so:=0) (cap:=1) (pc:=fun _=>some ⟨c,0,none⟩) (ln:=fun _=>6) (cp:=fun _=>6) (rb:=fun _=>c) (cl:=fun _=>clsT) hoe sl1 34 A1 h1 s.mem rfl rfl rfl s.opn hG1.gf (glP_has w1) hpf hG1.row (asked9 s) (by decide) (fun caps pk N K=>by show 0+2*(6+0)≤1000000;decide) (by show 0≤4611686018427387904;decide) (by show ∀ x∈([]:List Int),_;simp) l0 (fun caps pk N cv K hK S1 l1 hH=>by
  obtain ⟨b,rfl⟩:=K_ten hK
  obtain ⟨tv0,tb0,gc0,e⟩:=hires_aw (wb:=wb) (bk:=bk) (base:=w.heap.size) (sc:=sc) (cv:=cv) hH
  exact ⟨34,_,Nat.le_refl _,by rw [e];exact turns_of 34 _ (awt_runs wb bk _ sc cv tv0 tb0 gc0 b l0),by rw [awt_n];decide⟩)
 obtain ⟨b,rfl⟩:=K_ten hK
 obtain ⟨tv0,tb0,gc0,e⟩:=hires_aw (wb:=wb) (bk:=bk) (base:=w.heap.size) (sc:=sc) (cv:=cv) hH
 have hT':Turns (mcT 2) m (⟨S1,cellsT b,l1⟩:PSt) p':=hT
 rw [e] at hT'
 have hp:=turns_det hT' (turns_of 34 _ (awt_runs wb bk w.heap.size sc cv tv0 tb0 gc0 b l0))
 have hans:=awt_ans wb bk w.heap.size sc cv tv0 tb0 gc0 b l0
 rw [←hp] at hans
 have a0:=(O.ans 0 (by decide)).2.1 (by decide)
 rw [hans] at a0
 have hD:Done9 (N+1) (N+4+3*0+2) w2:=⟨O.rows 0 (by decide),cell_of a0 rfl,cell_of a0 rfl,cell_of a0 rfl,cell_of a0 rfl⟩
 have hold:∀ b,b<w.heap.size→w2.heap[b]? = w.heap[b]?:=fun b hb=>by
  have hs1:=s.old.size
  have hno:¬ (Own (newS wb bk w.heap.size sc []) [] b∨b=bk):=fun h=>by have:=(s.own b h).1;omega
  have h5:=O.old b (by omega) (fun h=>hno (.inl h)) (fun h=>hno (.inr h))
  rw [h5.1,s.old.old b hb]
 have hG2:Gl w2:=hGl.grow hold
 obtain ⟨N3,gs3,a3,w3,sl3,T3,q3,r3,z3,h3,⟨rfl,hg3⟩,A3⟩:=alone_goes A2 h2 sl2 (hback (fun _=>False) (fun g w'=>g=G (bc.at (ac.put oc.dst (.bool true)) (.inRegion ops rest :: k0)) cs∧Grows w2 w') (N+1) w2 (fun a hA=>taw_tail hoc (newS wb bk w.heap.size sc []) hG2 (Rel.refl w2) (fun c hc=>hc.elim) hD hA (fun v' w' hr hn hgr=>GoesI.stop fun d=>⟨rfl,hgr.toAt hr d⟩)))
 refine ⟨N1+N2+N3,gs3,w3,sl3,T3,q3,runNT_then (runNT_then r1 r2) r3,h3,A3,⟨by have:=s.old.size;have:=O.size;have:=hg3.size;omega,fun b hb=>?_,hg3.os.trans (O.os.trans s.old.os),hg3.output.trans (O.out.trans s.old.output)⟩⟩
 rw [hg3.old b (by have:=O.size;have:=s.old.size;omega),hold b hb]
end Go.Proofs.YtbbhahigofeacaaDoor.Gen
namespace Go.Proofs.YtbbhahigofeacaaDoor.Gen
open Go Go.Lift Go.Conc Go.RowKit
noncomputable def P9:Code:=.seq q9_2 (.seq q9_3 T9)
theorem eC9:C9=.seq q9_0 (.seq q9_1 P9):=e9
theorem fine_q9_2:fineCode Tryd.prog true LV q9_2:=fineCode_askS callV extT (by kernel_rfl)
theorem q9_2_wp {v:World} {a:Act} {s1 s2:Value} (p:Option Addr) (cap vb vo:Nat) (xs:List Int) (hp:0<xs.length→p=some ⟨vb,vo,none⟩) (hx1:xs.length≤17592186043904) (hv:∀ k x,xs[k]? = some x→v.cell? ⟨vb,vo+k,none⟩=some (I x)) (hA:Fl 156 [(0,.slice p xs.length cap),(1,s1),(2,s2),(7,.bool true)] a) :
 q9_2.wp Tryd.prog (fun e a w'=>e=.normal∧∃ wb bk sc,Fl 156 [(1,s1),(2,s2),(7,.bool true),(8,Pt wb 0)] a∧IsNew v xs wb bk sc w') a v:=by
 have H7:Hid (Calls Tryd.prog 14 #[.slice p xs.length cap] v _):=⟨(body7A p vb vo cap xs hp hx1 hv).calls Tryd.func14 rfl⟩
 clear hp hx1 hv
 obtain ⟨hsz,hd,hp⟩:=hA
 obtain ⟨u,rfl,hg⟩:=litN hsz hd
 simp only [List.forall_mem_cons,hg] at hp
 obtain ⟨u0,u1,u2,u7,-⟩:=hp
 clear hg hsz hd
 unfold q9_2 C9 Tryd.f9 seq2 seq1
 simp only [Option.getD_some,lits,Nat.reduceAdd,u0,u1,u2,u7]
 clear u0 u1 u2 u7
 go_wp2_with (first
  |(go_at_call 14;refine H7.out.mono ?_;rintro e w1 ⟨_,rfl,wb,bk,sc,rfl,hnew⟩))
 exact ⟨wb,⟨rfl,rfl,by
  intro p hp
  simp only [List.mem_cons,List.not_mem_nil,or_false] at hp
  rcases hp with rfl|rfl|rfl|rfl<;>rfl⟩,bk,sc,hnew⟩
theorem law9_in {Ch:Nat→Prop} {Stop:Goroutine→World→Prop} {main:Bool} {w:World} (x0:Value) (x1:Value) (x2:Value)
 (hk:∀ (w':World) (bd:Frame) (ad:Act) (od:Array Oper) (qd:Nat) (rd:List Nat) (oe:Oper) (kd:List Item),(∃ d,w'=w.at d)→od[qd]? = some oe →
   (∀ (Ch:Nat→Prop) (Stop:Goroutine→World→Prop) (w1:World),(∀ a,Fl 156 [(0,x0),(1,x1),(2,x2),(7,.bool true)] a→GoesI Tryd.prog main (DT (ScZ zn) Ch) Stop (G ((base 9).at a [.code P9]) []) w1)→GoesI Tryd.prog main (DT (ScZ zn) Ch) Stop (G (bd.at (ad.put oe.dst (.bool true)) (.inRegion od rd :: kd)) []) w1) →
   GoesI Tryd.prog main (DT (ScZ zn) Ch) Stop (G ((base 27).at { tmps:=Array.replicate 137 undef,defers:=[] } [.code hwB]) [bd.at ad (.inRegion od (qd :: rd) :: kd)]) w') :
 GoesI Tryd.prog main (DT (ScZ zn) Ch) Stop (G ((base 9).at { tmps:=#[x0,x1,x2]++Array.replicate 153 undef,defers:=[] } [.code C9]) []) w:=by
 rw [eC9]
 simp only [Array.replicate_succ,Array.replicate_zero,List.push_toArray,List.append_toArray,List.nil_append,List.cons_append]
 refine goesI_seq (dt_idle _ _) ?_
 generalize hR:P9=R9 at hk ⊢
 unfold q9_0 q9_1 C9 Tryd.f9 seq1 seq2
 simp only [Option.getD_some]
 refine goesI_region (dt_idle _ _) ?_
 simp only [List.size_toArray,List.length_cons,List.length_nil,Nat.reduceAdd,Nat.zero_add,List.range,List.range.loop]
 iterate 1
  (refine goesI_oper rfl rfl (by decide) (fun d K hK=>?_)
   go_simp
   refine hK _ _ ⟨dt_reads (fun e he=>?_),GoesI.at ?_ d⟩
   ·have hm:=mem_listed he
    simp [go_sem, *] at hm
    try exact ⟨_,_,hm⟩
   clear hK K)
 refine goesI_regionEnd (dt_idle _ _) ?_
 refine goesI_seq (dt_idle _ _) ?_
 refine goesI_region (dt_idle _ _) ?_
 simp only [List.size_toArray,List.length_cons,List.length_nil,Nat.reduceAdd,Nat.zero_add,List.range,List.range.loop]
 refine goesI_into (f:=27) (fn:=Tryd.f27) (args:=#[]) (dt_idle _ _) rfl rfl (by decide) rfl (by simp [Act.eval]) Tryd.func27 (by decide) rfl ?_
 refine hk w _ _ _ _ _ _ _ ⟨w.drawn,rfl⟩ rfl (fun Ch Stop w1 hg=>?_)
 clear hk
 iterate 1
  (refine goesI_oper rfl rfl (by decide) (fun d K hK=>?_)
   go_simp
   refine hK _ _ ⟨dt_reads (fun e he=>?_),GoesI.at ?_ d⟩
   ·have hm:=mem_listed he
    simp [go_sem, *] at hm
    try exact ⟨_,_,hm⟩
   clear hK K)
 refine goesI_regionEnd (dt_idle _ _) ?_
 exact hg _ ⟨rfl,rfl,by
  intro p hp
  simp only [List.mem_cons,List.not_mem_nil,or_false] at hp
  rcases hp with rfl|rfl|rfl|rfl<;>rfl⟩
theorem end9 {a:Act} {todo:List Item} {w:World} (hd:a.defers=[]) (h4:a.tmps.getD 6 undef=.bool true):stepG Tryd.prog true (G { (base 9).at a todo with mode:=.returning } []) w=.ended (.done (.bool true)) w #[]:=by
 have hr:(results Tryd.f9 a.tmps).run Tryd.prog w=.ok (.bool true) w:=by rw [results_tmp (t:=6) rfl,h4]
 have he:(results Tryd.f9 a.tmps).events Tryd.prog w #[]=#[]:=by simp [results,go_sem,Tryd.f9]
 simp [G,stepG,unwind,Frame.at,hd,Tryd.func9,base,hr,he,doReturn,GStep.after,seen]
theorem law9_b {Ch:Nat→Prop} {Stop:Goroutine→World→Prop} {main:Bool} {v w:World} (p:Option Addr) (cap vb vo:Nat) (xs:List Int) (hp:0<xs.length→p=some ⟨vb,vo,none⟩) (hx1:xs.length≤17592186043904) (hv:∀ k x,xs[k]? = some x→v.cell? ⟨vb,vo+k,none⟩=some (I x)) (s1 s2:Value) (hvw:Rel zn v w) (hn:NoRow Ch v)
 (hk:∀ (v' w':World) (wb bk:Nat) (sc:Value) (bd:Frame) (ad:Act) (od:Array Oper) (qd:Nat) (rd:List Nat) (oe:Oper) (kd:List Item),Rel zn v' w'→NoRow Ch v'→IsNew v xs wb bk sc v'→od[qd]? = some oe →
   (∀ (Ch:Nat→Prop) (Stop:Goroutine→World→Prop) (w2:World) (A:Value) (E:Int),(∀ a,Fl 156 [(1,s1),(2,s2),(7,.bool true),(8,Pt wb 0),(9,A),(10,I E)] a→GoesI Tryd.prog main (DT (ScZ zn) Ch) Stop (G ((base 9).at a [.code T9]) []) w2) →
     GoesI Tryd.prog main (DT (ScZ zn) Ch) Stop (G (bd.at (ad.put oe.dst (.tuple #[A,I E])) (.inRegion od rd :: kd)) []) w2) →
   GoesI Tryd.prog main (DT (ScZ zn) Ch) Stop (G ((base 28).at { tmps:=#[Pt wb 0,s1,s2]++Array.replicate 27 undef,defers:=[] } [.code B28]) [bd.at ad (.inRegion od (qd :: rd) :: kd)]) w') :
 ∀ a,Fl 156 [(0,.slice p xs.length cap),(1,s1),(2,s2),(7,.bool true)] a→GoesI Tryd.prog main (DT (ScZ zn) Ch) Stop (G ((base 9).at a [.code P9]) []) w:=by
 intro a0 hA0
 unfold P9
 refine goesI_seq (dt_idle _ _) ?_
 refine goesI_plain (z:=zn) (wr:=true) (L:=LV) (I:=NoRow Ch) hE fineV noRow_keeps (fun v v' w w' es hi hr ho he=>dt_of_z v v' w w' es hi hr ho he) hvw fine_q9_2 hA0.2.1 (by simp [base]) hn
  (Q:=fun a w'=>∃ wb bk sc,Fl 156 [(1,s1),(2,s2),(7,.bool true),(8,Pt wb 0)] a∧IsNew v xs wb bk sc w') (fun τ=>wp_mono (q9_2_wp (v:=onTape v τ 0) p cap vb vo xs hp hx1 hv hA0) (fun e a w' hq=>⟨hq.1,by
    obtain ⟨_,wb,bk,sc,h1,h2⟩:=hq
    exact ⟨wb,bk,sc,h1,h2.mem,h2.opn,h2.new,⟨h2.old.size,h2.old.old,h2.old.os,h2.old.output⟩⟩⟩)) ?_
 rintro a1 v1 w1 ⟨wb,bk,sc,hB,hnew⟩ hr1 hn1 -
 obtain ⟨hsz,hd,hpp⟩:=hB
 obtain ⟨u,rfl,hg⟩:=litN hsz hd
 simp only [List.forall_mem_cons,hg] at hpp
 obtain ⟨u1,u2,u7,u8,-⟩:=hpp
 clear hg hsz hd hA0
 refine goesI_seq (dt_idle _ _) ?_
 clear hvw hn hp hx1 hv
 generalize hT:T9=T at hk ⊢
 unfold q9_3 C9 Tryd.f9 seq1 seq2
 simp only [Option.getD_some,lits,Nat.reduceAdd,u1,u2,u7,u8]
 clear u1 u2 u7 u8
 refine goesI_region (dt_idle _ _) ?_
 simp only [List.size_toArray,List.length_cons,List.length_nil,Nat.reduceAdd,Nat.zero_add,List.range,List.range.loop]
 iterate 3
  (refine goesI_oper rfl rfl (by decide) (fun d K hK=>?_)
   go_simp
   refine hK _ _ ⟨dt_reads (fun e he=>?_),GoesI.at ?_ d⟩
   ·have hm:=mem_listed he
    simp [go_sem, *] at hm
    try exact ⟨_,_,hm⟩
   clear hK K)
 refine goesI_into (f:=28) (fn:=Tryd.f28) (args:=#[Pt wb 0,s1,s2]) (dt_idle _ _) rfl rfl (by decide) rfl (by simp [Act.eval]) Tryd.func28 (by decide) rfl ?_
 refine hk v1 w1 wb bk sc _ _ _ _ _ _ _ hr1 hn1 hnew rfl (fun Ch Stop w2 A E hwp=>?_)
 clear hk hnew hr1 hn1
 iterate 5
  (refine goesI_oper rfl rfl (by decide) (fun d K hK=>?_)
   go_simp
   refine hK _ _ ⟨dt_reads (fun e he=>?_),GoesI.at ?_ d⟩
   ·have hm:=mem_listed he
    simp [go_sem, *] at hm
    try exact ⟨_,_,hm⟩
   clear hK K)
 refine goesI_regionEnd (dt_idle _ _) ?_
 exact hwp _ ⟨rfl,rfl,by
  intro p hp
  simp only [List.mem_cons,List.not_mem_nil,or_false] at hp
  rcases hp with rfl|rfl|rfl|rfl|rfl|rfl<;>rfl⟩
theorem law9_no {Ch:Nat→Prop} {Stop:Goroutine→World→Prop} {main:Bool} {v w:World} {a:Act} {E:Int} (hE1:E=1∨E=2) (hvw:Rel zn v w) (hn:NoRow Ch v) (hA:Fl 156 [(7,.bool true),(10,I E)] a)
 (hend:∀ a' v' w' todo,Rel zn v' w'→Grows v v'→a'.defers=[]→a'.tmps.getD 6 undef=.bool true→GoesI Tryd.prog main (DT (ScZ zn) Ch) Stop (G { (base 9).at a' todo with mode:=.returning } []) w') :
 GoesI Tryd.prog main (DT (ScZ zn) Ch) Stop (G ((base 9).at a [.code T9]) []) w :=
 goesI_retZ (Q:=fun a w'=>Fl 156 [(6,.bool true)] a∧Kq v.heap.size v w') hvw hn fine_T9 hA.2.1 (fun τ=>wp_mono (tail9_no (v:=onTape v τ 0) hE1 hA) (fun e a w' hq=>⟨hq.1,hq.2.1,hq.2.2.os,hq.2.2.out,hq.2.2.size,hq.2.2.old⟩)) (fun a' v' w' todo hQ hd hr hn'=>hend a' v' w' todo hr (hQ.2.grows (Nat.le_refl _)) hd (hQ.1.at 6 (.bool true) (by simp)))
theorem law9_yes {Ch:Nat→Prop} {Stop:Goroutine→World→Prop} {main:Bool} {v w:World} {a:Act} {S:TS} {n N b o cap:Nat} {L:List Stp} (hn1:n≤1000) (hN:N≤8) (hR:Rep zn S v) (htr:S.tr=flat L) (hSn:S.n=L.length) (hs4:S.n≤400000) (hv:vall (hdJ n) N vr0 L) (hvw:Rel zn v w) (hn:NoRow Ch v)
 (hA:Fl 156 [(7,.bool true),(10,I 0),(1,I (n:Nat)),(2,.slice (some ⟨b,o,none⟩) N cap),(8,Pt S.wb 0)] a)
 (hend:∀ a' v' w' todo,Rel zn v' w'→Grows v v'→a'.defers=[]→a'.tmps.getD 6 undef=.bool true→GoesI Tryd.prog main (DT (ScZ zn) Ch) Stop (G { (base 9).at a' todo with mode:=.returning } []) w') :
 GoesI Tryd.prog main (DT (ScZ zn) Ch) Stop (G ((base 9).at a [.code T9]) []) w :=
 goesI_retZ (Q:=fun a w'=>Fl 156 [(6,.bool true)] a∧Kq v.heap.size v w') hvw hn fine_T9 hA.2.1 (fun τ=>wp_mono (tail9_yes (v:=onTape v τ 0) hn1 hN (hR.same (v':=onTape v τ 0) rfl) rfl htr hSn hs4 hv hA) (fun e a w' hq=>⟨hq.1,hq.2.1,hq.2.2.os,hq.2.2.out,hq.2.2.size,hq.2.2.old⟩)) (fun a' v' w' todo hQ hd hr hn'=>hend a' v' w' todo hr (hQ.2.grows (Nat.le_refl _)) hd (hQ.1.at 6 (.bool true) (by simp)))
theorem run9 (W:World) (hGl:Gl W) (n0:Int) {sp:Option Addr} {sb so scap:Nat} {sched:List Int} (hS:InI W sp sb so sched) {p:Option Addr} {b o n cap:Nat} {pc:Nat→Option Addr} {ln cp rb:Nat→Nat} {cl:Nat→List Cl} (hC:InS W p b o n pc ln cp rb cl) :
 ∃ M last o w' t',runNT Tryd.prog (M+1) (solo (G (Frame.enter Tryd.prog 9 #[.slice sp sched.length scap,I n0,.slice p n cap] .normal) []) W) #[]=(.ended o w',t') ∧
   runN Tryd.prog M (solo (G (Frame.enter Tryd.prog 9 #[.slice sp sched.length scap,I n0,.slice p n cap] .normal) []) W)=.next last∧step Tryd.prog last=.ended o w'∧Go.Conc.Good Tryd.prog (PostT W) last o w' t':=by
 have e:Frame.enter Tryd.prog 9 #[.slice sp sched.length scap,I n0,.slice p n cap] .normal=(base 9).at { tmps:=#[.slice sp sched.length scap,I n0,.slice p n cap]++Array.replicate 153 undef,defers:=[] } [.code C9]:=enter_at (fn:=Tryd.f9) (c:=C9) _ Tryd.func9 (by rfl)
 rw [e,solo_eq_crowd]
 have A:Alone #[G ((base 9).at { tmps:=#[.slice sp sched.length scap,I n0,.slice p n cap]++Array.replicate 153 undef,defers:=[] } [.code C9]) []] W #[] (fun _=>0):=⟨leavers_one _ _,0,Nat.zero_le _,past_nil⟩
 obtain ⟨N1,gs1,a1,w1,sl1,T1,q1,r1,z1,h1,⟨bd,ad,od,qd,rd,oe,kd,⟨d1,rfl⟩,hoe,hback,rfl⟩,A1⟩:=alone_goes A rfl none (Stop:=fun g w'=>∃ (bd:Frame) (ad:Act) (od:Array Oper) (qd:Nat) (rd:List Nat) (oe:Oper) (kd:List Item),(∃ d,w'=W.at d)∧od[qd]? = some oe ∧
  (∀ (Ch:Nat→Prop) (Stop:Goroutine→World→Prop) (w1:World),(∀ a,Fl 156 [(0,.slice sp sched.length scap),(1,I n0),(2,.slice p n cap),(7,.bool true)] a→GoesI Tryd.prog true (DT (ScZ zn) Ch) Stop (G ((base 9).at a [.code P9]) []) w1)→GoesI Tryd.prog true (DT (ScZ zn) Ch) Stop (G (bd.at (ad.put oe.dst (.bool true)) (.inRegion od rd :: kd)) []) w1) ∧
  g=G ((base 27).at { tmps:=Array.replicate 137 undef,defers:=[] } [.code hwB]) [bd.at ad (.inRegion od (qd :: rd) :: kd)])
  (law9_in _ _ _ (fun w' bd ad od qd rd oe kd hw ho hback=>GoesI.stop fun d=>⟨bd,ad,od,qd,rd,oe,kd,by obtain ⟨d0,rfl⟩:=hw;exact ⟨d,rfl⟩,ho,hback,rfl⟩))
 obtain ⟨N2,gs2,w2,sl2,T2,q2,r2,h2,A2,g2⟩:=tawake_all hoe sl1 A1 (w:=W.at d1) (show Gl (W.at d1) from ⟨hGl.a,hGl.b,hGl.c,hGl.d⟩) h1
 have g2':Grows W w2:=⟨g2.size,g2.old,g2.os,g2.output⟩
 have hS2:=hS.grows g2'
 have hC2:=hC.grows g2'
 obtain ⟨N3,gs3,a3,w3,sl3,T3',q3,r3,z3,h3,⟨wb,bk,sc,bd,ad,od,qd,rd,oe,kd,hnew,hoe3,hend9,rfl⟩,A3⟩:=alone_goes A2 h2 sl2 (Stop:=fun g w'=>∃ (wb bk:Nat) (sc:Value) (bd:Frame) (ad:Act) (od:Array Oper) (qd:Nat) (rd:List Nat) (oe:Oper) (kd:List Item),IsNew w2 sched wb bk sc w'∧od[qd]? = some oe ∧
  (∀ (Ch:Nat→Prop) (Stop:Goroutine→World→Prop) (w2:World) (A:Value) (E:Int),(∀ a,Fl 156 [(1,I n0),(2,.slice p n cap),(7,.bool true),(8,Pt wb 0),(9,A),(10,I E)] a→GoesI Tryd.prog true (DT (ScZ zn) Ch) Stop (G ((base 9).at a [.code T9]) []) w2) →
    GoesI Tryd.prog true (DT (ScZ zn) Ch) Stop (G (bd.at (ad.put oe.dst (.tuple #[A,I E])) (.inRegion od rd :: kd)) []) w2) ∧
  g=G ((base 28).at { tmps:=#[Pt wb 0,I n0,.slice p n cap]++Array.replicate 27 undef,defers:=[] } [.code B28]) [bd.at ad (.inRegion od (qd :: rd) :: kd)])
  (hback (fun _=>False) _ w2 (law9_b sp scap sb so sched hS2.at_ hS2.len hS2.cell _ _ (Rel.refl w2) (fun c hc=>hc.elim) (fun v' w' wb bk sc bd ad od qd rd oe kd hr hn hnew ho hend=>GoesI.stop fun d=>⟨wb,bk,sc,bd,ad,od,qd,rd,oe,kd,by
    have e:(w'.at d).heap=v'.heap:=hr.eq
    have hgr:Grows v' (w'.at d):=⟨by rw [e];exact Nat.le_refl _,fun b _=>by rw [e],hr.os,hr.output⟩
    refine ⟨(hnew.mem.grows hgr).mem,?_,hnew.new,⟨by rw [e];exact hnew.old.size,fun b hb=>by rw [e];exact hnew.old.old b hb,hr.os.trans hnew.old.os,hr.output.trans hnew.old.output⟩⟩
    obtain ⟨c,m,h⟩:=hnew.opn
    exact ⟨c,m,by rw [e];exact h⟩,ho,hend,rfl⟩)))
 have g3:Grows W w3:=g2'.trans' hnew.old
 have hC9:=hC2.grows hnew.old
 have fin:∀ (N4:Nat) (gs4:Array Goroutine) (w4:World) (sl4:Option (Nat×Nat)) (T3:Trace) (q4:Nat→Nat) (a4:Goroutine),runNT Tryd.prog N4 (crowd gs3 w3 sl3) T3'=(.next (crowd gs4 w4 sl4),T3)→gs4[0]? = some a4→Alone gs4 w4 T3 q4→(∃ a' todo,a'.defers=[]∧a'.tmps.getD 6 undef=.bool true∧Grows W w4∧a4=G { (base 9).at a' todo with mode:=.returning } []) →
  ∃ M last o w' t',runNT Tryd.prog (M+1) (crowd #[G ((base 9).at { tmps:=#[.slice sp sched.length scap,I n0,.slice p n cap]++Array.replicate 153 undef,defers:=[] } [.code C9]) []] W none) #[]=(.ended o w',t')∧runN Tryd.prog M (crowd #[G ((base 9).at { tmps:=#[.slice sp sched.length scap,I n0,.slice p n cap]++Array.replicate 153 undef,defers:=[] } [.code C9]) []] W none)=.next last∧step Tryd.prog last=.ended o w'∧Go.Conc.Good Tryd.prog (PostT W) last o w' t':=by
  intro N4 gs4 w4 sl4 T3 q4 a4 r4 h4 A4 ⟨a',todo,hd,h6,g4,ea⟩
  subst ea
  obtain ⟨M5,last,o,w',t',e1,e2,e3,e4⟩:=alone_ends A4 h4 sl4 (Post:=PostT W) (fun B d=>⟨rfl,.bool true,#[],end9 hd h6,fun e he=>by simp at he,rfl,⟨g4.size,g4.old,g4.os,g4.output⟩⟩)
  have hrun:=runNT_then (runNT_then (runNT_then r1 r2) r3) r4
  refine ⟨N1+N2+N3+N4+M5,last,o,w',t',?_,?_,e3,e4⟩
  ·rw [Nat.add_assoc,runNT_add,hrun];exact e1
  ·rw [runN_add,←runNT_fst Tryd.prog _ _ #[],hrun];exact e2
 by_cases hyes:(∀ k,k<n→ln k≤64)∧(0<n∧n≤8)∧0≤n0∧n0≤1000
 ·obtain ⟨h64,hn8,hx0,hx1⟩:=hyes
  obtain ⟨s,rfl⟩:∃ s:Nat,n0=(s:Int):=⟨n0.toNat,by omega⟩
  have hs1:s≤1000:=by omega
  have hl64:∀ j,j<n→(cl j).length≤64:=fun j hj=>by rw [hC.len j hj];exact h64 j hj
  have hlens:∀ caps pk N K,lens (scrs (mcT s) 52 caps pk N n K pc ln cp rb cl)≤512:=fun caps pk N K=>Nat.le_trans (lens_scrs _ _ _ _ _ _ _ _ _ _ _ _ hl64) (by omega)
  have hpp:=hC.at_ hn8.1
  subst hpp
  have hG3:=hGl.grow g3.old
  have hGlt:=hGl.size
  have hpf:∀ b,glP w3 b≠none→¬ Own (newS wb bk w2.heap.size sc sched) [] b∧b≠(newS wb bk w2.heap.size sc sched).bk:=fun b hb=>by
   have hb':=glP_lt hb
   have hs2:=g2'.size
   exact ⟨fun h=>by have:=hnew.new b (.inl h);omega,fun h=>by have:=hnew.new b (.inr h);omega⟩
  obtain ⟨N4,gs4,w4,sl4,T4',q4,caps,pk,N,cv,K,S',S1,l1,m,p',r4,z4,h4,A4,hK,hnv,hH,hT,O⟩:=tplay_all s hs1 (S:=newS wb bk w2.heap.size sc sched) (n:=n) (sb:=b) (so:=o) (cap:=cap) (pc:=pc) (ln:=ln) (cp:=cp) (rb:=rb) (cl:=cl) hoe3 sl3 300000 A3 h3 hnew.mem rfl rfl rfl hnew.opn hG3.gf (glP_has w3) hpf hG3.row (asked_of hC2 hnew h64 hn8.1) hn8 (fun caps pk N K=>by
   have:=hlens caps pk N K
   show 0+2*_≤1000000
   omega) (by have:=hS.len;show sched.length≤_;omega) (fun x hx=>hS.inr x hx) (fun _=>.done []) (fun caps pk N cv K hK S1 l1 hH=>Mw.play_ends (metT s hs1) (cells_T hs1 hK) (kok_T hK) hH rfl (by rw [scrs_len];exact hn8.2) (hlens caps pk N K) (by show (6:Nat)≤8;decide) rfl)
  obtain ⟨L,t1,t2,t3,t4,hV⟩:=versions_run hs1 (N:=n) (scrs_len _ _ _ _ _ _ _ _ _ _ _ _) hn8.2 (hlens caps pk N K) (scrs_ans _ _ _ _ _ _ _ _ _ _ _ _ (fun j hj=>hC.len j hj)) rfl rfl rfl rfl hK hH hT
  have hSn:S'.n=L.length:=by have:=congrArg TS.n hnv;exact this.trans t2
  have hStr:S'.tr=flat L:=by have:=congrArg TS.tr hnv;exact this.trans t1
  have hSw:S'.wb=wb:=by
   have h5:=congrArg TS.wb hnv
   have h6:=(turns_wb hT).trans (hires_wb hH)
   exact h5.trans h6
  have hg34:∀ b,b<w2.heap.size→w4.heap[b]? = w3.heap[b]?:=fun b hb=>by
   have hs:=hnew.old.size
   exact (O.old b (by omega) (fun h=>by have:=hnew.new b (.inl h);omega) (fun h=>by have:=hnew.new b (.inr h);omega)).1
  have hgW:Grows W w4:=⟨by have:=g3.size;have:=O.size;omega,fun b hb=>by rw [hg34 b (by have:=g2'.size;omega)];exact g3.old b hb,O.os.trans g3.os,O.out.trans g3.output⟩
  subst hSw
  obtain ⟨N5,gs5,a5,w5,sl5,T5,q5,r5,z5,h5,hs5,A5⟩:=alone_goes A4 h4 sl4 (hend9 (fun _=>False) (fun g w'=>∃ a' todo,a'.defers=[]∧a'.tmps.getD 6 undef=.bool true∧Grows W w'∧g=G { (base 9).at a' todo with mode:=.returning } []) w4 _ 0 (fun a hA=>law9_yes (v:=w4) (S:=S') hs1 hn8.2 O.mem.rep hStr hSn (by omega) hV (Rel.refl w4) (fun c hc=>hc.elim) (show Fl 156 [(7,.bool true),(10,I 0),(1,I (s:Nat)),(2,.slice (some ⟨b,o,none⟩) n cap),(8,Pt S'.wb 0)] a from hA.sub (by simp)) (fun a' v' w' todo hr hgr hd h6=>GoesI.stop fun d=>⟨a',todo,hd,h6,by
   have e:(w'.at d).heap=v'.heap:=hr.eq
   have:=hgW.trans' hgr
   exact ⟨by rw [e];exact this.size,fun b hb=>by rw [e];exact this.old b hb,hr.os.trans this.os,hr.output.trans this.output⟩,rfl⟩)))
  exact fin _ gs5 w5 sl5 T5 q5 a5 (runNT_then r4 r5) h5 A5 hs5
 ·obtain ⟨E,hE0,hE⟩:∃ E:Int,(E=1∨E=2)∧(Refused n ln E∨((∀ k,k<n→ln k≤64)∧(0<n∧n≤8)∧(n0<0∨1000<n0)∧E=1)):=by
   by_cases h64:∀ k,k<n→ln k≤64
   ·by_cases hn8:0<n∧n≤8
    ·refine ⟨1,.inl rfl,.inr ⟨h64,hn8,?_,rfl⟩⟩
     have:¬ (0≤n0∧n0≤1000):=fun h=>hyes ⟨h64,hn8,h⟩
     omega
    ·exact ⟨1,.inl rfl,.inl (.inr ⟨h64,by omega,rfl⟩)⟩
   ·refine ⟨2,.inr rfl,.inl (.inl ⟨?_,rfl⟩)⟩
    simp only [Classical.not_forall] at h64
    obtain ⟨k,hk,hk2⟩:=h64
    exact ⟨k,hk,by omega⟩
  obtain ⟨N5,gs5,a5,w5,sl5,T5,q5,r5,z5,h5,hs5,A5⟩:=alone_goes A3 h3 sl3 (Stop:=fun g w'=>∃ a' todo,a'.defers=[]∧a'.tmps.getD 6 undef=.bool true∧Grows W w'∧g=G { (base 9).at a' todo with mode:=.returning } []) (tplay_no (S:=newS wb bk w2.heap.size sc sched) (v:=w3) n0 p n cap pc ln cp (fun k hk=>⟨b,o,hC9.at_ (by omega),hC9.row k hk⟩) hC.n rfl hnew.mem hE [] hoe3 (Rel.refl w3) (fun c hc=>hc.elim) (fun v' w' hr hn e1 e2 e3=>hend9 (fun _=>False) _ w' _ E (fun a hA=>law9_no hE0 hr hn (show Fl 156 [(7,.bool true),(10,I E)] a from hA.sub (by simp)) (fun a' v'' w'' todo hr' hgr hd h6=>GoesI.stop fun d=>⟨a',todo,hd,h6,by
   have e:(w''.at d).heap=v''.heap:=hr'.eq
   have:Grows W v':=g3.trans' (grow_same e1 e2 e3)
   have:=this.trans' hgr
   exact ⟨by rw [e];exact this.size,fun b hb=>by rw [e];exact this.old b hb,hr'.os.trans this.os,hr'.output.trans this.output⟩,rfl⟩))))
  exact fin _ gs5 w5 sl5 T5 q5 a5 r5 h5 A5 hs5
end Go.Proofs.YtbbhahigofeacaaDoor.Gen
namespace Go.Proofs.YtbbhahigofeacaaDoor.Gen
open Go Go.Lift Go.Conc
open Go.ChangeShapes Go.WideShapes Go.ChangeAt Go.RowKit Go.Joins Go.Deep
theorem op_knob:ownKnob Tryd.prog.godebug=none:=by kernel_rfl
theorem op_cells3:Tryd.prog.cellsOf 3=1:=by kernel_rfl
theorem op_cells39:Tryd.prog.cellsOf 50=4:=by kernel_rfl
theorem op_cells37:Tryd.prog.cellsOf 45=1:=by kernel_rfl
theorem op_bytes3:Tryd.prog.bytesOf 3=8:=by kernel_rfl
theorem op_bytes37:Tryd.prog.bytesOf 45=24:=by kernel_rfl
def clV (c:Cl):List Value:=[I c.po,I c.ca,I c.cb,I c.cc]
theorem inr_of {n:Int} (h:(Lit.int .i64 n).wf=true):InR n:=by
 have:=bounds_i64 h
 unfold InR
 omega
section
variable {H:Type} {enc:TypeId×Value→H} {w:World}
theorem ints_in {r:Reach} {b0:Nat} {v:Value} {d:DataW H} {ps:List MemPlace} (hv:Value.okWide Tryd.prog w r b0 25 v) (h:DataW.Trod enc Tryd.prog w 0 (fun _=>true) true 25 v d ps) (hsz:∀ elems spare,d=.slice elems spare→(elems.length+spare.length)*Tryd.prog.bytesOf 3≤reachBytes) :
 ∃ (p:Option Addr) (cap b o:Nat) (xs:List Int),v=.slice p xs.length cap∧InI w p b o xs:=by
 obtain ⟨a0,len0,cap0,rfl⟩:=okWide_slice Tryd.underlying25 hv
 obtain ⟨fuel,hf⟩:=h
 rcases open_ints Tryd.underlying25 Tryd.underlying3 op_cells3 hf with ⟨hcs,_⟩|⟨x,l,c,zs,hcs,_,hl,hm,hz,hx,hcell,hwf⟩
 ·simp [Value.cells] at hcs
  obtain ⟨rfl,rfl,rfl⟩:=hcs
  exact ⟨none,0,0,0,[],rfl,⟨fun h=>by simp at h,fun k x hk=>by simp at hk,fun x hx=>by simp at hx,Nat.zero_le _⟩⟩
 ·simp [Value.cells] at hcs
  obtain ⟨rfl,rfl,rfl⟩:=hcs
  have hz':zs.length=cap0:=by simpa using hz
  have ht:(zs.take len0).length=len0:=by rw [List.length_take];omega
  have hb:=hsz _ _ (congrArg Prod.fst hx)
  have hlz:∀ (k:IntKind) (l:List Int),(ChangeShapes.lits (H:=H) k l).length=l.length:=fun k l=>by simp [ChangeShapes.lits]
  rw [op_bytes3,hlz,hlz,ht] at hb
  have hlen:len0≤17592186043904:=by unfold reachBytes at hb;omega
  obtain ⟨b,off,spot⟩:=x
  by_cases h0:len0=0
  ·subst h0
   exact ⟨_,_,0,0,[],rfl,⟨fun h=>by simp at h,fun k x hk=>by simp at hk,fun x hx=>by simp at hx,Nat.zero_le _⟩⟩
  ·have hspot:spot=none:=by simpa [Addr.add] using World.cell?_spot (hcell 0 (by omega))
   subst hspot
   refine ⟨_,_,b,off,zs.take len0,by rw [ht],⟨fun _=>rfl,fun i a hi=>?_,fun x hx=>inr_of (hwf x (List.mem_of_mem_take hx)),by rw [ht];exact hlen⟩⟩
   have hil:i<len0:=by have:=(List.getElem?_eq_some_iff.1 hi).1;omega
   have hc:=hcell i (by omega)
   have hadd:(⟨b,off,none⟩:Addr).add i=⟨b,off+i,none⟩:=by unfold Addr.add;split<;>simp_all
   rw [hadd] at hc
   have ha:zs.getD i 0=a:=by
    rw [List.getElem?_take_of_lt hil] at hi
    rw [List.getD_eq_getElem?_getD,hi]
    rfl
   rw [ha] at hc
   exact hc
theorem clV_open:∀ fuel cs (y:DataW H×List MemPlace),cs.length=4→DataW.trod enc Tryd.prog w 0 (fun _=>true) true fuel 50 cs=some y→∃ a,cs=clV a∧InR a.ca∧a.ok:=by
 intro fuel cs y hl h
 obtain ⟨xs,k,hk,hxy,_,hxl,hf⟩:=DataW.trod_struct Tryd.underlying50 h
 match xs,hxl,cs,hl with
 | [y0,y1,y2,y3],_,[c0,c1,c2,c3],_ =>
  have g0:=hf 0 _ rfl
  have g1:=hf 1 _ rfl
  have g2:=hf 2 _ rfl
  have g3:=hf 3 _ rfl
  simp [op_cells3] at g0 g1 g2 g3
  obtain ⟨a0,e0,_,f0⟩:=DataW.trod_int Tryd.underlying3 g0
  obtain ⟨a1,e1,_,f1⟩:=DataW.trod_int Tryd.underlying3 g1
  obtain ⟨a2,e2,_,f2⟩:=DataW.trod_int Tryd.underlying3 g2
  obtain ⟨a3,e3,_,f3⟩:=DataW.trod_int Tryd.underlying3 g3
  simp at e0 e1 e2 e3
  subst e0 e1 e2 e3
  exact ⟨⟨a0,a1,a2,a3⟩,rfl,inr_of f1,inr_of f2,inr_of f3⟩
def Sc (w:World) (v:Value) (q:Option Addr×Nat×Nat×List Cl):Prop :=
 v=.slice q.1 q.2.2.2.length q.2.1∧(0<q.2.2.2.length→q.1=some ⟨q.2.2.1,roOf q.1,none⟩)∧(∀ (k:Nat) (c:Cl),q.2.2.2[k]? = some c→w.cell? ⟨q.2.2.1,roOf q.1+k*4,none⟩=some (I c.po)∧w.cell? ⟨q.2.2.1,roOf q.1+k*4+1,none⟩=some (I c.ca)∧w.cell? ⟨q.2.2.1,roOf q.1+k*4+2,none⟩=some (I c.cb)∧w.cell? ⟨q.2.2.1,roOf q.1+k*4+3,none⟩=some (I c.cc))∧∀ c∈q.2.2.2,InR c.ca∧c.ok
theorem script_in {fuel:Nat} {cs:List Value} {y:DataW H×List MemPlace} (h:DataW.trod enc Tryd.prog w 0 (fun _=>true) true fuel 45 cs=some y):∃ v q,cs=[v]∧Sc w v q:=by
 rcases open_slice Tryd.underlying45 h with ⟨hcs,hx⟩|⟨ad,len,cap,m,k,D,Pl,hcs,_,hl,hm,hmm,hxe,hx⟩
 ·exact ⟨_,(none,0,0,[]),hcs,rfl,fun h=>by simp at h,fun k c h=>by simp at h,fun c hc=>by simp at hc⟩
 ·simp only [if_true] at hmm
  subst hmm
  have each:∀ i,i<len→∃ a:Cl,(∀ j,j<4→w.cell? ((ad.add (i*4)).add j)=(clV a)[j]?)∧InR a.ca∧a.ok:=by
   intro i hi
   obtain ⟨cs',h1,h2⟩:=hx i (by omega)
   rw [op_cells39] at h1
   obtain ⟨_,hlen,hc⟩:=World.cells?_some h1
   obtain ⟨a,rfl,ha⟩:=clV_open _ _ _ hlen h2
   exact ⟨a,hc,ha⟩
  have ie:Inhabited Cl:=⟨⟨0,0,0,0⟩⟩
  obtain ⟨q,hq⟩:=choose_lt each
  obtain ⟨b,off,spot⟩:=ad
  by_cases h0:len=0
  ·subst h0
   exact ⟨_,(some ⟨b,off,spot⟩,m,0,[]),hcs,rfl,fun h=>by simp at h,fun k c h=>by simp at h,fun c hc=>by simp at hc⟩
  ·have c01:w.cell? (((⟨b,off,spot⟩:Addr).add (0*4)).add 0)=some (I (q 0).po):=(hq 0 (by omega)).1 0 (by omega)
   have hspot:spot=none:=by
    have:=World.cell?_spot c01
    simpa [Addr.add] using this
   subst hspot
   have hadd:∀ (o j:Nat),(⟨b,o,none⟩:Addr).add j=⟨b,o+j,none⟩:=by intro o j;unfold Addr.add;split<;>simp_all
   refine ⟨_,(some ⟨b,off,none⟩,m,b,(List.range len).map q),hcs,?_,fun _=>rfl,fun i a hi=>?_,fun c hc=>?_⟩
   ·simp
   ·have hil:i<len:=by simpa using (List.getElem?_eq_some_iff.1 hi).1
    have ha:a=q i:=by simp [hil] at hi;exact hi.symm
    subst ha
    have k0:=(hq i hil).1 0 (by omega)
    have k1:=(hq i hil).1 1 (by omega)
    have k2:=(hq i hil).1 2 (by omega)
    have k3:=(hq i hil).1 3 (by omega)
    rw [hadd,hadd] at k0 k1 k2 k3
    exact ⟨k0,k1,k2,k3⟩
   ·obtain ⟨i,hi,rfl⟩:=List.mem_map.1 hc
    exact (hq i (List.mem_range.1 hi)).2
theorem scripts_in {r:Reach} {b0:Nat} {v:Value} {d:DataW H} {ps:List MemPlace} (hv:Value.okWide Tryd.prog w r b0 26 v) (h:DataW.Trod enc Tryd.prog w 0 (fun _=>true) true 26 v d ps) (hsz:∀ elems spare,d=.slice elems spare→(elems.length+spare.length)*Tryd.prog.bytesOf 45≤reachBytes) :
 ∃ (p:Option Addr) (b o n cap:Nat) (pc:Nat→Option Addr) (ln cp rb:Nat→Nat) (cl:Nat→List Cl),v=.slice p n cap∧InS w p b o n pc ln cp rb cl:=by
 obtain ⟨a0,len0,cap0,rfl⟩:=okWide_slice Tryd.underlying26 hv
 obtain ⟨fuel,hf⟩:=h
 have nothing:∀ p cap,∃ (p':Option Addr) (b o n cap':Nat) (pc:Nat→Option Addr) (ln cp rb:Nat→Nat) (cl:Nat→List Cl),(Value.slice p 0 cap)=.slice p' n cap'∧InS w p' b o n pc ln cp rb cl:=fun p cap =>
  ⟨p,0,0,0,cap,fun _=>none,fun _=>0,fun _=>0,fun _=>0,fun _=>[],rfl,⟨fun h=>by omega,fun k hk=>by omega,fun k hk=>by omega,fun k hk=>by omega,fun k hk=>by omega,fun k hk=>by omega,Nat.zero_le _⟩⟩
 rcases open_slice Tryd.underlying26 hf with ⟨hcs,_⟩|⟨ad,len,cap,m,k,D,Pl,hcs,_,hl,hm,hmm,hxe,hx⟩
 ·simp [Value.cells] at hcs
  obtain ⟨rfl,rfl,rfl⟩:=hcs
  exact nothing _ _
 ·simp [Value.cells] at hcs
  obtain ⟨rfl,rfl,rfl⟩:=hcs
  simp only [if_true] at hmm
  subst hmm
  have hb:=hsz _ _ (congrArg Prod.fst hxe)
  rw [op_bytes37] at hb
  simp only [List.length_map,List.length_range] at hb
  have hlen:len0≤17592186043904:=by unfold reachBytes at hb;omega
  have each:∀ i,i<len0→∃ q:Option Addr×Nat×Nat×List Cl,∃ v,w.cell? ((ad.add (i*1)).add 0)=some v∧Sc w v q:=by
   intro i hi
   obtain ⟨cs',h1,h2⟩:=hx i (by omega)
   rw [op_cells37] at h1
   obtain ⟨_,hlen,hc⟩:=World.cells?_some h1
   obtain ⟨v,q,rfl,hq⟩:=script_in h2
   exact ⟨q,v,hc 0 (by omega),hq⟩
  have ie:Inhabited (Option Addr×Nat×Nat×List Cl):=⟨(none,0,0,[])⟩
  obtain ⟨q,hq⟩:=choose_lt each
  obtain ⟨b,off,spot⟩:=ad
  by_cases h0:len0=0
  ·subst h0
   exact nothing _ _
  ·obtain ⟨v0,hv0,_⟩:=hq 0 (by omega)
   have hspot:spot=none:=by
    have:=World.cell?_spot hv0
    simpa [Addr.add] using this
   subst hspot
   have hadd:∀ (o j:Nat),(⟨b,o,none⟩:Addr).add j=⟨b,o+j,none⟩:=by intro o j;unfold Addr.add;split<;>simp_all
   refine ⟨some ⟨b,off,none⟩,b,off,len0,_,fun i=>(q i).1,fun i=>(q i).2.2.2.length,fun i=>(q i).2.1,fun i=>(q i).2.2.1,fun i=>(q i).2.2.2,rfl,⟨fun _=>rfl,fun i hi=>?_,fun _ _=>rfl,fun i hi h=>?_,fun i hi k c hc=>?_,fun i hi c hc=>?_,hlen⟩⟩
   ·obtain ⟨v,h1,h2⟩:=hq i hi
    rw [hadd,hadd,Nat.mul_one,h2.1] at h1
    exact h1
   ·obtain ⟨v,h1,h2⟩:=hq i hi
    exact h2.2.1 h
   ·obtain ⟨v,h1,h2⟩:=hq i hi
    exact h2.2.2.1 k c hc
   ·obtain ⟨v,h1,h2⟩:=hq i hi
    exact h2.2.2.2 c hc
end
theorem grows_frame {W w':World} (h:Grows W w') (may:MemPlace→Prop):W.keptBut w' may:=by
 refine ⟨h.os,h.output,fun i hi=>?_⟩
 rw [h.old i hi]
 split<;>simp_all
theorem grows_same {W w':World} (h:Grows W w') {p:MemPlace} (hp:p.block<W.heap.size):W.sameAt w' p:=by
 cases p with
 |cell b o=>exact World.cell?_of_block (w:=W) (h.old b hp)
 |map b=>exact h.old b hp
theorem op_laid:laidOutB Tryd.prog=true:=by kernel_rfl
theorem grows_trod {H:Type} {enc:TypeId×Value→H} {t:TypeId} (hr:Tryd.prog.readableRec t=true) (hrow:t<Tryd.prog.types.size) {W W':World} {v:Value} {d:DataW H} {ps:List MemPlace}
 (h:DataW.Trod enc Tryd.prog W 0 (fun _=>true) true t v d ps) (hb:Grows W W') (hlt:∀ x∈ps,x.block<W.heap.size) :
 DataW.Trod enc Tryd.prog W' 0 (fun b=>decide (b<W.heap.size)) true t v d ps :=
 WideElems.Trod_stays op_laid hr hrow h (fun x hx=>grows_same hb (hlt x hx)) (fun x hx=>by simpa using hlt x hx)
end Go.Proofs.YtbbhahigofeacaaDoor.Gen
namespace Go.Proofs.YtbbhahigofeacaaDoor
open Go Go.Lift Go.Conc
open Go.ChangeShapes Go.WideShapes Go.ChangeAt Go.RowKit Go.Joins Go.Deep
open Gen
section
variable {H:Type} {enc:TypeId×Value→H}
theorem leaving_and {a:Assume} {C:Checked} {os:Os} {f:FuncId} {fn:Func} {s:ChangeSpec} {X:World→Array Value→Prop}
 (hX:∀ (w w':World) (args:Array Value),w.heap=w'.heap→X w args→X w' args)
 (own:ownKnob C.prog.godebug=none) (started:os.Started) (hfn:C.prog.funcs[f]? = some fn)
 (wit:∃ (w:World) (tape:Tape) (i:Input),w.os=os∧(w.forCall tape i).Shaped C.prog∧i.vars=[]∧Input.okWide C.prog (w.forCall tape i) .any w.heap.size f i ∧
   ((s.pre enc C.prog fn [] false (w.forCall tape i).memory i.args∧X (w.forCall tape i).memory i.args)∧sizedMet enc C.prog fn (OpenSpec.ofChange s) false (w.forCall tape i).memory i.args)∧a.holds C.prog (lone (Frame.enter C.prog f i.args .normal) [] (w.forCall tape i)))
 (runs:∀ (W:World) (base:Nat) (args:Array Value) (ds gs:List (DataW H)) (before:List MemPlace),
   (∀ (j:Nat) t v,fn.params[j]? = some t→args[j]? = some v→Value.okWide C.prog W .any base t v) →
   DataW.Whole enc C.prog fn.params.toList s.vars false W args.toList ds gs before →
   (DataW.weightsEach C.prog (fn.params.toList++s.plain.varTypes C.prog) (ds++gs)).all (·≤reachBytes)=true→X W args →
   ∃ M last o w' t',runNT C.prog (M+1) (solo (G (Frame.enter C.prog f args .normal) []) W) #[]=(.ended o w',t')∧runN C.prog M (solo (G (Frame.enter C.prog f args .normal) []) W)=.next last ∧
     step C.prog last=.ended o w'∧Conc.Good C.prog (fun v W'=>s.post enc C.prog fn false true false false W args v W') last o w' t') :
 ReturnsInLeavingWide a C os f .any (fun w args=>(s.pre enc C.prog fn [] false w args∧X w args)∧sizedMet enc C.prog fn (OpenSpec.ofChange s) false w args) (s.post enc C.prog fn false true false false):=by
 refine returnsInLeavingWide_of_good own started wit ?_
 intro w tape i _ _ _ hok hpre _
 obtain ⟨_,_,_,fn',hfn',_,_,_,_,hval⟩:=hok
 have e:fn'=fn:=Option.some.inj (hfn'.symm.trans hfn)
 subst e
 obtain ⟨⟨⟨ds,gs,before,hw,hc⟩,hx⟩,hz⟩:=hpre
 have hw':=DataW.Whole.of_heap (w':=w.forCall tape i) (by rfl) hw
 obtain ⟨M,last,o,w',t',h1,h2,h3,h4⟩:=runs (w.forCall tape i) w.heap.size i.args ds gs before hval hw' (hz.weights hw) (hX _ _ _ (by rfl) hx)
 exact ⟨M,last,o,w',t',h1,h2,h3,h4.mono fun v hp=>ChangeSpec.post_blind hp⟩
end
theorem fieldT0:(Tryd.prog.globals[0]?).map (·.type)=some 98:=by kernel_rfl
theorem fieldT1:(Tryd.prog.globals[1]?).map (·.type)=some 98:=by kernel_rfl
theorem fieldT2:(Tryd.prog.globals[2]?).map (·.type)=some 98:=by kernel_rfl
theorem fieldT3:(Tryd.prog.globals[3]?).map (·.type)=some 98:=by kernel_rfl
theorem cells98:Tryd.prog.cellsOf 98=2:=by kernel_rfl
theorem field_open {w:World} {fuel:Nat} {cs:List Value} {x y:Int} {p:List MemPlace} (h:DataW.trod (fun _=>()) Tryd.prog w 0 (fun _=>true) false fuel 98 cs=some (.agg [.lit (.int .i64 x),.lit (.int .i64 y)],p)):cs=[I x,I y]:=by
 obtain ⟨xs,k,hk,hxy,hl,hxl,hf⟩:=DataW.trod_struct Tryd.underlying98 h
 rw [cells98] at hl
 match xs,hxl,cs,hl with
 | [y0,y1],_,[c0,c1],_ =>
  have g0:=hf 0 _ rfl
  have g1:=hf 1 _ rfl
  simp [op_cells3] at g0 g1
  obtain ⟨a0,e0,f0,_⟩:=DataW.trod_int Tryd.underlying3 g0
  obtain ⟨a1,e1,f1,_⟩:=DataW.trod_int Tryd.underlying3 g1
  simp at e0 e1
  subst e0 e1 f0 f1
  simp at hxy
  obtain ⟨⟨rfl,rfl⟩,_⟩:=hxy
  rfl
theorem var_row {w:World} {n:String} {g:Nat} {cs:Array Value} (hg:Tryd.prog.globalNamed n=some g) (h:w.var? Tryd.prog n=some cs):∃ t f,w.heap[g]? = some (.cells cs t f):=by
 simp only [World.var?,hg,Option.bind_some] at h
 split at h
 ·rename_i c t f e
  cases h
  exact ⟨t,f,e⟩
 ·cases h
abbrev laidC : List (String × DataW Unit) := [("butler/slots.fieldFirst", Rows.laid_butler_slots_fieldFirst), ("butler/slots.fieldVersion", Rows.laid_butler_slots_fieldVersion), ("butler/stack.fieldTop", Rows.laid_butler_stack_fieldTop), ("butler/stack.fieldVersion", Rows.laid_butler_stack_fieldVersion)]
theorem gV0 : Tryd.prog.globalNamed "butler/slots.fieldFirst" = some 0 := by kernel_rfl
theorem gV1 : Tryd.prog.globalNamed "butler/slots.fieldVersion" = some 1 := by kernel_rfl
theorem gV2 : Tryd.prog.globalNamed "butler/stack.fieldTop" = some 2 := by kernel_rfl
theorem gV3 : Tryd.prog.globalNamed "butler/stack.fieldVersion" = some 3 := by kernel_rfl
theorem gl_laid {W:World} (h:laidMetH Tryd.prog laidC W):Gl W:=by
 have h':laidMet Tryd.prog laidC W:=h
 obtain ⟨ps,hv,_,_⟩:=h'
 obtain ⟨g0,t0,cs0,fuel0,p0,q0,e10,e20,e30,e40,hr0,rfl⟩:=hv
 obtain ⟨g1,t1,cs1,fuel1,p1,q1,e11,e21,e31,e41,hr1,rfl⟩:=hr0
 obtain ⟨g2,t2,cs2,fuel2,p2,q2,e12,e22,e32,e42,hr2,rfl⟩:=hr1
 obtain ⟨g3,t3,cs3,fuel3,p3,q3,e13,e23,e33,e43,hr3,rfl⟩:=hr2
 obtain rfl:=Option.some.inj (gV0.symm.trans e10)
 obtain rfl:=Option.some.inj (gV1.symm.trans e11)
 obtain rfl:=Option.some.inj (gV2.symm.trans e12)
 obtain rfl:=Option.some.inj (gV3.symm.trans e13)
 obtain rfl:=Option.some.inj (fieldT0.symm.trans e20)
 obtain rfl:=Option.some.inj (fieldT1.symm.trans e21)
 obtain rfl:=Option.some.inj (fieldT2.symm.trans e22)
 obtain rfl:=Option.some.inj (fieldT3.symm.trans e23)
 have f0:=field_open e40
 have f1:=field_open e41
 have f2:=field_open e42
 have f3:=field_open e43
 obtain ⟨ty0,fz0,r0⟩:=var_row gV0 e30
 obtain ⟨ty1,fz1,r1⟩:=var_row gV1 e31
 obtain ⟨ty2,fz2,r2⟩:=var_row gV2 e32
 obtain ⟨ty3,fz3,r3⟩:=var_row gV3 e33
 have c0:cs0=#[I 0,I 32]:=by rw [←f0]
 have c1:cs1=#[I 32,I 30]:=by rw [←f1]
 have c2:cs2=#[I 0,I 32]:=by rw [←f2]
 have c3:cs3=#[I 32,I 30]:=by rw [←f3]
 subst c0 c1 c2 c3
 exact ⟨⟨_,_,_,r0,rfl,rfl⟩,⟨_,_,_,r1,rfl,rfl⟩,⟨_,_,_,r2,rfl,rfl⟩,⟨_,_,_,r3,rfl,rfl⟩⟩
noncomputable def laidW9 (os:Os):World:=World.laidAll Tryd.prog os laidC
theorem laidW9_met (os:Os) (args:Array Value):laidMetH Tryd.prog laidC ((laidW9 os).forCall (fun _ _=>0) ⟨#[],args,[]⟩).memory:=laidMet_laidAll (laid:=laidC) args (by kernel_rfl) (by kernel_rfl)
theorem stackVersions_lifted (os:Os) (started:os.Started) (H:Type) (enc:TypeId×Value→H) :
 ReturnsInLeavingWide {} Tryd.checked os 9 .any (fun w args=>(Rows.stackVersionsSpec.pre enc Tryd.prog Tryd.f9 [] false w args∧laidMetH Tryd.prog laidC w)∧sizedMet enc Tryd.prog Tryd.f9 (OpenSpec.ofChange Rows.stackVersionsSpec) false w args) (Rows.stackVersionsSpec.post enc Tryd.prog Tryd.f9 false true false false):=by
 refine leaving_and (C:=Tryd.checked) (X:=fun w _=>laidMetH Tryd.prog laidC w) (fun _ _ _ hh h=>laidMet.of_heap (l:=laidC) hh h) op_knob started Tryd.func9
  (ChangeSpec.witness_at (enc:=enc) (C:=Tryd.checked) (os:=os) (X:=fun w _=>laidMetH Tryd.prog laidC w) false (laidW9 os) #[.slice none 0 0,.int .i64 0,.slice none 0 0] 8 (World.laidAll_os _ _ _) (by kernel_rfl) (by kernel_rfl) (by kernel_rfl) (by kernel_rfl) (by kernel_rfl) (laidW9_met os _)) ?_
 intro W base args ds gs before hval0 hW hsz0 hL
 have hval:∀ (j:Nat) t v,Tryd.f9.params[j]? = some t→args[j]? = some v→Value.okWide Tryd.prog W .any base t v:=hval0
 have hW':=hW
 obtain ⟨p,q,hA0,hV,rfl,_,_⟩:=hW
 have hA:DataW.TrodAll enc Tryd.prog W 0 (fun _=>true) true Tryd.f9.params.toList args.toList ds p:=hA0
 have hsz:(DataW.weightsEach Tryd.prog (Tryd.f9.params.toList++Rows.stackVersionsSpec.plain.varTypes Tryd.prog) (ds++gs)).all (·≤reachBytes)=true:=hsz0
 rw [Tryd.params9] at hA hval hsz
 obtain ⟨v0,vs0,d0,ds0,p0,q0,hargs,rfl,rfl,h0,r0⟩:=trodAll_cons hA
 obtain ⟨v1,vs1,d1,ds1,p1,q1,rfl,rfl,rfl,h1,r1⟩:=trodAll_cons r0
 obtain ⟨v2,vs2,d2,ds2,p2,q2,rfl,rfl,rfl,h2,r2⟩:=trodAll_cons r1
 obtain ⟨rfl,rfl,rfl⟩:=trodAll_nil r2
 obtain rfl:args=#[v0,v1,v2]:=by cases args;simp_all
 obtain ⟨rfl,rfl⟩:=trodVars_none hV
 have k0:=h0
 have k1:=h1
 have k2:=h2
 have lt0:∀ x∈p0,x.block<W.heap.size:=by obtain ⟨m,hm⟩:=k0;exact DataW.trod_lt m _ _ _ hm
 have lt1:∀ x∈p1,x.block<W.heap.size:=by obtain ⟨m,hm⟩:=k1;exact DataW.trod_lt m _ _ _ hm
 have lt2:∀ x∈p2,x.block<W.heap.size:=by obtain ⟨m,hm⟩:=k2;exact DataW.trod_lt m _ _ _ hm
 obtain ⟨sp,scap,sb,so,sched,e0,hS⟩:=ints_in (hval 0 25 v0 rfl rfl) h0 (fun el sp e=>sized_slice hsz (j:=0) rfl (by rw [e];rfl) Tryd.underlying25)
 obtain ⟨x0,hx0,j1,j2,j3⟩:=open_int Tryd.underlying3 (hval 1 3 v1 rfl rfl) h1
 obtain ⟨cp0,b,o,n,cap,pc,ln,cp,rb,cl,e2,hC⟩:=scripts_in (hval 2 26 v2 rfl rfl) h2 (fun el sp e=>sized_slice hsz (j:=2) rfl (by rw [e];rfl) Tryd.underlying26)
 clear hA0 hval0 hsz0
 subst e0 hx0 e2
 simp only [List.append_nil] at hW'
 obtain ⟨M,last,o',w',t',g1,g2,g3,g4⟩:=run9 (scap:=scap) (cap:=cap) W (gl_laid hL) x0 hS hC
 refine ⟨M,last,o',w',t',g1,g2,g3,g4.mono fun v hF=>?_⟩
 obtain ⟨rfl,bel⟩:PostT W v w':=hF
 exact ⟨_,_,_,[],_,[],hW',trodAll_mk1 (shut_bool Tryd.underlying4 _),
  (trodAll_cons_mk (grows_trod (by kernel_rfl) (of_decide_eq_true (by kernel_rfl)) k0 bel lt0)
  (trodAll_cons_mk (grows_trod (by kernel_rfl) (of_decide_eq_true (by kernel_rfl)) k1 bel lt1)
  (trodAll_cons_mk (grows_trod (by kernel_rfl) (of_decide_eq_true (by kernel_rfl)) k2 bel lt2) trodAll_mk0))),rfl,grows_frame bel _,fun h=>by cases h⟩
theorem stackVersions_holds:Rows.StackVersionsSaid :=
 OpenClaim.holds_of_wide_leaving 9 Tryd.f9 rfl rfl rfl rfl rfl rfl rfl ⟨rfl,rfl,rfl,rfl,rfl⟩ rfl rfl rfl rfl rfl (by kernel_rfl) Tryd.func9 (by kernel_rfl)
  (of_decide_eq_true (by kernel_rfl)) (by unfold Func.isWrapper;first|(rw [if_pos (by decide +kernel)];kernel_rfl)|(rw [if_neg (by decide +kernel)];exact ⟨rfl,rfl⟩))
  (fun os started H enc _=>stackVersions_lifted os started H enc)
end Go.Proofs.YtbbhahigofeacaaDoor
namespace Go.Proofs.YtbbhahigofeacaaDoor
open Go
theorem card_goes9 {p:Pinned} {s:OpenSpec} {c:OpenClaim} {kinds:List LaidKind} {tests:Bool} {har:Bool×String} {lk:Bool} (Lk:Looks)
 (hc:c.holds p s) (hw:c.wfByText s=true) (htie:c.laidByTextAt Lk p kinds tests)
 (hst:c.start=.entering) (hnb:c.noBlocks=false∧c.again=false) (hm:p.checked.prog.mainIs=some (har.1,har.2.toList)) (hn:(!har.1&&har.2.isEmpty&&!lk)=false)
 (hl:∀ f fn,p.checked.prog.funcNamed c.func=some f→p.checked.prog.funcs[f]? = some fn→lk=p.checked.prog.looks []∧∀ (j:Nat) t,fn.params[j]? = some t→p.checked.prog.wantsStandIn t=false)
 (hg:true=c.goesBy p.checked.prog) :
 Claim7.holds p (.plain s) { stood:={ row:=c,standIns:=[],harness:=har,looks:=lk },kinds:=[],alts:=[],goes:=true,laidByText:=true,laidKinds:=kinds,laidTests:=tests,laidLooks:=Lk }:=by
 have h6:Claim7.isSixth { stood:={ row:=c,standIns:=[],harness:=har,looks:=lk },kinds:=[] }=false:=by simpa [Claim7.isSixth] using hn
 have h1:=Claim7.new_of_sixth hc har lk hst hnb hm h6 hl
 obtain ⟨_,rest⟩:=h1
 exact ⟨⟨hw,rest⟩,fun D hD=>(by cases hD),htie,(fun h=>by cases h),hg⟩
theorem stackVersions_card:Rows.StackVersionsCardSaid :=
 card_goes9 .later stackVersions_holds (by kernel_rfl) stackVersions_row_tie rfl ⟨rfl,rfl⟩ (by kernel_rfl) rfl
  (fun f fn hf hfn=>by
    obtain rfl : f = 9 := Option.some.inj ((show Tryd.prog.funcNamed "butler/butlerlaw09.StackVersions" = some 9 by kernel_rfl).symm.trans hf) |>.symm
    obtain rfl:fn=Tryd.f9:=(Option.some.inj (Tryd.func9.symm.trans hfn)).symm
    exact ⟨by kernel_rfl,fun j t ht=>by
     rw [Tryd.params9] at ht
     have hm:t∈[25,3,26]:=by simpa using Array.mem_of_getElem? ht
     have hall:([25,3,26].all fun u=>!Tryd.prog.wantsStandIn u)=true:=by kernel_rfl
     exact (show Tryd.prog.wantsStandIn t=false by simpa using List.all_eq_true.1 hall t hm)⟩)
  (by kernel_rfl)
#print axioms stackVersions_card
end Go.Proofs.YtbbhahigofeacaaDoor
