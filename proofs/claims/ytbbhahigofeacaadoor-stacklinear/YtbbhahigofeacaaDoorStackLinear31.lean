/- StackLinear, part 31 of 32: La8F. -/
import Derived.Test.YtbbhahigofeacaaDoorStackLinear01
import Derived.Test.YtbbhahigofeacaaDoorStackLinear04
import Derived.Test.YtbbhahigofeacaaDoorStackLinear09
import Derived.Test.YtbbhahigofeacaaDoorStackLinear10
import Derived.Test.YtbbhahigofeacaaDoorStackLinear28
import Derived.Test.YtbbhahigofeacaaDoorStackLinear29
import Derived.Test.YtbbhahigofeacaaDoorStackLinear30
set_option linter.unusedSimpArgs false
set_option linter.unusedVariables false
set_option maxHeartbeats 4000000
set_option maxRecDepth 100000
noncomputable section
namespace Go.Proofs.YtbbhahigofeacaaDoor.Gen
open Go Go.Lift Go.Conc Go.RowKit
variable {v w:World} {a:Act} {main:Bool}
def P8:Code:=.seq q8_2 (.seq q8_3 T8)
theorem eC8:C8=.seq q8_0 (.seq q8_1 P8):=e8
theorem fine_q8_2:A7 Tryd.prog true LV q8_2:=Cc Cb extT (by kernel_rfl)
theorem q8_2_wp {s1 s2:Value}(p:Option Addr) (cap vb vo:Nat) (xs:List Int) (hp:0<xs.length->p=some ⟨vb,vo,none⟩) (hx1:xs.length<=17592186043904) (hv:∀ k x,xs[k]? = some x->v.cell? ⟨vb,vo+k,none⟩=some (I x)) (hA:Fl 84 [(0,.slice p xs.length cap),(1,s1),(2,s2),(7,.bool true)] a):
 q8_2.wp Tryd.prog (λe a w'=>e=.normal∧∃ wb bk sc,Fl 84 [(1,s1),(2,s2),(7,.bool true),(8,Pt wb 0)] a∧IsNew v xs wb bk sc w') a v:=by
 have H7:Hid (Calls Tryd.prog 14 #[.slice p xs.length cap] v _):=⟨(body7A p vb vo cap xs hp hx1 hv).calls Tryd.func14 rfl⟩
 clear hp hx1 hv;obtain ⟨hsz,hd,hp⟩:=hA;obtain ⟨u,rfl,hg⟩:=litN hsz hd;simp only[List.forall_mem_cons,hg] at hp;obtain ⟨u0,u1,u2,u7,-⟩:=hp;clear hg hsz hd;unfold q8_2 C8 Tryd.f8 seq2 seq1;simp only[Qa,lits,Nat.reduceAdd,u0,u1,u2,u7];clear u0 u1 u2 u7
 go_wp2_with (first
  |(go_at_call 14;refine H7.out.mono ?_;rintro e w1 ⟨_,rfl,wb,bk,sc,rfl,hnew⟩))
 exact ⟨wb,⟨rfl,rfl,(alC rfl<|alC rfl<|alC rfl<|alC rfl<|alN)⟩,bk,sc,hnew⟩
theorem law8_in {Ch:Nat->Prop}{Stop:Goroutine->World->Prop}(x0:Value) (x1:Value) (x2:Value)
 (hk:∀ (w':World) (bd:Frame) (ad:Act) (od:Array Oper) (qd:Nat) (rd:List Nat) (oe:Oper) (kd:List Item),(∃ d,w'=w.at d)->od[qd]? = some oe ->
   (∀ (Ch:Nat->Prop) (Stop:Goroutine->World->Prop) (w1:World),(∀ a,Fl 84 [(0,x0),(1,x1),(2,x2),(7,.bool true)] a->GoT zn main Ch Stop (G ((base 8).at a [.code P8]) []) w1)->GoT zn main Ch Stop (G (bd.at (ad.put oe.dst (.bool true)) (.inRegion od rd :: kd)) []) w1) ->
   GoT zn main Ch Stop (G ((base 27).at { tmps:=Array.replicate 137 undef,defers:=[] } [.code hwB]) [bd.at ad (.inRegion od (qd :: rd):: kd)]) w'):
 GoT zn main Ch Stop (G ((base 8).at { tmps:=#[x0,x1,x2]++Array.replicate 81 undef,defers:=[] } [.code C8]) []) w:=by
 rw[eC8];simp only[Sy];refine Ab ?_;generalize hR:P8=R9 at hk ⊢;unfold q8_0 q8_1 C8 Tryd.f8 seq1 seq2;simp only[Qa];refine Ac ?_;simp only[Sz,Sr,Nat.reduceAdd];refine Ad rfl rfl (by decide) rfl λd K hK=>?_;go_simp;refine hK _ ?_;clear hK K;refine Aa ?_;refine Ab ?_;refine Ac ?_;simp only[Sz,Sr,Nat.reduceAdd];refine Ao (f:=27) (fn:=Tryd.f27) (args:=#[]) (Ag _ _) rfl rfl (by decide) rfl (by simp[Act.eval]) Tryd.func27 (by decide) rfl ?_;refine hk w _ _ _ _ _ _ _ ⟨w.drawn,rfl⟩ rfl (λCh Stop w1 hg=>?_);clear hk;refine Ad rfl rfl (by decide) rfl λd K hK=>?_;go_simp;refine hK _ ?_;clear hK K;refine Aa ?_;exact hg _ ⟨rfl,rfl,(alC rfl<|alC rfl<|alC rfl<|alC rfl<|alN)⟩
theorem end8 {todo:List Item}(hd:a.defers=[]) (h4:a.tmps.getD 6 undef=.bool true):stepG Tryd.prog true (G { (base 8).at a todo with mode:=.returning } []) w=.ended (.done (.bool true)) w #[]:=by
 have hr:(results Tryd.f8 a.tmps).run Tryd.prog w=.ok (.bool true) w:=by rw[results_tmp (t:=6) rfl,h4]
 have he:(results Tryd.f8 a.tmps).events Tryd.prog w #[]=#[]:=by simp[results,go_sem,Tryd.f8]
 simp[G,stepG,unwind,Frame.at,hd,Tryd.func8,base,hr,he,doReturn,GStep.after,seen]
theorem law8_b {Ch:Nat->Prop}{Stop:Goroutine->World->Prop}(p:Option Addr) (cap vb vo:Nat) (xs:List Int) (hp:0<xs.length->p=some ⟨vb,vo,none⟩) (hx1:xs.length<=17592186043904) (hv:∀ k x,xs[k]? = some x->v.cell? ⟨vb,vo+k,none⟩=some (I x)) (s1 s2:Value) (hvw:Rel zn v w) (hn:Ai Ch v)
 (hk:∀ (v' w':World) (wb bk:Nat) (sc:Value) (bd:Frame) (ad:Act) (od:Array Oper) (qd:Nat) (rd:List Nat) (oe:Oper) (kd:List Item),Rel zn v' w'->Ai Ch v'->IsNew v xs wb bk sc v'->od[qd]? = some oe ->
   (∀ (Ch:Nat->Prop) (Stop:Goroutine->World->Prop) (w2:World) (A:Value) (E:Int),(∀ a,Fl 84 [(1,s1),(2,s2),(7,.bool true),(8,Pt wb 0),(9,A),(10,I E)] a->GoT zn main Ch Stop (G ((base 8).at a [.code T8]) []) w2) ->
     GoT zn main Ch Stop (G (bd.at (ad.put oe.dst (.tuple #[A,I E])) (.inRegion od rd :: kd)) []) w2) ->
   GoT zn main Ch Stop (G ((base 28).at { tmps:=#[Pt wb 0,s1,s2]++Array.replicate 27 undef,defers:=[] } [.code B28]) [bd.at ad (.inRegion od (qd :: rd):: kd)]) w'):
 ∀ a,Fl 84 [(0,.slice p xs.length cap),(1,s1),(2,s2),(7,.bool true)] a->GoT zn main Ch Stop (G ((base 8).at a [.code P8]) []) w:=by
 intro a0 hA0;unfold P8;refine Ab ?_;refine Ba (z:=zn) (wr:=true) (L:=LV) (I:=Ai Ch) hE G5 Az (λv v' w w' es hi hr ho he=>B0 v v' w w' es hi hr ho he) hvw fine_q8_2 hA0.2.1 (by simp[base]) hn
  (Q:=λa w'=>∃ wb bk sc,Fl 84 [(1,s1),(2,s2),(7,.bool true),(8,Pt wb 0)] a∧IsNew v xs wb bk sc w') (λτ=>wp_mono (q8_2_wp (v:=Ap v τ 0) p cap vb vo xs hp hx1 hv hA0) (λe a w' hq=>⟨hq.1,by
    obtain ⟨_,wb,bk,sc,h1,h2⟩:=hq;exact ⟨wb,bk,sc,h1,h2.mem,h2.opn,h2.new,⟨h2.old.size,h2.old.old,h2.old.os,h2.old.output⟩⟩⟩)) ?_
 rintro a1 v1 w1 ⟨wb,bk,sc,hB,hnew⟩ hr1 hn1 -;obtain ⟨hsz,hd,hpp⟩:=hB;obtain ⟨u,rfl,hg⟩:=litN hsz hd;simp only[List.forall_mem_cons,hg] at hpp;obtain ⟨u1,u2,u7,u8,-⟩:=hpp;clear hg hsz hd hA0;refine Ab ?_;clear hvw hn hp hx1 hv;generalize hT:T8=T at hk ⊢;unfold q8_3 C8 Tryd.f8 seq1 seq2;simp only[Qa,lits,Nat.reduceAdd,u1,u2,u7,u8];clear u1 u2 u7 u8;refine Ac ?_;simp only[Sz,Sr,Nat.reduceAdd];iterate 3
  (refine Ad rfl rfl (by decide) rfl λd K hK=>?_
   go_simp;refine hK _ ?_;clear hK K)
 refine Ao (f:=28) (fn:=Tryd.f28) (args:=#[Pt wb 0,s1,s2]) (Ag _ _) rfl rfl (by decide) rfl (by simp[Act.eval]) Tryd.func28 (by decide) rfl ?_;refine hk v1 w1 wb bk sc _ _ _ _ _ _ _ hr1 hn1 hnew rfl (λCh Stop w2 A E hwp=>?_);clear hk hnew hr1 hn1;iterate 5
  (refine Ad rfl rfl (by decide) rfl λd K hK=>?_
   go_simp;refine hK _ ?_;clear hK K)
 refine Aa ?_;exact hwp _ ⟨rfl,rfl,(alC rfl<|alC rfl<|alC rfl<|alC rfl<|alC rfl<|alC rfl<|alN)⟩
theorem sumG_64:∀ n,sumG (λ_=>64) n=64*n
 |0=>rfl
 |n+1=>by unfold sumG;rw[sumG_64 n];omega
theorem trace_call {S:TS}{L:List Stp}(hR:Rep zn S v) (htr:S.tr=flat L) (hSn:S.n=L.length) (hs4:S.n<=400000):Calls Tryd.prog 16 #[Pt S.wb 0] v λe w'=>∃ tv,e=.returned tv∧Grows v w'∧R3.SLw 5 R3.Jc w' tv (L.map Gz):=by have h:=(body9A hR (by omega) (by rw[htr];exact flat_one L)).calls Tryd.func16 rfl;refine h.mono λe w' hq=>?_;obtain ⟨_,rfl,p,g,ct,rfl,k1,k2,k3⟩:=hq;rw[htr] at k2;exact ⟨_,rfl,k3,sl_trace hSn hs4 (λh=>(k1 h).1) k2⟩
theorem law8_no {Ch:Nat->Prop}{Stop:Goroutine->World->Prop}{E:Int}(hE1:E=1∨E=2) (hvw:Rel zn v w) (hn:Ai Ch v) (hA:Fl 84 [(7,.bool true),(10,I E)] a)
 (hend:∀ a' v' w' todo,Rel zn v' w'->Grows v v'->a'.defers=[]->a'.tmps.getD 6 undef=.bool true->GoT zn main Ch Stop (G { (base 8).at a' todo with mode:=.returning } []) w'):
 GoT zn main Ch Stop (G ((base 8).at a [.code T8]) []) w :=
 goesI_retX (Q:=λa w'=>Fl 84 [(6,.bool true)] a∧Grows v w') hvw hn fine_T8 hA.2.1 (λτ=>wp_mono (tail8_no (v:=Ap v τ 0) hE1 hA) (λe a w' hq=>⟨hq.1,hq.2.1,hq.2.2.size,hq.2.2.old,hq.2.2.os,hq.2.2.output⟩)) (λa' v' w' todo hQ hd hr hn'=>hend a' v' w' todo hr hQ.2 hd (hQ.1.at 6 (.bool true) (by simp)))
theorem law8_yes {Ch:Nat->Prop}{Stop:Goroutine->World->Prop}{S:TS}{sv av:Value}{L:List Stp}{E:List His.Ev}(hR:Rep zn S v) (htr:S.tr=flat L) (hSn:S.n=L.length) (hs4:S.n<=400000) (hn1:E.length<=1000) (hH:His.Hist (E.filter isPP)) (hLin:His.Lin (His.Bl 2 0) (His.Dq 2 0) (E.filter isPP))
 (hX:∀ u tv,Grows v u->R3.SLw 5 R3.Jc u tv (L.map Gz)->Calls Tryd.prog 34 #[sv,av,tv] u λe w'=>∃ lv,e=.returned (.tuple #[lv,I 0])∧w'.ownsRow v.heap.size 70 8 lv E.length (E.flatMap R3.evL)∧Below u.heap.size u w') (hvw:Rel zn v w) (hn:Ai Ch v)
 (hA:Fl 84 [(7,.bool true),(10,I 0),(2,sv),(8,Pt S.wb 0),(9,av)] a)
 (hend:∀ a' v' w' todo,Rel zn v' w'->Grows v v'->a'.defers=[]->a'.tmps.getD 6 undef=.bool true->GoT zn main Ch Stop (G { (base 8).at a' todo with mode:=.returning } []) w'):
 GoT zn main Ch Stop (G ((base 8).at a [.code T8]) []) w :=
 goesI_retX (Q:=λa w'=>Fl 84 [(6,.bool true)] a∧Grows v w') hvw hn fine_T8 hA.2.1 (λτ=>wp_mono (tail8_yes (v:=Ap v τ 0) (TT:=λtv u=>R3.SLw 5 R3.Jc u tv (L.map Gz)) hn1 hH hLin (trace_call (hR.same (v':=Ap v τ 0) rfl) htr hSn hs4) (λtv u hg ht=>hX u tv ⟨hg.size,hg.old,hg.os,hg.output⟩ ht) hA) (λe a w' hq=>⟨hq.1,hq.2.1,hq.2.2.size,hq.2.2.old,hq.2.2.os,hq.2.2.output⟩)) (λa' v' w' todo hQ hd hr hn'=>hend a' v' w' todo hr hQ.2 hd (hQ.1.at 6 (.bool true) (by simp)))
theorem run8 (W:World) (hGl:Gl W) (n0:Int) {sp:Option Addr}{sb so scap:Nat}{sched:List Int}(hS:InI W sp sb so sched) {p:Option Addr}{b o n cap:Nat}{pc:Nat->Option Addr}{ln cp rb:Nat->Nat}{cl:Nat->List Cl}(hC:InS W p b o n pc ln cp rb cl):
 ∃ M last o w' t',runNT Tryd.prog (M+1) (solo (G (Frame.enter Tryd.prog 8 #[.slice sp sched.length scap,I n0,.slice p n cap] .normal) []) W) #[]=(.ended o w',t') ∧
   runN Tryd.prog M (solo (G (Frame.enter Tryd.prog 8 #[.slice sp sched.length scap,I n0,.slice p n cap] .normal) []) W)=.next last∧step Tryd.prog last=.ended o w'∧Go.Conc.Good Tryd.prog (PostT W) last o w' t':=by
 have e:Frame.enter Tryd.prog 8 #[.slice sp sched.length scap,I n0,.slice p n cap] .normal=(base 8).at { tmps:=#[.slice sp sched.length scap,I n0,.slice p n cap]++Array.replicate 81 undef,defers:=[] } [.code C8]:=enter_at (fn:=Tryd.f8) (c:=C8) _ Tryd.func8 (by rfl);rw[e,solo_eq_crowd];have A:Alone #[G ((base 8).at { tmps:=#[.slice sp sched.length scap,I n0,.slice p n cap]++Array.replicate 81 undef,defers:=[] } [.code C8]) []] W #[] (λ_=>0):=⟨leavers_one _ _,0,Nat.zero_le _,past_nil⟩
 obtain ⟨N1,gs1,a1,w1,sl1,T1,q1,r1,z1,h1,⟨bd,ad,od,qd,rd,oe,kd,⟨d1,rfl⟩,hoe,hback,rfl⟩,A1⟩:=Ef A rfl none (Stop:=λg w'=>∃ (bd:Frame) (ad:Act) (od:Array Oper) (qd:Nat) (rd:List Nat) (oe:Oper) (kd:List Item),(∃ d,w'=W.at d)∧od[qd]? = some oe ∧
  (∀ (Ch:Nat->Prop) (Stop:Goroutine->World->Prop) (w1:World),(∀ a,Fl 84 [(0,.slice sp sched.length scap),(1,I n0),(2,.slice p n cap),(7,.bool true)] a->GoT zn true Ch Stop (G ((base 8).at a [.code P8]) []) w1)->GoT zn true Ch Stop (G (bd.at (ad.put oe.dst (.bool true)) (.inRegion od rd :: kd)) []) w1) ∧
  g=G ((base 27).at { tmps:=Array.replicate 137 undef,defers:=[] } [.code hwB]) [bd.at ad (.inRegion od (qd :: rd) :: kd)])
  (law8_in _ _ _ (λw' bd ad od qd rd oe kd hw ho hback=>GoesI.stop λd=>⟨bd,ad,od,qd,rd,oe,kd,by obtain ⟨d0,rfl⟩:=hw;exact ⟨d,rfl⟩,ho,hback,rfl⟩))
 obtain ⟨N2,gs2,w2,sl2,T2,q2,r2,h2,A2,g2⟩:=tawake_all hoe sl1 A1 (w:=W.at d1) (show Gl (W.at d1) from ⟨hGl.a,hGl.b,hGl.c,hGl.d⟩) h1;have g2':Grows W w2:=⟨g2.size,g2.old,g2.os,g2.output⟩
 have hS2:=hS.grows g2';have hC2:=hC.grows g2';obtain ⟨N3,gs3,a3,w3,sl3,T3',q3,r3,z3,h3,⟨wb,bk,sc,bd,ad,od,qd,rd,oe,kd,hnew,hoe3,hend8,rfl⟩,A3⟩:=Ef A2 h2 sl2 (Stop:=λg w'=>∃ (wb bk:Nat) (sc:Value) (bd:Frame) (ad:Act) (od:Array Oper) (qd:Nat) (rd:List Nat) (oe:Oper) (kd:List Item),IsNew w2 sched wb bk sc w'∧od[qd]? = some oe ∧
  (∀ (Ch:Nat->Prop) (Stop:Goroutine->World->Prop) (w2:World) (A:Value) (E:Int),(∀ a,Fl 84 [(1,I n0),(2,.slice p n cap),(7,.bool true),(8,Pt wb 0),(9,A),(10,I E)] a->GoT zn true Ch Stop (G ((base 8).at a [.code T8]) []) w2) ->
    GoT zn true Ch Stop (G (bd.at (ad.put oe.dst (.tuple #[A,I E])) (.inRegion od rd :: kd)) []) w2) ∧
  g=G ((base 28).at { tmps:=#[Pt wb 0,I n0,.slice p n cap]++Array.replicate 27 undef,defers:=[] } [.code B28]) [bd.at ad (.inRegion od (qd :: rd) :: kd)])
  (hback (λ_=>False) _ w2 (law8_b sp scap sb so sched hS2.at_ hS2.len hS2.cell _ _ (Rel.refl w2) (λc hc=>hc.elim) (λv' w' wb bk sc bd ad od qd rd oe kd hr hn hnew ho hend=>GoesI.stop λd=>⟨wb,bk,sc,bd,ad,od,qd,rd,oe,kd,by
    have e:(w'.at d).heap=v'.heap:=hr.eq;have hgr:Grows v' (w'.at d):=⟨by rw[e];exact Qi _,λb _=>by rw[e],hr.os,hr.output⟩
    refine ⟨(hnew.mem.grows hgr).mem,?_,hnew.new,⟨by rw[e];exact hnew.old.size,λb hb=>by rw[e];exact hnew.old.old b hb,hr.os.trans hnew.old.os,hr.output.trans hnew.old.output⟩⟩;obtain ⟨c,m,h⟩:=hnew.opn;exact ⟨c,m,by rw[e];exact h⟩,ho,hend,rfl⟩)))
 have g3:Grows W w3:=g2'.trans' hnew.old;have hC9:=hC2.grows hnew.old;have fin:∀ (N4:Nat) (gs4:Array Goroutine) (w4:World) (sl4:Option (Nat×Nat)) (T3:Trace) (q4:Nat->Nat) (a4:Goroutine),runNT Tryd.prog N4 (crowd gs3 w3 sl3) T3'=(.next (crowd gs4 w4 sl4),T3)->gs4[0]? = some a4->Alone gs4 w4 T3 q4->(∃ a' todo,a'.defers=[]∧a'.tmps.getD 6 undef=.bool true∧Grows W w4∧a4=G { (base 8).at a' todo with mode:=.returning } []) ->
  ∃ M last o w' t',runNT Tryd.prog (M+1) (crowd #[G ((base 8).at { tmps:=#[.slice sp sched.length scap,I n0,.slice p n cap]++Array.replicate 81 undef,defers:=[] } [.code C8]) []] W none) #[]=(.ended o w',t')∧runN Tryd.prog M (crowd #[G ((base 8).at { tmps:=#[.slice sp sched.length scap,I n0,.slice p n cap]++Array.replicate 81 undef,defers:=[] } [.code C8]) []] W none)=.next last∧step Tryd.prog last=.ended o w'∧Go.Conc.Good Tryd.prog (PostT W) last o w' t':=by
  intro N4 gs4 w4 sl4 T3 q4 a4 r4 h4 A4 ⟨a',todo,hd,h6,g4,ea⟩;subst ea;obtain ⟨M5,last,o,w',t',e1,e2,e3,e4⟩:=alone_ends A4 h4 sl4 (Post:=PostT W) (λB d=>⟨rfl,.bool true,#[],end8 hd h6,λe he=>by simp at he,rfl,⟨g4.size,g4.old,g4.os,g4.output⟩⟩);have hrun:=runNT_then (runNT_then (runNT_then r1 r2) r3) r4;refine ⟨N1+N2+N3+N4+M5,last,o,w',t',?_,?_,e3,e4⟩;rw[Nat.add_assoc,runNT_add,hrun];exact e1;rw[runN_add,<-runNT_fst Tryd.prog _ _ #[],hrun];exact e2
 by_cases hyes:(∀ k,k<n->ln k<=64)∧(0<n∧n<=8)∧0<=n0∧n0<=1000
 .obtain ⟨h64,hn8,hx0,hx1⟩:=hyes
  obtain ⟨s,rfl⟩:∃ s:Nat,n0=(s:Int):=⟨n0.toNat,by omega⟩
  have hs1:s<=1000:=by omega
  have hl64:∀ j,j<n->(cl j).length<=64:=λj hj=>by rw[hC.len j hj];exact h64 j hj
  have hlens:∀ caps pk N K,lens (scrs (mcT s) 52 caps pk N n K pc ln cp rb cl)<=512:=λcaps pk N K=>Qk (lens_scrs _ _ _ _ _ _ _ _ _ _ _ _ hl64) (by omega);have hpp:=hC.at_ hn8.1;subst hpp;have hG3:=hGl.grow g3.old;have hGlt:=hGl.size;have hpf:∀ b,glP w3 b≠none->¬ Own (newS wb bk w2.heap.size sc sched) [] b∧b≠(newS wb bk w2.heap.size sc sched).bk:=λb hb=>by have hb':=glP_lt hb;have hs2:=g2'.size;exact ⟨λh=>by have:=hnew.new b (.inl h);omega,λh=>by have:=hnew.new b (.inr h);omega⟩
  obtain ⟨N4,gs4,w4,sl4,T4',q4,caps,pk,N,cv,K,S',S1,l1,m,p',r4,z4,h4,A4,hK,hnv,hH,hT,O⟩:=tplay_all s hs1 (S:=newS wb bk w2.heap.size sc sched) (n:=n) (sb:=b) (so:=o) (cap:=cap) (pc:=pc) (ln:=ln) (cp:=cp) (rb:=rb) (cl:=cl) hoe3 sl3 300000 A3 h3 hnew.mem rfl rfl rfl hnew.opn hG3.gf (glP_has w3) hpf hG3.row (asked_of hC2 hnew h64 hn8.1) hn8 (λcaps pk N K=>by have:=hlens caps pk N K;show 0+2*_<=1000000;omega) (by have:=hS.len;show sched.length<=_;omega) (λx hx=>hS.inr x hx) (λ_=>.done []) (λcaps pk N cv K hK S1 l1 hH=>Mw.play_ends (metT s hs1) (cells_T hs1 hK) (kok_T hK) hH rfl (by rw[scrs_len];exact hn8.2) (hlens caps pk N K) (by show (6:Nat)<=8;decide) rfl)
  have scC:(scrs (mcT s) 52 caps pk N n K pc ln cp rb cl).map (·.calls)=(List.range' 0 n).map cl:=scrs_calls _ _ _ _ _ _ _ _ _ _ _ _;obtain ⟨L,t1,t2,t3,hlen,hF,E,id,hE,hHist,hLin⟩:=stk_run hs1 (N:=n) (cl:=cl) (λ_=>rfl) (scrs_len _ _ _ _ _ _ _ _ _ _ _ _) hn8.2 (hlens caps pk N K) scC (scrs_ans _ _ _ _ _ _ _ _ _ _ _ _ (λj hj=>hC.len j hj)) rfl rfl rfl rfl hK hH hT;have hEl:E.length<=1000:=by
   have h1:=ev_len hE hF;have h2:=sumG_le (f:=λi=>(nt L i+1) / 2) (g:=λ_=>64) n (λi hi=>by have h3:=fit_nt hF i;have h4:=hl64 i hi;show (nt L i+1) / 2<=64;omega)
   have h5:=sumG_64 n;omega
  have hSn:S'.n=L.length:=by have:=congrArg TS.n hnv;exact this.trans t2
  have hStr:S'.tr=flat L:=by have:=congrArg TS.tr hnv;exact this.trans t1
  have hSw:S'.wb=wb:=by have h5:=congrArg TS.wb hnv;have h6:=(turns_wb hT).trans (hires_wb hH);exact h5.trans h6
  have hg34:∀ b,b<w2.heap.size->w4.heap[b]? = w3.heap[b]?:=λb hb=>by have hs:=hnew.old.size;exact (O.old b (by omega) (λh=>by have:=hnew.new b (.inl h);omega) (λh=>by have:=hnew.new b (.inr h);omega)).1
  have hgW:Grows W w4:=⟨by have:=g3.size;have:=O.size;omega,λb hb=>by rw[hg34 b (by have:=g2'.size;omega)];exact g3.old b hb,O.os.trans g3.os,O.out.trans g3.output⟩
  have hC3:=hC.grows hgW;subst hSw;have hans:R3.SSw 2 R3.ansL w4 (.slice (some ⟨N+1,0,none⟩) n n) (anL n λi=>(p'.l i).ans):=ss_answers h64 hn8.2 O.rows (λj hj=>⟨(O.ans j hj).1,(O.ans j hj).2.1⟩);have hscr:R3.SSw 4 R3.callL w4 (.slice (some ⟨b,o,none⟩) n cap) (scL n cl):=ss_scripts hC3 h64 hn8.2;have hX:∀ (u:World) (tv:Value),Grows w4 u->R3.SLw 5 R3.Jc u tv (L.map Gz)->Calls Tryd.prog 34 #[.slice (some ⟨b,o,none⟩) n cap,.slice (some ⟨N+1,0,none⟩) n n,tv] u λe w'=>∃ lv,e=.returned (.tuple #[lv,I 0])∧w'.ownsRow w4.heap.size 70 8 lv E.length (E.flatMap R3.evL)∧Below u.heap.size u w':=λu tv hg ht =>
   (R3.rof_any _ _ tv (scL n cl) (anL n λi=>(p'.l i).ans) (L.map Gz) u (SSw_grows hg hscr) (SSw_grows hg hans) ht (by rw[I1];omega)
     (fun i=>by
       by_cases hi:i<n
       .rw[anL_get _ hi]
        have:=(O.ans i hi).1;have:=h64 i hi;omega
       rw[Ql,List.getElem?_eq_none (by rw[anL_len];omega)];exact Nat.zero_le _)
     (by rw[List.length_map];omega)).mono (λe w' h=>by
       obtain ⟨⟨r,h1,_,h3⟩,hb⟩:=h;have hr:=ofs_is hlen hE hF (h1 (alike_of hlen));rcases h3 with ⟨h3,_⟩|⟨st,lv,h3,h4,h5⟩
       rw[hr] at h3;cases h3
       .rw[hr] at h3
        cases h3;exact ⟨lv,h4,⟨h5.1,h5.2.imp_right λ⟨g,cap,cur,y1,y2,y3⟩=>⟨g,cap,cur,y1,Qk hg.size y2,y3⟩⟩,hb⟩)
  obtain ⟨N5,gs5,a5,w5,sl5,T5,q5,r5,z5,h5,hs5,A5⟩:=Ef A4 h4 sl4 (hend8 (λ_=>False) (λg w'=>∃ a' todo,a'.defers=[]∧a'.tmps.getD 6 undef=.bool true∧Grows W w'∧g=G { (base 8).at a' todo with mode:=.returning } []) w4 _ 0 (λa hA=>law8_yes (v:=w4) (S:=S') O.mem.rep hStr hSn (by omega) hEl (hist_filter hHist _) hLin hX (Rel.refl w4) (λc hc=>hc.elim) (show Fl 84 [(7,.bool true),(10,I 0),(2,.slice (some ⟨b,o,none⟩) n cap),(8,Pt S'.wb 0),(9,.slice (some ⟨N+1,0,none⟩) n n)] a from hA.sub (by simp)) (λa' v' w' todo hr hgr hd h6=>GoesI.stop λd=>⟨a',todo,hd,h6,by
   have e:(w'.at d).heap=v'.heap:=hr.eq;have:=hgW.trans' hgr;exact ⟨by rw[e];exact this.size,λb hb=>by rw[e];exact this.old b hb,hr.os.trans this.os,hr.output.trans this.output⟩,rfl⟩)))
  exact fin _ gs5 w5 sl5 T5 q5 a5 (runNT_then r4 r5) h5 A5 hs5
 .obtain ⟨E,hE0,hE⟩:∃ E:Int,(E=1∨E=2)∧(Refused n ln E∨((∀ k,k<n->ln k<=64)∧(0<n∧n<=8)∧(n0<0∨1000<n0)∧E=1)):=by
   by_cases h64:∀ k,k<n->ln k<=64
   .by_cases hn8:0<n∧n<=8
    .refine ⟨1,.inl rfl,.inr ⟨h64,hn8,?_,rfl⟩⟩
     have:¬ (0<=n0∧n0<=1000):=λh=>hyes ⟨h64,hn8,h⟩;omega
    exact ⟨1,.inl rfl,.inl (.inr ⟨h64,by omega,rfl⟩)⟩
   .refine ⟨2,.inr rfl,.inl (.inl ⟨?_,rfl⟩)⟩
    simp only[Classical.not_forall] at h64;obtain ⟨k,hk,hk2⟩:=h64;exact ⟨k,hk,by omega⟩
  obtain ⟨N5,gs5,a5,w5,sl5,T5,q5,r5,z5,h5,hs5,A5⟩:=Ef A3 h3 sl3 (Stop:=λg w'=>∃ a' todo,a'.defers=[]∧a'.tmps.getD 6 undef=.bool true∧Grows W w'∧g=G { (base 8).at a' todo with mode:=.returning } []) (tplay_no (S:=newS wb bk w2.heap.size sc sched) (v:=w3) n0 p n cap pc ln cp (λk hk=>⟨b,o,hC9.at_ (by omega),hC9.row k hk⟩) hC.n rfl hnew.mem hE [] hoe3 (Rel.refl w3) (λc hc=>hc.elim) (λv' w' hr hn e1 e2 e3=>hend8 (λ_=>False) _ w' _ E (λa hA=>law8_no hE0 hr hn (show Fl 84 [(7,.bool true),(10,I E)] a from hA.sub (by simp)) (λa' v'' w'' todo hr' hgr hd h6=>GoesI.stop λd=>⟨a',todo,hd,h6,by
   have e:(w''.at d).heap=v''.heap:=hr'.eq;have:Grows W v':=g3.trans' (Lc e1 e2 e3);have:=this.trans' hgr;exact ⟨by rw[e];exact this.size,λb hb=>by rw[e];exact this.old b hb,hr'.os.trans this.os,hr'.output.trans this.output⟩,rfl⟩))))
  exact fin _ gs5 w5 sl5 T5 q5 a5 r5 h5 A5 hs5
end Go.Proofs.YtbbhahigofeacaaDoor.Gen
