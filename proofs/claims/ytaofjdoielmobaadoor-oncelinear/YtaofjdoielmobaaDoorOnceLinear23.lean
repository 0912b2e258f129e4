/- Of the proof of OnceLinear. Part 23 of 30. (Joined, by program, and written short, of: OnY2, SamA, GPts, OnAw1, OnAw2, OnAw3, HMath.) -/
import Derived.Test.YtaofjdoielmobaaDoorOnceLinear12
import Derived.Test.YtaofjdoielmobaaDoorOnceLinear14
import Derived.Test.YtaofjdoielmobaaDoorOnceLinear19
import Derived.Test.YtaofjdoielmobaaDoorOnceLinear22
import Derived.BigQuiet
import Derived.KernelRfl
import Derived.WalkKit
set_option linter.unusedSimpArgs false
set_option linter.unusedVariables false
set_option maxHeartbeats 4000000
set_option maxRecDepth 100000
namespace Go.Proofs.YtaofjdoielmobaaDoor.Gen
open Go Go.Lift Go.Conc Go.RowKit
def QO (m:Nat) (caps:Array Value) (pk:Nat->Option Obj) (K:List (Nat×Int)):Prop :=
 0<m∧m≤1000∧∃ xb mb sb,caps=#[Pt xb 0,Pt mb 0]∧(∀ w,Has pk w->R1.Flds w)∧pk xb=some (.cells #[.slice (some ⟨sb,0,none⟩) m m] 68 (0,0))∧pk mb=some (.cells #[I m] 3 (0,0)) ∧
   ∃ obs:List Nat,obs.length=m∧pk sb=some (objQ m obs)∧∀ o b,obs[o]? = some b->∃ kp cw cv,pk b=some (.cells #[Pt kp 0] 79 (0,0))∧pk kp=some (.cells #[Pt cw 0,Pt cv 0] 103 (0,0))∧K[2*o]? = some (cw,0)∧K[2*o+1]? = some (cv,0)
theorem mineO (m:Nat) (caps:Array Value) (pk:Nat->Option Obj) (K:List (Nat×Int)) (h:QO m caps pk K) (X:Fix (mcO m)) (hf:X.fid=25) (hc:X.caps=caps) (hp:X.pk=pk) (hk:X.kb=K.map (·.1)):(pkgO m).Mine X:=by
 obtain ⟨h0,h1,xb,mb,sb,rfl,hfl,hx,hmb,obs,hl,hrow,hobs⟩:=h
 subst hp
 refine ⟨xb,mb,sb,hc,h0,h1,fun v hv=>⟨hfl v hv,cell_of (hv _ _ hx) rfl,cell_of (hv _ _ hmb) rfl⟩,fun o ho=>?_⟩
 obtain ⟨b,hb⟩:∃ b,obs[o]? = some b:=⟨_,List.getElem?_eq_getElem (by omega)⟩
 obtain ⟨kp,cw,cv,q1,q2,q3,q4⟩:=hobs o b hb
 refine ⟨b,kp,cw,cv,by rw[hk,List.getElem?_map,q3];rfl,by rw[hk,List.getElem?_map,q4];rfl,fun v hv=>⟨cell_of (hv _ _ hrow) ?_,cell_of (hv _ _ q1) rfl,cell_of (hv _ _ q2) rfl,cell_of (hv _ _ q2) rfl⟩⟩
 unfold rowQ
 simp[ho,hb]
theorem kokO (m:Nat) (caps:Array Value) (pk:Nat->Option Obj) (K:List (Nat×Int)) (h:QO m caps pk K):KOk (mcO m) K:=fun j p _=>trivial
theorem oplay_no {Ch:Nat->Prop}{Stop:Goroutine->World->Prop}{main:Bool}{S:TS}{v w:World}(m:Int) (p:Option Addr) (n cap:Nat) (pc:Nat->Option Addr) (ln cp:Nat->Nat) (hs:∀ k,k<n->∃ sb so,p=some ⟨sb,so,none⟩∧v.cell? ⟨sb,so+k,none⟩=some (.slice (pc k) (ln k) (cp k))) (hn1:n≤17592186043904) (hran:S.ran=false) (hm:Mem zn S [] v)
 {E:Int} (hRe:Refused n ln E∨((∀ k,k<n->ln k≤64)∧(0<n∧n≤8)∧(m<1∨1000<m)∧E=1)) (cs:List Frame) {bc:Frame} {ac:Act} {ops:Array Oper} {q:Nat} {rest:List Nat} {oc:Oper} {k:List Item} (hoc:ops[q]? = some oc)
 (hvw:Rel zn v w) (hn:Ah Ch v)
 (hk:∀ v' w',Rel zn v' w'->Ah Ch v'->Grows v v'->GoesI Tryd.prog main (DT (ScZ zn) Ch) Stop (G (bc.at (ac.put oc.dst (.tuple #[.slice none 0 0,I E])) (.inRegion ops rest :: k)) cs) w') :
 GoesI Tryd.prog main (DT (ScZ zn) Ch) Stop (G ((base 9).at { tmps:=#[Pt S.wb 0,I m,.slice p n cap]++Array.replicate 37 undef,defers:=[] } [.code yB]) (bc.at ac (.inRegion ops (q :: rest) :: k) :: cs)) w:=by
 have hA0:Fl 40 [(0,Pt S.wb 0),(1,I m),(2,.slice p n cap)] { tmps:=#[Pt S.wb 0,I m,.slice p n cap]++Array.replicate 37 undef,defers:=[] }:=by
  simp only[Array.replicate_succ,Array.replicate_zero,List.push_toArray,List.append_toArray,List.nil_append,List.cons_append]
  exact ⟨rfl,rfl,by
   intro p hp
   simp only[List.mem_cons,List.not_mem_nil,or_false] at hp
   rcases hp with rfl|rfl|rfl<;>rfl⟩
 rw[eYB]
 refine Ac (Aa _ _) ?_
 refine Am (z:=zn) (wr:=true) (L:=LV) (I:=Ah Ch) hE Gy Al (fun v v' w w' es hi hr ho he=>Az v v' w w' es hi hr ho he) hvw fine_y0 hA0.2.1 (by simp[base]) hn (Q:=fun a w'=>Fl 40 [(0,Pt S.wb 0),(2,.slice p n cap),(4,Pt v.heap.size 0),(6,.slice none 0 0),(7,I 0)] a∧w'.heap=v.heap.push (.cells #[I m] 3)∧w'.os=v.os∧w'.output=v.output) (fun τ=>y0_wp (v:=Ap v τ 0) hA0) ?_
 rintro a0 v0 w0 ⟨hB0,e0,o0,u0⟩ hr0 hn0 -
 have g0:Grows v v0:=⟨by rw[e0];simp,fun b hb=>by rw[e0,Array.getElem?_push,if_neg (by omega)],o0,u0⟩
 have m0:Mem zn S [] v0:=(hm.grows g0).mem
 have hmb:v0.cell? ⟨v.heap.size,0,none⟩=some (I m):=by
  have:v0.heap[v.heap.size]? = some (.cells #[I m] 3):=by rw[e0];exact Array.getElem?_push_size
  exact cell_of this rfl
 have hs0:∀ τ,∀ k,k<n->∃ sb so,p=some ⟨sb,so,none⟩∧(Ap v0 τ 0).cell? ⟨sb,so+k,none⟩=some (.slice (pc k) (ln k) (cp k)):=fun τ k hk=>by
  obtain ⟨sb,so,h1,h2⟩:=hs k hk
  exact ⟨sb,so,h1,g0.cell h2⟩
 refine Ac (Aa _ _) ?_
 rcases hRe with hRe|⟨hE1,hE2,hE3,rfl⟩
 ·refine Fy (c:=y1) (f:=9) (fn:=Tryd.f9) (L:=LV) hE Gy hr0 hn0 Tryd.func9 fine_y1 hB0.2.1 hoc (R:=fun r w'=>r=.tuple #[.slice none 0 0,I E]∧w'.heap=v0.heap∧w'.os=v0.os∧w'.output=v0.output) (fun τ=>y1_no (v:=Ap v0 τ 0) (m0.grows (v':=Ap v0 τ 0) ⟨Nat.le_refl _,fun _ _=>rfl,rfl,rfl⟩).mem.rep pc ln cp (hs0 τ) hn1 hran hRe hB0) (fun r v' w' hR hr' hn'=>?_)
  obtain ⟨rfl,h1,h2,h3⟩:=hR
  exact hk v' w' hr' hn' (D9 g0 ⟨by rw[h1];exact Nat.le_refl _,fun b _=>by rw[h1],h2,h3⟩)
 ·refine Am (z:=zn) (wr:=true) (L:=LV) (I:=Ah Ch) hE Gy Al (fun v v' w w' es hi hr ho he=>Az v v' w w' es hi hr ho he) hr0 fine_y1 hB0.2.1 (by simp[base]) hn0 (Q:=fun a w'=>Fl 40 [(0,Pt S.wb 0),(2,.slice p n cap),(4,Pt v.heap.size 0),(6,.slice none 0 0),(7,I 0)] a∧w'.heap=v0.heap∧w'.os=v0.os∧w'.output=v0.output) (fun τ=>y1_yes (v:=Ap v0 τ 0) (m0.grows (v':=Ap v0 τ 0) ⟨Nat.le_refl _,fun _ _=>rfl,rfl,rfl⟩).mem.rep pc ln cp (hs0 τ) hE1 hE2 hran hB0) ?_
  rintro a1 v1 w1 ⟨hB1,e1,o1,u1⟩ hr1 hn1 -
  have g1:Grows v0 v1:=⟨by rw[e1];exact Nat.le_refl _,fun b _=>by rw[e1],o1,u1⟩
  refine Ac (Aa _ _) ?_
  refine Fy (c:=y2) (f:=9) (fn:=Tryd.f9) (L:=LV) hE Gy hr1 hn1 Tryd.func9 fine_y2 hB1.2.1 hoc (R:=fun r w'=>r=.tuple #[.slice none 0 0,I 1]∧w'.heap=v1.heap∧w'.os=v1.os∧w'.output=v1.output) (fun τ=>hE3.elim (fun h=>y2_no1 (v:=Ap v1 τ 0) h (g1.cell hmb) hB1) (fun h=>y2_no2 (v:=Ap v1 τ 0) h (g1.cell hmb) hB1)) (fun r v' w' hR hr' hn'=>?_)
  obtain ⟨rfl,h1,h2,h3⟩:=hR
  exact hk v' w' hr' hn' (D9 (D9 g0 g1) ⟨by rw[h1];exact Nat.le_refl _,fun b _=>by rw[h1],h2,h3⟩)
theorem oplay_in {Ch:Nat->Prop}{Stop:Goroutine->World->Prop}{main:Bool}{S:TS}{v w:World}(m:Nat) (h0:0<m) (h1:m≤1000) {pk0:Nat->Option Obj}(hfl:∀ w,Has pk0 w->R1.Flds w) (hO:Objs v S [] pk0 S [] v) (hlt:∀ b,pk0 b≠none->b<v.heap.size) (p:Option Addr) (n cap:Nat) (hn8:0<n∧n≤8) (hran:S.ran=false) (pc:Nat->Option Addr) (ln cp:Nat->Nat) (hs:∀ k,k<n->∃ sb so,p=some ⟨sb,so,none⟩∧v.cell? ⟨sb,so+k,none⟩=some (.slice (pc k) (ln k) (cp k))) (hln:∀ k,k<n->ln k≤64)
 (cs:List Frame) {bc:Frame} {ac:Act} {ops:Array Oper} {q:Nat} {rest:List Nat} {oc:Oper} {k:List Item} (hoc:ops[q]? = some oc) (hvw:Rel zn v w) (hn:Ah Ch v)
 (hk:∀ v' w' (bd:Frame) (ad:Act) (od:Array Oper) (qd:Nat) (rd:List Nat) (oe:Oper) (kd:List Item) (caps:Array Value) (pk:Nat->Option Obj) (S1:TS) (K:List (Nat×Int)),Rel zn v' w'->Ah Ch v'->Objs v S (List.replicate (2*m) 0) pk S1 K v'->QO m caps pk K->od[qd]? = some oe ->
   (∀ (Ch:Nat->Prop) (Stop:Goroutine->World->Prop) (w:World) (x:Value),(∀ d,GoesI Tryd.prog main (DT (ScZ zn) Ch) Stop (G (bc.at (ac.put oc.dst (.tuple #[x,I 0])) (.inRegion ops rest :: k)) cs) (w.at d))->GoesI Tryd.prog main (DT (ScZ zn) Ch) Stop (G (bd.at (ad.put oe.dst x) (.inRegion od rd :: kd)) (bc.at ac (.inRegion ops (q :: rest) :: k) :: cs)) w) ->
   GoesI Tryd.prog main (DT (ScZ zn) Ch) Stop (G ((base 24).at { tmps:=#[Pt S.wb 0,.slice p n cap,.func (.func 25) ((mcO m).bn caps) ((mcO m).fr caps)]++Array.replicate 36 undef,defers:=[] } [.code B20]) (bd.at ad (.inRegion od (qd :: rd) :: kd) :: bc.at ac (.inRegion ops (q :: rest) :: k) :: cs)) w') :
 GoesI Tryd.prog main (DT (ScZ zn) Ch) Stop (G ((base 9).at { tmps:=#[Pt S.wb 0,I m,.slice p n cap]++Array.replicate 37 undef,defers:=[] } [.code yB]) (bc.at ac (.inRegion ops (q :: rest) :: k) :: cs)) w:=by
 have hm:=hO.cel.mem
 have hA0:Fl 40 [(0,Pt S.wb 0),(1,I m),(2,.slice p n cap)] { tmps:=#[Pt S.wb 0,I m,.slice p n cap]++Array.replicate 37 undef,defers:=[] }:=by
  simp only[Array.replicate_succ,Array.replicate_zero,List.push_toArray,List.append_toArray,List.nil_append,List.cons_append]
  exact ⟨rfl,rfl,by
   intro p hp
   simp only[List.mem_cons,List.not_mem_nil,or_false] at hp
   rcases hp with rfl|rfl|rfl<;>rfl⟩
 rw[eYB]
 refine Ac (Aa _ _) ?_
 refine Am (z:=zn) (wr:=true) (L:=LV) (I:=Ah Ch) hE Gy Al (fun v v' w w' es hi hr ho he=>Az v v' w w' es hi hr ho he) hvw fine_y0 hA0.2.1 (by simp[base]) hn (Q:=fun a w'=>Fl 40 [(0,Pt S.wb 0),(2,.slice p n cap),(4,Pt v.heap.size 0),(6,.slice none 0 0),(7,I 0)] a∧w'.heap=v.heap.push (.cells #[I m] 3)∧w'.os=v.os∧w'.output=v.output) (fun τ=>y0_wp (v:=Ap v τ 0) hA0) ?_
 rintro a0 v0 w0 ⟨hB0,e0,o0,u0⟩ hr0 hn0 -
 have g0:Grows v v0:=⟨by rw[e0];simp,fun b hb=>by rw[e0,Array.getElem?_push,if_neg (by omega)],o0,u0⟩
 have m0:Mem zn S [] v0:=(hm.grows g0).mem
 have hmb:v0.cell? ⟨v.heap.size,0,none⟩=some (I m):=by
  have:v0.heap[v.heap.size]? = some (.cells #[I m] 3):=by rw[e0];exact Array.getElem?_push_size
  exact cell_of this rfl
 have hs0:∀ τ,∀ k,k<n->∃ sb so,p=some ⟨sb,so,none⟩∧(Ap v0 τ 0).cell? ⟨sb,so+k,none⟩=some (.slice (pc k) (ln k) (cp k)):=fun τ k hk=>by
  obtain ⟨sb,so,h1,h2⟩:=hs k hk
  exact ⟨sb,so,h1,g0.cell h2⟩
 refine Ac (Aa _ _) ?_
 refine Am (z:=zn) (wr:=true) (L:=LV) (I:=Ah Ch) hE Gy Al (fun v v' w w' es hi hr ho he=>Az v v' w w' es hi hr ho he) hr0 fine_y1 hB0.2.1 (by simp[base]) hn0 (Q:=fun a w'=>Fl 40 [(0,Pt S.wb 0),(2,.slice p n cap),(4,Pt v.heap.size 0),(6,.slice none 0 0),(7,I 0)] a∧w'.heap=v0.heap∧w'.os=v0.os∧w'.output=v0.output) (fun τ=>y1_yes (v:=Ap v0 τ 0) (m0.grows (v':=Ap v0 τ 0) ⟨Nat.le_refl _,fun _ _=>rfl,rfl,rfl⟩).mem.rep pc ln cp (hs0 τ) hln hn8 hran hB0) ?_
 rintro a1 v1 w1 ⟨hB1,e1,o1,u1⟩ hr1 hn1 -
 have g1:Grows v0 v1:=⟨by rw[e1];exact Nat.le_refl _,fun b _=>by rw[e1],o1,u1⟩
 refine Ac (Aa _ _) ?_
 refine Am (z:=zn) (wr:=true) (L:=LV) (I:=Ah Ch) hE Gy Al (fun v v' w w' es hi hr ho he=>Az v v' w w' es hi hr ho he) hr1 fine_y2 hB1.2.1 (by simp[base]) hn1 (Q:=fun a w'=>Fl 40 [(0,Pt S.wb 0),(2,.slice p n cap),(4,Pt v.heap.size 0),(6,.slice none 0 0),(7,I 0)] a∧w'.heap=v1.heap∧w'.os=v1.os∧w'.output=v1.output) (fun τ=>y2_yes (v:=Ap v1 τ 0) (by omega) (by omega) (g1.cell hmb) hB1) ?_
 rintro a2 v2 w2 ⟨hB2,e2,o2,u2⟩ hr2 hn2 -
 have g2:Grows v1 v2:=⟨by rw[e2];exact Nat.le_refl _,fun b _=>by rw[e2],o2,u2⟩
 refine Ac (Aa _ _) ?_
 refine Am (z:=zn) (wr:=true) (L:=LV) (I:=Ah Ch) hE Gy Al (fun v v' w w' es hi hr ho he=>Az v v' w w' es hi hr ho he) hr2 fine_y3 hB2.2.1 (by simp[base]) hn2 (Q:=fun a w'=>Fl 40 [(0,Pt S.wb 0),(2,.slice p n cap),(4,Pt v.heap.size 0),(6,.slice none 0 0),(7,I 0),(9,Pt (v2.heap.size+1) 0)] a∧w'.heap=((v2.alloc (objQ m [])).alloc (.cells #[.slice (some ⟨v2.heap.size,0,none⟩) m m] 68)).heap∧w'.os=v2.os∧w'.output=v2.output) (fun τ=>y3_wp (v:=Ap v2 τ 0) h1 (g2.cell (g1.cell hmb)) hB2) ?_
 rintro a3 v3 w3 ⟨hB3,e3,o3,u3⟩ hr3 hn3 -
 have O0:=hO.push (u':=v0) (c:=#[I m]) (t:=3) e0 o0 u0
 have O2:=(O0.same e1 o1 u1).same e2 o2 u2
 have O3a:=O2.push (u':=v2.alloc (objQ m [])) (c:=(rowQ m []).toArray) (t:=46) rfl rfl rfl
 have O3:=(O3a.push (u':=(v2.alloc (objQ m [])).alloc (.cells #[.slice (some ⟨v2.heap.size,0,none⟩) m m] 68)) (c:=#[.slice (some ⟨v2.heap.size,0,none⟩) m m]) (t:=68) rfl rfl rfl).same (u':=v3) e3 o3 u3
 have hsz:(v2.alloc (objQ m [])).heap.size=v2.heap.size+1:=by simp
 rw[hsz] at O3
 have hs2:v2.heap.size=v.heap.size+1:=by rw[e2,e1,e0];simp
 have hI:OI v S m 0 v2.heap.size (v2.heap.size+1) v.heap.size (padd (padd (padd pk0 v.heap.size (.cells #[I m] 3)) v2.heap.size (.cells (rowQ m []).toArray 46)) (v2.heap.size+1) (.cells #[.slice (some ⟨v2.heap.size,0,none⟩) m m] 68)) S [] v3 :=
  ⟨O3,rfl,fun w hw=>hfl w (fun b o hb=>hw b o (hlt b (by rw[hb];simp)) (by have:=hlt b (by rw[hb];simp);rw[Cp (by omega),Cp (by omega),Cp (by omega)];exact hb)),D6 _ _ _,by rw[Cp (by omega),Cp (by omega)];exact D6 _ _ _,by omega,[],rfl,by rw[Cp (by omega)];exact D6 _ _ _,fun o b hb=>by simp at hb⟩
 refine Ac (Aa _ _) ?_
 refine Am (z:=zn) (wr:=true) (L:=LV) (I:=Ah Ch) hE Gy Al (fun v v' w w' es hi hr ho he=>Az v v' w w' es hi hr ho he) hr3 fine_y4 hB3.2.1 (by simp[base]) hn3 (Q:=fun a w'=>Fl 40 [(0,Pt S.wb 0),(2,.slice p n cap),(4,Pt v.heap.size 0),(6,.slice none 0 0),(7,I 0),(9,Pt (v2.heap.size+1) 0)] a∧∃ pk S1 K,OI v S m m v2.heap.size (v2.heap.size+1) v.heap.size pk S1 K w') (fun τ=>y4_wp h1 (hI.same (u':=Ap v3 τ 0) rfl rfl rfl) hB3) ?_
 rintro a4 v4 w4 ⟨hB4,pk,S1,K,hI4⟩ hr4 hn4 -
 have hset:=hI4.objs
 have hql:QO m #[Pt (v2.heap.size+1) 0,Pt v.heap.size 0] pk K:=⟨h0,h1,_,_,_,rfl,fun w hw=>hI4.fl w (fun b o _ hb=>hw b o hb),hI4.var,hI4.many,hI4.row⟩
 clear hI4 hI O3 O3a O2 O0 hr0 hr1 hr2 hr3 hn0 hn1 hn2 hn3 e0 e1 e2 e3 o0 o1 o2 o3 u0 u1 u2 u3 hvw hn hs hs0 hln m0 hO hlt hB0 hB1 hB2 hB3 hmb hm
 generalize v2.heap.size+1=xb at hB4 hql
 generalize v.heap.size=mb at hB4 hql
 have hA:=hB4
 clear hB4
 obtain ⟨hsz,hd,hpp⟩:=hA
 obtain ⟨u,rfl,hg⟩:=litN hsz hd
 have u0:=(hg 0).symm.trans (hpp (0,Pt S.wb 0) (by simp))
 have u2:=(hg 2).symm.trans (hpp (2,.slice p n cap) (by simp))
 have u4:=(hg 4).symm.trans (hpp (4,Pt mb 0) (by simp))
 have u6:=(hg 6).symm.trans (hpp (6,.slice none 0 0) (by simp))
 have u7:=(hg 7).symm.trans (hpp (7,I 0) (by simp))
 have u9:=(hg 9).symm.trans (hpp (9,Pt xb 0) (by simp))
 clear hg hpp hsz hd
 unfold yR yB Tryd.f9 seq2
 simp only[Option.getD_some,lits,Nat.reduceAdd,u0,u2,u4,u6,u7,u9]
 clear u0 u2 u4 u6 u7 u9
 refine Ac (Aa _ _) ?_
 refine Ae (Aa _ _) ?_
 simp only[List.size_toArray,List.length_cons,List.length_nil,Nat.reduceAdd,Nat.zero_add,List.range,List.range.loop]
 iterate 3
  (refine Af rfl rfl (by decide) (fun d K hK=>?_)
   go_simp
   refine hK _ _ ⟨Ak (fun e he=>?_),GoesI.at ?_ d⟩
   ·have hm:=mem_listed he
    simp[go_sem, *] at hm
    try exact ⟨_,_,hm⟩
    try (rcases hm with rfl|rfl<;>exact ⟨_,_,rfl⟩)
   clear hK K)
 refine Bj (f:=24) (fn:=Tryd.f24) (args:=#[Pt S.wb 0,.slice p n cap,.func (.func 25) #[] #[Pt xb 0,Pt mb 0]]) (Aa _ _) rfl rfl (by decide) rfl (by simp[Act.eval]) Tryd.func24 (by decide) rfl ?_
 refine hk v4 w4 _ _ _ _ _ _ _ _ _ _ _ hr4 hn4 hset hql rfl (fun Ch Stop w x hg=>?_)
 clear hk hset hr4 hn4 hql
 iterate 2
  (refine Af rfl rfl (by decide) (fun d K hK=>?_)
   go_simp
   refine hK _ _ ⟨Ak (fun e he=>?_),GoesI.at ?_ d⟩
   ·have hm:=mem_listed he
    simp[go_sem, *] at hm
    try exact ⟨_,_,hm⟩
    try (rcases hm with rfl|rfl<;>exact ⟨_,_,rfl⟩)
   clear hK K)
 refine Ab (Aa _ _) ?_
 refine GoesI.ctl rfl (fun _=>stepG_ret') (Aa _ _) ?_
 refine Ca (b:=base 9) (fn:=Tryd.f9) (v:=.tuple #[x,I 0]) rfl rfl Tryd.func9 (fun w=>?_) (fun w=>by simp[results,go_sem,Tryd.f9]) hoc (Aa _ _) ?_
 ·rw[results_tmp2 (t:=6) (u:=7) rfl]
  simp
 ·have:=hg w.drawn
  exact this
section
variable {S:TS}{n sb so cap:Nat}{pc:Nat->Option Addr}{ln cp rb:Nat->Nat}{cl:Nat->List Cl}
theorem oplay_all (m:Nat) (h0:0<m) (h1:m≤1000) {pk0:Nat->Option Obj}(hfl:∀ w,Has pk0 w->R1.Flds w) {cs:List Frame}{bc:Frame}{ac:Act}{ops:Array Oper}{q0:Nat}{rest:List Nat}{oc:Oper}{k0:List Item}(hoc:ops[q0]? = some oc) {w:World}{T:Trace}{gs:Array Goroutine}{q:Nat->Nat}(sl:Option (Nat×Nat)) (NT:Nat) (A:Alone gs w T q)
 (hg:gs[0]? = some (G ((base 9).at { tmps:=#[Pt S.wb 0,I m,.slice (some ⟨sb,so,none⟩) n cap]++Array.replicate 37 undef,defers:=[] } [.code yB]) (bc.at ac (.inRegion ops (q0 :: rest) :: k0) :: cs)))
 (hm:Mem zn S [] w) (hthr:S.thr=[]) (hran:S.ran=false) (hch:S.chg=[]) (hbk:Open w S.bk) (hpk:Has pk0 w) (hpf:∀ b,pk0 b≠none->¬ Own S [] b∧b≠S.bk) (hpr:∀ b o,pk0 b=some o->∃ c e f,o=.cells c e f) (t:Asked w S n sb so pc ln cp rb cl) (hn8:0<n∧n≤8)
 (hlen:∀ caps pk N K,S.n+2*lens (scrs (mcO m) 25 caps pk N n K pc ln cp rb cl)≤1000000) (hsl:S.sched.length≤4611686018427387904) (hsc:∀ x∈S.sched,-9223372036854775808≤x∧x<9223372036854775808) (l0:Nat->Ph)
 (hturn:∀ (caps:Array Value) (pk:Nat->Option Obj) (N:Nat) (cv:Value) (K:List (Nat×Int)),K.map (·.2)=List.replicate (2*m) 0->∀ S1 l1,Hires (mcO m) 0 (scrs (mcO m) 25 caps pk N n K pc ln cp rb cl) (nv { Gp S cv (List.replicate (2*m) (0:Int)).length with ran:=true }) l0 S1 l1->∃ mm p',mm≤NT∧Turns (mcO m) mm ⟨S1,K,l1⟩ p'∧p'.S.n*40≤140737488355328) :
 ∃ (N':Nat) (gs':Array Goroutine) (w':World) (sl':Option (Nat×Nat)) (T':Trace) (q':Nat->Nat) (caps:Array Value) (pk:Nat->Option Obj) (N:Nat) (cv:Value) (K:List (Nat×Int)) (S':TS) (S1:TS) (l1:Nat->Ph) (mm:Nat) (p':PSt),
   runNT Tryd.prog N' (crowd gs w sl) T=(.next (crowd gs' w' sl'),T')∧gs'.size=gs.size+n∧gs'[0]? = some (G (bc.at (ac.put oc.dst (.tuple #[.slice (some ⟨N+1,0,none⟩) n n,I 0])) (.inRegion ops rest :: k0)) cs) ∧
   Alone gs' w' T' q'∧K.map (·.2)=List.replicate (2*m) 0∧nv S'=p'.S∧Hires (mcO m) 0 (scrs (mcO m) 25 caps pk N n K pc ln cp rb cl) (nv { Gp S cv (List.replicate (2*m) (0:Int)).length with ran:=true }) l0 S1 l1∧Turns (mcO m) mm ⟨S1,K,l1⟩ p'∧GOut w S n ln N S' p'.K p'.l w':=by
 refine gplay_all (xs:=List.replicate (2*m) 0) (cap:=cap) (q0:=q0) (pkgO m) (mineO m) (kokO m) sl NT A hg ?_ hm hthr hran hbk t hn8 hlen hsl hsc l0 hturn
 exact oplay_in m h0 h1 hfl (Objs.startG (pk:=pk0) hm hch hpk hpf hpr) (fun b hb=>by obtain ⟨o,ho⟩:=Option.ne_none_iff_exists'.1 hb;exact (Array.getElem?_eq_some_iff.1 (hpk b o ho)).1) (some ⟨sb,so,none⟩) n cap hn8 hran pc ln cp (fun k hk=>⟨sb,so,rfl,t.row k hk⟩) (fun k hk=>(t.len k hk).2) cs hoc (Rel.refl w) (fun c hc=>hc.elim)
  (fun v' w' bd ad od qd rd oe kd caps pk S1 K hr hn ho hq hoe hback=>GoesI.stop fun d=>⟨bd,ad,od,qd,rd,oe,kd,caps,pk,S1,K,ho.same hr.eq hr.os hr.output,hq,hoe,hback,rfl⟩)
end
structure Rws (M:Nat) (n:Nat) (A cp ln:Nat->Nat) (e x:Nat->Nat->Int) (v:World):Prop where
 row:∀ k,k<n->v.cell? ⟨M,k,none⟩=some (.slice (some ⟨A k,0,none⟩) (ln k) (cp k))
 ans:∀ k,k<n->∀ j,j<ln k->v.cell? ⟨A k,j*2,none⟩=some (I (e k j))∧v.cell? ⟨A k,j*2+1,none⟩=some (I (x k j))
theorem Rws.same {M n:Nat}{A cp ln:Nat->Nat}{e x:Nat->Nat->Int}{v v':World}(h:Rws M n A cp ln e x v) (hh:v'.heap=v.heap):Rws M n A cp ln e x v':=by
 have hc:∀ a,v'.cell? a=v.cell? a:=fun a=>World.cell?_of_block (w:=v) (w':=v') (by rw[hh])
 exact ⟨fun k hk=>by rw[hc];exact h.row k hk,fun k hk j hj=>by rw[hc,hc];exact h.ans k hk j hj⟩
def Sam (v u:World):Prop:=u.heap=v.heap∧u.os=v.os∧u.output=v.output
theorem body22 {v:World}(M M' n c1 c2:Nat) {A B ca cb ln:Nat->Nat}{e x:Nat->Nat->Int}(h1:Rws M n A ca ln e x v) (h2:Rws M' n B cb ln e x v) (hn:n≤1000000) (hln:∀ k,k<n->ln k≤1000000) :
 Body Tryd.f22 #[.slice (some ⟨M,0,none⟩) n c1,.slice (some ⟨M',0,none⟩) n c2] v (fun r v'=>r=.bool true∧v'.heap=v.heap∧v'.os=v.os∧v'.output=v.output):=by
 intro code hb
 obtain rfl:=Option.some.inj hb
 clear hb
 have H1:Hid (∀ u,Sam v u->Rws M n A ca ln e x u∧Rws M' n B cb ln e x u):=⟨fun u hu=>⟨h1.same hu.1,h2.same hu.1⟩⟩
 have HL:Hid (∀ k,k<n->ln k≤1000000):=⟨hln⟩
 clear h1 h2 hln
 simp only[Tryd.ntmps22,List.size_toArray,List.length_cons,List.length_nil,Nat.reduceAdd,Nat.reduceSub,Array.replicate_succ,Array.replicate_zero,List.push_toArray,List.append_toArray,List.nil_append,List.cons_append]
 go_wp2_with fail
 go_loopw [5] (fun i u=>∃ k:Nat,k≤n∧i=.int .i64 k∧Hid (Sam v u)) (fun i _=>n - (intOf i).toNat)
 case atStart=>exact ⟨0,Nat.zero_le _,rfl,⟨rfl,rfl,rfl⟩⟩
 case round =>
  obtain ⟨k,hk,rfl,hs⟩:=hrel
  by_cases hlt:k<n
  ·obtain ⟨r1,r2⟩:=H1.out wr hs.out
   have a1:=r1.row k hlt
   have a2:=r2.row k hlt
   have hl:=HL.out k hlt
   clear r1 r2
   have hlt':(k:Int)<(n:Int):=by omega
   have hnl:¬ n≤k:=by omega
   obtain ⟨wo,hwo⟩:∃ wo,wo=wr:=⟨wr,rfl⟩
   rw[←hwo] at hs a1 a2 ⊢
   clear hwo
   go_wp2_with fail
   go_quiet (fail)
   go_wp2_with fail
   go_loopw [6] (fun i u=>∃ j:Nat,j≤ln k∧i=.int .i64 j∧Hid (Sam v u)) (fun i _=>ln k - (intOf i).toNat)
   case atStart=>exact ⟨0,Nat.zero_le _,rfl,hs.out.1,hs.out.2.1,hs.out.2.2⟩
   case round =>
    obtain ⟨j,hj,rfl,hs2⟩:=hrel
    obtain ⟨r1,r2⟩:=H1.out wr hs2.out
    have b1:=r1.row k hlt
    have b2:=r2.row k hlt
    by_cases hjl:j<ln k
    ·have c1':=r1.ans k hlt j hjl
     have c2':=r2.ans k hlt j hjl
     obtain ⟨x1,x2⟩:=c1'
     obtain ⟨y1,y2⟩:=c2'
     clear r1 r2 a1 a2
     have hjl':(j:Int)<(ln k:Int):=by omega
     have hnj:¬ ln k≤j:=by omega
     go_wp2_with fail
     go_quiet (fail)
     go_wp2_with fail
     go_roundw
     case rel=>exact ⟨j+1,by omega,by go_num,hs2.out.1,hs2.out.2.1,hs2.out.2.2⟩
     case measure=>simp[intOf];omega
    ·have hjj:j=ln k:=by omega
     subst hjj
     clear r1 r2 a1 a2
     go_wp2_with fail
     go_roundw
     case rel=>exact ⟨k+1,by omega,by go_num,hs2.out.1,hs2.out.2.1,hs2.out.2.2⟩
     case measure=>simp[intOf];omega
  ·have hkk:k=n:=by omega
   subst hkk
   go_wp2_with fail
   go_ret
   exact ⟨_,rfl,rfl,hs.out.1,hs.out.2.1,hs.out.2.2⟩
variable {mc:Mc}
theorem turns_det:∀ {m m':Nat}{p p1 p2:PSt},Turns mc m p p1->Turns mc m' p p2->p1=p2
 |_,_,_,_,_,.stop h,.stop h'=>rfl
 |_,_,_,_,_,.stop h,.step h' _=>by rw[h] at h';cases h'
 |_,_,_,_,_,.step h _,.stop h'=>by rw[h] at h';cases h'
 |_,_,_,_,_,.step h t,.step h' t'=>by
  rw[h] at h'
  cases h'
  exact turns_det t t'
def pt (mc:Mc) (p:PSt):PSt:=(D5 mc p).getD p
def pts (mc:Mc):Nat->PSt->PSt
 |0,p=>p
 |n+1,p=>pts mc n (pt mc p)
def runs (mc:Mc):Nat->PSt->Bool
 |0,p=>(D5 mc p).isNone
 |n+1,p=>(D5 mc p).isSome&&runs mc n (pt mc p)
theorem turns_of:∀ (n:Nat) (p:PSt),runs mc n p=true->Turns mc n p (pts mc n p)
 |0,p,h=>by
  refine .stop ?_
  cases hp:D5 mc p with
  |none=>rfl
  |some x=>unfold runs at h;rw[hp] at h;cases h
 |n+1,p,h=>by
  unfold runs at h
  rw[Bool.and_eq_true] at h
  refine .step ?_ (turns_of n (pt mc p) h.2)
  unfold pt
  cases hp:D5 mc p with
  |none=>rw[hp] at h;cases h.1
  |some x=>rfl
end Go.Proofs.YtaofjdoielmobaaDoor.Gen
namespace Go.Proofs.YtaofjdoielmobaaDoor.Gen
open Go Go.Lift Go.Conc Go.RowKit
open Go.ConcN (upd upd_same upd_ne)
def clW (j:Nat):List Cl:=[⟨2,0,7,0⟩,⟨1,0,8,0⟩]
def lnW (j:Nat):Nat:=2
def an0 (j:Nat):List (Int×Int):=List.replicate (lnW j) (0,0)
def awST (wb bk base:Nat) (sc cv:Value) (k:Nat):TS:=nv { Gp (newS wb bk base sc []) cv k with ran:=true }
def awF (wb bk base:Nat) (sc cv:Value) (tv0:Value) (tb0 gc0:Nat):TS×Ph:=flow 0 (mcO 1) (clW 0) 0 false (an0 0) (Ax (awST wb bk base sc cv 2) tv0 tb0 gc0)
def awPT (wb bk base:Nat) (sc cv:Value) (tv0:Value) (tb0 gc0:Nat) (cb0 cb1:Nat) (l0:Nat->Ph):PSt :=
 ⟨(awF wb bk base sc cv tv0 tb0 gc0).1,[(cb0,0),(cb1,0)],upd l0 0 (awF wb bk base sc cv tv0 tb0 gc0).2⟩
section
variable (wb bk base:Nat) (sc cv:Value) (tv0:Value) (tb0 gc0:Nat) (cb0 cb1:Nat) (l0:Nat->Ph)
set_option maxRecDepth 100000
theorem awt_runs:runs (mcO 1) 6 (awPT wb bk base sc cv tv0 tb0 gc0 cb0 cb1 l0)=true:=by kernel_rfl
theorem awt_n:(pts (mcO 1) 6 (awPT wb bk base sc cv tv0 tb0 gc0 cb0 cb1 l0)).S.n=10:=by kernel_rfl
theorem awt_ans:((pts (mcO 1) 6 (awPT wb bk base sc cv tv0 tb0 gc0 cb0 cb1 l0)).l 0).ans=[(70,7),(70,7)]:=by kernel_rfl
end
end Go.Proofs.YtaofjdoielmobaaDoor.Gen
namespace Go.Proofs.YtaofjdoielmobaaDoor.Gen
open Go Go.Lift Go.Conc Go.RowKit
noncomputable def B7:Code:=Tryd.f7.body.getD .skip
noncomputable def b70:Code:=seq1 B7
noncomputable def b71:Code:=seq1 (seq2 B7)
noncomputable def r72:Code:=seq1 (seq2 (seq2 B7))
noncomputable def T7:Code:=seq2 (seq2 (seq2 B7))
theorem eB7:B7=.seq b70 (.seq b71 (.seq r72 T7)):=by kernel_rfl
theorem fine70:As Tryd.prog true LV b70:=Br Bw extT (by kernel_rfl)
theorem fine71:As Tryd.prog true LV b71:=Br Bw extT (by kernel_rfl)
theorem fineT7:As Tryd.prog true LV T7:=Br Bw extT (by kernel_rfl)
theorem b70_wp {v:World} :
 b70.wp Tryd.prog (fun e a w'=>e=.normal∧a={ tmps:=#[.bool false]++Array.replicate 25 undef,defers:=[] }∧w'.heap=v.heap∧w'.os=v.os∧w'.output=v.output)
  { tmps:=Array.replicate 26 undef,defers:=[] } v:=by
 show Code.wp Tryd.prog (seq1 (Tryd.f7.body.getD .skip)) _ _ _
 unfold Tryd.f7 seq1
 simp only[Option.getD_some,Array.replicate_succ,Array.replicate_zero,List.push_toArray,List.append_toArray,List.nil_append,List.cons_append]
 go_wp2_with fail
 try exact ⟨rfl,rfl,rfl⟩
theorem b71_wp {v:World} :
 b71.wp Tryd.prog (fun e a w'=>e=.normal∧∃ wb bk sc,a={ tmps:=#[.bool false,Pt wb 0,undef,undef,undef,Pt wb 0]++Array.replicate 20 undef,defers:=[] }∧IsNew v [] wb bk sc w')
  { tmps:=#[.bool false]++Array.replicate 25 undef,defers:=[] } v:=by
 have H7:Hid (Calls Tryd.prog 8 #[.slice none 0 0] v _):=⟨(body70 (v:=v) none 0).calls Tryd.func8 rfl⟩
 show Code.wp Tryd.prog (seq1 (seq2 (Tryd.f7.body.getD .skip))) _ _ _
 unfold Tryd.f7 seq1 seq2
 simp only[Option.getD_some,Array.replicate_succ,Array.replicate_zero,List.push_toArray,List.append_toArray,List.nil_append,List.cons_append]
 go_wp2_with (first
  |(go_at_call 8;refine H7.out.mono ?_;rintro e w1 ⟨_,rfl,wb,bk,sc,rfl,hnew⟩))
 exact ⟨bk,sc,hnew⟩
structure Done7 (M:Nat) (A:Nat->Nat) (u:World):Prop where
 row:∀ k,k<1->u.cell? ⟨M,k,none⟩=some (.slice (some ⟨A k,0,none⟩) (lnW k) (lnW k))
 a0:u.heap[A 0]? = some (.cells #[I 70,I 7,I 70,I 7] 38)
theorem same7 {v:World}{M:Nat}{A:Nat->Nat}(h:Done7 M A v):Calls Tryd.prog 22 #[.slice (some ⟨M,0,none⟩) 1 1,.slice (some ⟨v.heap.size+2,0,none⟩) 1 1] (((v.alloc (.cells #[I 70,I 7] 38)).alloc (.cells #[I 70,I 7,I 70,I 7] 38)).alloc (.cells #[.slice (some ⟨(v.heap.size+1),0,none⟩) 2 2] 31)) (fun e w'=>e=.returned (.bool true)∧w'.heap=(((v.alloc (.cells #[I 70,I 7] 38)).alloc (.cells #[I 70,I 7,I 70,I 7] 38)).alloc (.cells #[.slice (some ⟨(v.heap.size+1),0,none⟩) 2 2] 31)).heap∧w'.os=v.os∧w'.output=v.output):=by
 have old:∀ b,b<v.heap.size->(((v.alloc (.cells #[I 70,I 7] 38)).alloc (.cells #[I 70,I 7,I 70,I 7] 38)).alloc (.cells #[.slice (some ⟨(v.heap.size+1),0,none⟩) 2 2] 31)).heap[b]? = v.heap[b]?:=fun b hb=>by
  show (((v.heap.push _).push _).push _)[b]? = _
  simp only[Array.getElem?_push,Array.size_push]
  repeat rw[if_neg (by omega)]
 have n0:(((v.alloc (.cells #[I 70,I 7] 38)).alloc (.cells #[I 70,I 7,I 70,I 7] 38)).alloc (.cells #[.slice (some ⟨(v.heap.size+1),0,none⟩) 2 2] 31)).heap[v.heap.size+1]? = some (.cells #[I 70,I 7,I 70,I 7] 38):=by
  show (((v.heap.push _).push _).push _)[v.heap.size+1]? = _
  simp only[Array.getElem?_push,Array.size_push]
  repeat first|rw[if_pos trivial]|rw[if_pos (by omega)]|rw[if_neg (by omega)]
 have n2:(((v.alloc (.cells #[I 70,I 7] 38)).alloc (.cells #[I 70,I 7,I 70,I 7] 38)).alloc (.cells #[.slice (some ⟨(v.heap.size+1),0,none⟩) 2 2] 31)).heap[v.heap.size+2]? = some (.cells #[.slice (some ⟨(v.heap.size+1),0,none⟩) 2 2] 31):=by
  show (((v.heap.push _).push _).push _)[v.heap.size+2]? = _
  simp only[Array.getElem?_push,Array.size_push]
  repeat first|rw[if_pos trivial]|rw[if_pos (by omega)]|rw[if_neg (by omega)]
 have hb:=body22 (v:=(((v.alloc (.cells #[I 70,I 7] 38)).alloc (.cells #[I 70,I 7,I 70,I 7] 38)).alloc (.cells #[.slice (some ⟨(v.heap.size+1),0,none⟩) 2 2] 31))) M (v.heap.size+2) 1 1 1 (A:=A) (B:=fun k=>v.heap.size+1+k) (ca:=lnW) (cb:=lnW) (ln:=lnW) (e:=fun _ _=>70) (x:=fun _ _=>7) ⟨fun k hk=>?_,fun k hk j hj=>?_⟩ ⟨fun k hk=>?_,fun k hk j hj=>?_⟩ (by decide) (fun k hk=>by unfold lnW;decide)
 ·refine (hb.calls Tryd.func22 rfl).mono ?_
  rintro e w' ⟨r,rfl,rfl,h1,h2,h3⟩
  exact ⟨rfl,h1,h2,h3⟩
 ·have:=h.row k hk
  rw[World.cell?_of_block (w:=v) (w':=(((v.alloc (.cells #[I 70,I 7] 38)).alloc (.cells #[I 70,I 7,I 70,I 7] 38)).alloc (.cells #[.slice (some ⟨(v.heap.size+1),0,none⟩) 2 2] 31))) (old M (World.block_lt_of_cell? _ _ this))]
  exact this
 ·obtain rfl:k=0:=by omega
  have h2:(((v.alloc (.cells #[I 70,I 7] 38)).alloc (.cells #[I 70,I 7,I 70,I 7] 38)).alloc (.cells #[.slice (some ⟨(v.heap.size+1),0,none⟩) 2 2] 31)).heap[A 0]? = some (.cells #[I 70,I 7,I 70,I 7] 38):=by rw[old _ (Array.getElem?_eq_some_iff.1 h.a0).1];exact h.a0
  have:j=0∨j=1:=by simp[lnW] at hj;omega
  rcases this with rfl|rfl<;>exact ⟨cell_of h2 rfl,cell_of h2 rfl⟩
 ·obtain rfl:k=0:=by omega
  exact cell_of n2 rfl
 ·obtain rfl:k=0:=by omega
  have:j=0∨j=1:=by simp[lnW] at hj;omega
  rcases this with rfl|rfl<;>exact ⟨cell_of n0 rfl,cell_of n0 rfl⟩
theorem T7_wp {v:World}{M:Nat}{A:Nat->Nat}(h:Done7 M A v) {a:Act}(hA:Fl 26 [(2,.slice (some ⟨M,0,none⟩) 1 1),(3,I 0)] a) :
 T7.wp Tryd.prog (fun e a w'=>e=.ret∧∃ x,(results Tryd.f7 a.tmps).run Tryd.prog w'=.ok x w'∧x=.bool true∧Grows v w') a v:=by
 have g3:Grows v (((v.alloc (.cells #[I 70,I 7] 38)).alloc (.cells #[I 70,I 7,I 70,I 7] 38)).alloc (.cells #[.slice (some ⟨(v.heap.size+1),0,none⟩) 2 2] 31)):=⟨by show _≤(((v.heap.push _).push _).push _).size;simp;omega,fun b hb=>by
  show (((v.heap.push _).push _).push _)[b]? = _
  simp only[Array.getElem?_push,Array.size_push]
  repeat rw[if_neg (by omega)],rfl,rfl⟩
 have H1:Hid (Calls Tryd.prog 22 #[.slice (some ⟨M,0,none⟩) 1 1,.slice (some ⟨v.heap.size+2,0,none⟩) 1 1] (((v.alloc (.cells #[I 70,I 7] 38)).alloc (.cells #[I 70,I 7,I 70,I 7] 38)).alloc (.cells #[.slice (some ⟨(v.heap.size+1),0,none⟩) 2 2] 31)) (fun e w1=>e=.returned (.bool true)∧Hid (Grows v w1))):=⟨(same7 h).mono (by
  rintro e w1 ⟨rfl,h1,h2,h3⟩
  exact ⟨rfl,⟨by rw[h1];exact g3.size,fun b hb=>by rw[h1];exact g3.old b hb,h2,h3⟩⟩)⟩
 clear h g3
 obtain ⟨hsz,hd,hpp⟩:=hA
 obtain ⟨u,rfl,hg⟩:=litN hsz hd
 have u2:=(hg 2).symm.trans (hpp (2,.slice (some ⟨M,0,none⟩) 1 1) (by simp))
 have u3:=(hg 3).symm.trans (hpp (3,I 0) (by simp))
 clear hg hpp hsz hd
 unfold T7 B7 Tryd.f7 seq2
 simp only[Option.getD_some,lits,Nat.reduceAdd,u2,u3]
 clear u2 u3
 go_wp2_with (first
  |(go_at_call 22;refine H1.out.mono ?_;rintro e w1 ⟨rfl,H2⟩))
 exact ⟨_,results_tmp (t:=0) rfl _ _ _,rfl,H2.out⟩
structure Set7 (v:World) (wb bk:Nat) (sc:Value) (c:Nat) (u:World):Prop where
 mem:Mem zn (newS wb bk v.heap.size sc []) [] u
 opn:Open u bk
 c0:u.heap[c]? = some (.cells #[I 2,I 0,I 7,I 0,I 1,I 0,I 8,I 0] 35)
 scr:u.heap[c+1]? = some (.cells #[.slice (some ⟨c,0,none⟩) 2 2] 33)
 own:∀ b,Own (newS wb bk v.heap.size sc []) [] b∨b=bk->v.heap.size≤b∧b<c
 old:Grows v u
theorem Set7.same {v:World}{wb bk:Nat}{sc:Value}{c:Nat}{u u':World}(h:Set7 v wb bk sc c u) (e:u'.heap=u.heap) (e1:u'.os=u.os) (e2:u'.output=u.output):Set7 v wb bk sc c u':=by
 have g:Grows u u':=⟨by rw[e];exact Nat.le_refl _,fun b _=>by rw[e],e1,e2⟩
 refine ⟨(h.mem.grows g).mem,?_,by rw[e];exact h.c0,by rw[e];exact h.scr,h.own,⟨by rw[e];exact h.old.size,fun b hb=>by rw[e];exact h.old.old b hb,e1.trans h.old.os,e2.trans h.old.output⟩⟩
 obtain ⟨c,m,hh⟩:=h.opn
 exact ⟨c,m,by rw[e];exact hh⟩
theorem oawake_in {Ch:Nat->Prop}{Stop:Goroutine->World->Prop}{main:Bool}{v w:World}(cs:List Frame) {bc:Frame}{ac:Act}{ops:Array Oper}{q:Nat}{rest:List Nat}{oc:Oper}{k:List Item}(hoc:ops[q]? = some oc)
 (hvw:Rel zn v w) (hn:Ah Ch v)
 (hk:∀ v' w' (wb bk:Nat) (sc:Value) (c:Nat) (bd:Frame) (ad:Act) (od:Array Oper) (qd:Nat) (rd:List Nat) (oe:Oper) (kd:List Item),Rel zn v' w'->Ah Ch v'->Set7 v wb bk sc c v'->od[qd]? = some oe ->
   (∀ (Ch:Nat->Prop) (Stop:Goroutine->World->Prop) (M:Nat) (A:Nat->Nat) (v w:World),Rel zn v w->Ah Ch v->Done7 M A v->(∀ v' w',Rel zn v' w'->Ah Ch v'->Grows v v'->GoesI Tryd.prog main (DT (ScZ zn) Ch) Stop (G (bc.at (ac.put oc.dst (.bool true)) (.inRegion ops rest :: k)) cs) w')->GoesI Tryd.prog main (DT (ScZ zn) Ch) Stop (G (bd.at (ad.put oe.dst (.tuple #[.slice (some ⟨M,0,none⟩) 1 1,I 0])) (.inRegion od rd :: kd)) (bc.at ac (.inRegion ops (q :: rest) :: k) :: cs)) w) ->
   GoesI Tryd.prog main (DT (ScZ zn) Ch) Stop (G ((base 9).at { tmps:=#[Pt wb 0,I 1,.slice (some ⟨c+1,0,none⟩) 1 1]++Array.replicate 37 undef,defers:=[] } [.code yB]) (bd.at ad (.inRegion od (qd :: rd) :: kd) :: bc.at ac (.inRegion ops (q :: rest) :: k) :: cs)) w') :
 GoesI Tryd.prog main (DT (ScZ zn) Ch) Stop (G ((base 7).at { tmps:=Array.replicate 26 undef,defers:=[] } [.code B7]) (bc.at ac (.inRegion ops (q :: rest) :: k) :: cs)) w:=by
 rw[eB7]
 refine Ac (Aa _ _) ?_
 refine Am (z:=zn) (wr:=true) (L:=LV) (I:=Ah Ch) hE Gy Al (fun v v' w w' es hi hr ho he=>Az v v' w w' es hi hr ho he) hvw fine70 rfl (by simp[base]) hn
  (Q:=fun a w'=>a={ tmps:=#[.bool false]++Array.replicate 25 undef,defers:=[] }∧w'.heap=v.heap∧w'.os=v.os∧w'.output=v.output) (fun τ=>b70_wp (v:=Ap v τ 0)) ?_
 rintro a0 v0 w0 ⟨rfl,e0,o0,u0⟩ hr0 hn0 -
 refine Ac (Aa _ _) ?_
 refine Am (z:=zn) (wr:=true) (L:=LV) (I:=Ah Ch) hE Gy Al (fun v v' w w' es hi hr ho he=>Az v v' w w' es hi hr ho he) hr0 fine71 rfl (by simp[base]) hn0
  (Q:=fun a w'=>∃ wb bk sc,a={ tmps:=#[.bool false,Pt wb 0,undef,undef,undef,Pt wb 0]++Array.replicate 20 undef,defers:=[] }∧IsNew v0 [] wb bk sc w') (fun τ=>?_) ?_
 ·refine wp_mono (b71_wp (v:=Ap v0 τ 0)) (fun e a w' hq=>⟨hq.1,?_⟩)
  obtain ⟨_,wb,bk,sc,h1,h2⟩:=hq
  exact ⟨wb,bk,sc,h1,⟨h2.mem,h2.opn,h2.new,⟨h2.old.size,h2.old.old,h2.old.os,h2.old.output⟩⟩⟩
 rintro a1 v1 w1 ⟨wb,bk,sc,rfl,hnew⟩ hr1 hn1 -
 have hset:Set7 v wb bk sc v1.heap.size ((v1.alloc (.cells #[I 2,I 0,I 7,I 0,I 1,I 0,I 8,I 0] 35)).alloc (.cells #[.slice (some ⟨v1.heap.size,0,none⟩) 2 2] 33)):=by
  have g1:Grows v1 ((v1.alloc (.cells #[I 2,I 0,I 7,I 0,I 1,I 0,I 8,I 0] 35)).alloc (.cells #[.slice (some ⟨v1.heap.size,0,none⟩) 2 2] 33)):=⟨by show _≤((v1.heap.push _).push _).size;simp;omega,fun b hb=>by
   show ((v1.heap.push _).push _)[b]? = _
   simp only[Array.getElem?_push,Array.size_push]
   repeat rw[if_neg (by omega)],rfl,rfl⟩
  have hm1:=hnew.mem
  have hnn:=hnew.new
  rw[e0] at hm1 hnn
  refine ⟨(hm1.grows g1).mem,?_,?_,?_,fun b hb=>⟨hnn b hb,?_⟩,⟨?_,fun b hb=>?_,?_,?_⟩⟩
  ·obtain ⟨c,m,h⟩:=hnew.opn
   exact ⟨c,m,by rw[g1.old _ (Array.getElem?_eq_some_iff.1 h).1];exact h⟩
  ·show ((v1.heap.push _).push _)[v1.heap.size]? = _
   simp only[Array.getElem?_push,Array.size_push]
   repeat first|rw[if_pos trivial]|rw[if_pos (by omega)]|rw[if_neg (by omega)]
  ·show ((v1.heap.push _).push _)[v1.heap.size+1]? = _
   simp only[Array.getElem?_push,Array.size_push]
   repeat first|rw[if_pos trivial]|rw[if_pos (by omega)]|rw[if_neg (by omega)]
  ·rcases hb with hb|rfl
   ·exact hm1.lt hb
   ·obtain ⟨c,m,h⟩:=hnew.opn
    exact (Array.getElem?_eq_some_iff.1 h).1
  ·have:=hnew.old.size;have:=g1.size;rw[e0] at *;omega
  ·rw[g1.old b (by have:=hnew.old.size;rw[e0] at this;omega),hnew.old.old b (by rw[e0];exact hb),e0]
  ·exact hnew.old.os.trans o0
  ·exact hnew.old.output.trans u0
 clear hnew hr0 hn0 e0 o0 u0 hvw hn
 unfold r72 B7 Tryd.f7 seq1 seq2
 simp only[Option.getD_some,Array.replicate_succ,Array.replicate_zero,List.push_toArray,List.append_toArray,List.nil_append,List.cons_append]
 refine Ac (Aa _ _) ?_
 refine Ae (Aa _ _) ?_
 simp only[List.size_toArray,List.length_cons,List.length_nil,Nat.reduceAdd,Nat.zero_add,List.range,List.range.loop]
 iterate 1
  (refine Af rfl rfl (by decide) (fun d K hK=>?_)
   go_simp
   refine hK _ _ ⟨Ak (fun e he=>?_),GoesI.at ?_ d⟩
   ·have hm:=mem_listed he
    simp[go_sem, *] at hm
    try exact ⟨_,_,hm⟩
   clear hK K)
 refine Cg (L:=LV) rfl rfl (by decide) (A7 Bw extT (by kernel_rfl)) hr1 hn1 (v':=v1) (x:=.agg #[I 2,I 0,I 7,I 0]) (by go_simp) rfl (fun w2 hr2 hn2=>?_)
 refine Cg (L:=LV) rfl rfl (by decide) (A7 Bw extT (by kernel_rfl)) hr2 hn2 (v':=v1) (x:=.agg #[I 1,I 0,I 8,I 0]) (by go_simp) rfl (fun w2b hr2b hn2b=>?_)
 refine Cg (L:=LV) rfl rfl (by decide) (A7 Bw extT (by kernel_rfl)) hr2b hn2b (v':=(v1.alloc (.cells #[I 2,I 0,I 7,I 0,I 1,I 0,I 8,I 0] 35))) (x:=.slice (some ⟨v1.heap.size,0,none⟩) 2 2) (by go_simp) rfl (fun w3 hr3 hn3=>?_)
 refine Cg (L:=LV) rfl rfl (by decide) (A7 Bw extT (by kernel_rfl)) hr3 hn3 (v':=((v1.alloc (.cells #[I 2,I 0,I 7,I 0,I 1,I 0,I 8,I 0] 35)).alloc (.cells #[.slice (some ⟨v1.heap.size,0,none⟩) 2 2] 33))) (x:=.slice (some ⟨v1.heap.size+1,0,none⟩) 1 1) (by go_simp) rfl (fun w6 hr6 hn6=>?_)
 refine Bj (f:=9) (fn:=Tryd.f9) (args:=#[Pt wb 0,I 1,.slice (some ⟨v1.heap.size+1,0,none⟩) 1 1]) (Aa _ _) rfl rfl (by decide) rfl (by simp[Act.eval,Act.put]) Tryd.func9 (by decide) rfl ?_
 refine hk _ w6 wb bk sc v1.heap.size _ _ _ _ _ _ _ hr6 hn6 hset rfl (fun Ch Stop M A vv ww hvw hn hD hg=>?_)
 clear hk hset hr1 hr2 hr2b hr3 hr6 hn1 hn2 hn2b hn3 hn6
 iterate 5
  (refine Af rfl rfl (by decide) (fun d K hK=>?_)
   go_simp
   refine hK _ _ ⟨Ak (fun e he=>?_),GoesI.at ?_ d⟩
   ·have hm:=mem_listed he
    simp[go_sem, *] at hm
    try exact ⟨_,_,hm⟩
   clear hK K)
 refine Ab (Aa _ _) ?_
 refine Fy (c:=T7) (f:=7) (fn:=Tryd.f7) (L:=LV) hE Gy hvw hn Tryd.func7 fineT7 rfl hoc (R:=fun r w'=>r=.bool true∧Grows vv w') (fun τ=>?_) (fun r v' w' hR hr' hn'=>?_)
 ·have hD':Done7 M A (Ap vv τ 0):=⟨hD.row,hD.a0⟩
  refine wp_mono (T7_wp (v:=Ap vv τ 0) hD' ⟨rfl,rfl,by
   intro p hp
   simp only[List.mem_cons,List.not_mem_nil,or_false] at hp
   rcases hp with rfl|rfl<;>rfl⟩) (fun e a w' hq=>⟨hq.1,?_⟩)
  obtain ⟨_,x,h1,h2,h3⟩:=hq
  exact ⟨x,h1,h2,⟨h3.size,h3.old,h3.os,h3.output⟩⟩
 ·obtain ⟨rfl,hgr⟩:=hR
  exact hg v' w' hr' hn' hgr
end Go.Proofs.YtaofjdoielmobaaDoor.Gen
namespace Go.Proofs.YtaofjdoielmobaaDoor.Gen
open Go Go.Lift Go.Conc Go.RowKit
open Go.ConcN (upd upd_same upd_ne)
structure Gl (w:World):Prop where
 a:∃ c t f,w.heap[0]? = some (.cells c t f)∧c[0]? = some (I 0)∧c[1]? = some (I 2)
 b:∃ c t f,w.heap[1]? = some (.cells c t f)∧c[0]? = some (I 10)∧c[1]? = some (I 20)
 c:∃ c t f,w.heap[2]? = some (.cells c t f)∧c[0]? = some (I 2)∧c[1]? = some (I 8)
theorem Gl.grows {w w':World}(h:Gl w) (g:Grows w w'):Gl w':=by
 obtain ⟨c,t,f,h1,h2⟩:=h.a
 obtain ⟨c',t',f',k1,k2⟩:=h.b
 obtain ⟨c'',t'',f'',l1,l2⟩:=h.c
 exact ⟨⟨c,t,f,by rw[g.old 0 (Array.getElem?_eq_some_iff.1 h1).1];exact h1,h2⟩,⟨c',t',f',by rw[g.old 1 (Array.getElem?_eq_some_iff.1 k1).1];exact k1,k2⟩,⟨c'',t'',f'',by rw[g.old 2 (Array.getElem?_eq_some_iff.1 l1).1];exact l1,l2⟩⟩
theorem Gl.flds {w:World}(h:Gl w):R1.Flds w:=by
 obtain ⟨c,t,f,h1,h2,h3⟩:=h.a
 obtain ⟨c',t',f',k1,k2,k3⟩:=h.b
 obtain ⟨c'',t'',f'',l1,l2,l3⟩:=h.c
 constructor<;>first|exact cell_of h1 h2|exact cell_of h1 h3|exact cell_of k1 k2|exact cell_of k1 k3|exact cell_of l1 l2|exact cell_of l1 l3
def glP (w:World):Nat->Option Obj:=fun b=>if b<3 then w.heap[b]? else none
theorem glP_in {w:World}{b:Nat}(h:glP w b≠none):b<3:=by
 unfold glP at h
 split at h
 ·assumption
 ·exact absurd rfl h
theorem glP_has (w:World):Has (glP w) w:=fun b o hb=>by
 unfold glP at hb
 split at hb
 ·exact hb
 ·cases hb
theorem glP_fl {w:World}(h:Gl w) (u:World) (hu:Has (glP w) u):R1.Flds u:=by
 have e:∀ b o,b<3->w.heap[b]? = some o->u.heap[b]? = some o:=fun b o hb ho=>hu b o (by unfold glP;rw[if_pos hb];exact ho)
 obtain ⟨c,t,f,h1,h2⟩:=h.a
 obtain ⟨c',t',f',k1,k2⟩:=h.b
 obtain ⟨c'',t'',f'',l1,l2⟩:=h.c
 exact Gl.flds ⟨⟨c,t,f,e _ _ (by decide) h1,h2⟩,⟨c',t',f',e _ _ (by decide) k1,k2⟩,⟨c'',t'',f'',e _ _ (by decide) l1,l2⟩⟩
theorem glP_row {w:World}(h:Gl w):∀ b o,glP w b=some o->∃ c e f,o=.cells c e f:=fun b o hb=>by
 have hw:=glP_has w b o hb
 have h3:=glP_in (w:=w) (b:=b) (by rw[hb];simp)
 have:b=0∨b=1∨b=2:=by omega
 rcases this with rfl|rfl|rfl
 ·obtain ⟨c,t,f,h1,_⟩:=h.a
  rw[h1] at hw;cases hw;exact ⟨_,_,_,rfl⟩
 ·obtain ⟨c,t,f,h1,_⟩:=h.b
  rw[h1] at hw;cases hw;exact ⟨_,_,_,rfl⟩
 ·obtain ⟨c,t,f,h1,_⟩:=h.c
  rw[h1] at hw;cases hw;exact ⟨_,_,_,rfl⟩
theorem Gl.lt {w:World}(h:Gl w):2<w.heap.size:=by
 obtain ⟨c,t,f,h1,_⟩:=h.c
 exact (Array.getElem?_eq_some_iff.1 h1).1
abbrev pcW (c j:Nat):Option Addr:=some ⟨c+j,0,none⟩
section
variable {wb bk base:Nat}{sc cv:Value}{cb0 cb1:Nat}{l0:Nat->Ph}
theorem hires_on {caps:Array Value}{pk:Nat->Option Obj}{N c:Nat}{S1:TS}{l1:Nat->Ph}(h:Hires (mcO 1) 0 (scrs (mcO 1) 25 caps pk N 1 [(cb0,0),(cb1,0)] (pcW c) lnW lnW (fun j=>c+j) clW) (awST wb bk base sc cv 2) l0 S1 l1) :
 ∃ tv0 tb0 gc0,(⟨S1,[(cb0,0),(cb1,0)],l1⟩:PSt)=awPT wb bk base sc cv tv0 tb0 gc0 cb0 cb1 l0:=by
 have e:(scrs (mcO 1) 25 caps pk N 1 [(cb0,0),(cb1,0)] (pcW c) lnW lnW (fun j=>c+j) clW)=[scrOf (mcO 1) 25 caps pk N 1 [cb0,cb1] (pcW c) lnW lnW (fun j=>c+j) clW 0]:=rfl
 rw[e] at h
 cases h with
 |cons tv0 tb0 gc0 h =>
  cases h
  exact ⟨tv0,tb0,gc0,rfl⟩
end
theorem asked7 {v u:World}{wb bk:Nat}{sc:Value}{c:Nat}(s:Set7 v wb bk sc c u):Asked u (newS wb bk v.heap.size sc []) 1 (c+1) 0 (pcW c) lnW lnW (fun j=>c+j) clW:=by
 have one:∀ {j},j<1->j=0:=fun h=>by omega
 refine ⟨fun j hj=>by obtain rfl:=one hj;exact ⟨rfl,by decide⟩,fun k hk=>?_,fun h=>by have:=(s.own _ (.inl h)).2;omega,fun j hj _=>⟨rfl,fun h=>by have:=(s.own _ (.inl h)).2;omega⟩,fun j hj k x hx=>?_,fun j hj x hx=>?_⟩
 ·obtain rfl:=one hk;exact cell_of s.scr rfl
 ·obtain rfl:=one hj
  match k,hx with
  |0,hx=>cases hx;exact ⟨cell_of s.c0 rfl,cell_of s.c0 rfl,cell_of s.c0 rfl,cell_of s.c0 rfl⟩
  |1,hx=>cases hx;exact ⟨cell_of s.c0 rfl,cell_of s.c0 rfl,cell_of s.c0 rfl,cell_of s.c0 rfl⟩
  |k+2,hx=>simp[clW] at hx
 ·obtain rfl:=one hj
  simp[clW] at hx
  rcases hx with rfl|rfl<;>decide
theorem K_two {K:List (Nat×Int)}(hK:K.map (·.2)=List.replicate 2 0):∃ cb0 cb1,K=[(cb0,0),(cb1,0)]:=by
 match K,hK with
 | [(a,x),(b,y)],hK =>
  simp[List.replicate] at hK
  obtain ⟨rfl,rfl⟩:=hK
  exact ⟨a,b,rfl⟩
 | [],hK=>simp at hK
 | [x],hK=>simp[List.replicate] at hK
 |x :: y :: z :: l,hK=>simp[List.replicate] at hK
theorem oawake_all {cs:List Frame}{bc:Frame}{ac:Act}{ops:Array Oper}{q0:Nat}{rest:List Nat}{oc:Oper}{k0:List Item}(hoc:ops[q0]? = some oc) {w:World}{T:Trace}{gs:Array Goroutine}{q:Nat->Nat}(sl:Option (Nat×Nat)) (A:Alone gs w T q) (hGl:Gl w)
 (hg:gs[0]? = some (G ((base 7).at { tmps:=Array.replicate 26 undef,defers:=[] } [.code B7]) (bc.at ac (.inRegion ops (q0 :: rest) :: k0) :: cs))) :
 ∃ (N':Nat) (gs':Array Goroutine) (w':World) (sl':Option (Nat×Nat)) (T':Trace) (q':Nat->Nat),
   runNT Tryd.prog N' (crowd gs w sl) T=(.next (crowd gs' w' sl'),T')∧gs'[0]? = some (G (bc.at (ac.put oc.dst (.bool true)) (.inRegion ops rest :: k0)) cs)∧Alone gs' w' T' q'∧Grows w w':=by
 have hG:GoesI Tryd.prog true (DT (ScZ zn) (fun _=>False)) (fun g w'=>∃ (wb bk:Nat) (sc:Value) (c:Nat) (bd:Frame) (ad:Act) (od:Array Oper) (qd:Nat) (rd:List Nat) (oe:Oper) (kd:List Item),Set7 w wb bk sc c w'∧od[qd]? = some oe ∧
  (∀ (Ch:Nat->Prop) (Stop:Goroutine->World->Prop) (M:Nat) (A:Nat->Nat) (v w:World),Rel zn v w->Ah Ch v->Done7 M A v->(∀ v' w',Rel zn v' w'->Ah Ch v'->Grows v v'->GoesI Tryd.prog true (DT (ScZ zn) Ch) Stop (G (bc.at (ac.put oc.dst (.bool true)) (.inRegion ops rest :: k0)) cs) w')->GoesI Tryd.prog true (DT (ScZ zn) Ch) Stop (G (bd.at (ad.put oe.dst (.tuple #[.slice (some ⟨M,0,none⟩) 1 1,I 0])) (.inRegion od rd :: kd)) (bc.at ac (.inRegion ops (q0 :: rest) :: k0) :: cs)) w) ∧
  g=G ((base 9).at { tmps:=#[Pt wb 0,I 1,.slice (some ⟨c+1,0,none⟩) 1 1]++Array.replicate 37 undef,defers:=[] } [.code yB]) (bd.at ad (.inRegion od (qd :: rd) :: kd) :: bc.at ac (.inRegion ops (q0 :: rest) :: k0) :: cs)) (G ((base 7).at { tmps:=Array.replicate 26 undef,defers:=[] } [.code B7]) (bc.at ac (.inRegion ops (q0 :: rest) :: k0) :: cs)) w :=
  oawake_in cs hoc (Rel.refl w) (fun c hc=>hc.elim) (fun v' w' wb bk sc c bd ad od qd rd oe kd hr hn hset ho hback=>GoesI.stop fun d=>⟨wb,bk,sc,c,bd,ad,od,qd,rd,oe,kd,hset.same hr.eq hr.os hr.output,ho,hback,rfl⟩)
 obtain ⟨N1,gs1,a1,w1,sl1,T1,q1,r1,z1,h1,⟨wb,bk,sc,c,bd,ad,od,qd,rd,oe,kd,s,hoe,hback,rfl⟩,A1⟩:=Dj A hg sl hG
 have l0:Nat->Ph:=fun _=>.done []
 have hGl1:=hGl.grows s.old
 have h7:=hGl.lt
 have hpf:∀ b,glP w1 b≠none->¬ Own (newS wb bk w.heap.size sc []) [] b∧b≠(newS wb bk w.heap.size sc []).bk:=fun b hb=>by
  have hb':=glP_in hb
  exact ⟨fun h=>by have:=(s.own b (.inl h)).1;omega,fun h=>by have:=(s.own b (.inr h)).1;omega⟩
 obtain ⟨N2,gs2,w2,sl2,T2,q2,caps,pk,N,cv,K,S',S1,l1,m,p',r2,z2,h2,A2,hK,hnv,hH,hT,O⟩:=oplay_all (S:=newS wb bk w.heap.size sc []) (n:=1) (sb:=c+1) (so:=0) (cap:=1) (pc:=pcW c) (ln:=lnW) (cp:=lnW) (rb:=fun j=>c+j) (cl:=clW) 1 (by decide) (by decide) (pk0:=glP w1) (glP_fl hGl1) hoe sl1 6 A1 h1 s.mem rfl rfl rfl s.opn (glP_has w1) hpf (glP_row hGl1) (asked7 s) (by decide) (fun caps pk N K=>by show 0+2*(2+0)≤1000000;decide) (by show 0≤4611686018427387904;decide) (by show ∀ x∈([]:List Int),_;simp) l0 (fun caps pk N cv K hK S1 l1 hH=>by
  obtain ⟨cb0,cb1,rfl⟩:=K_two hK
  obtain ⟨tv0,tb0,gc0,e⟩:=hires_on (wb:=wb) (bk:=bk) (base:=w.heap.size) (sc:=sc) (cv:=cv) hH
  exact ⟨6,_,Nat.le_refl _,by rw[e];exact turns_of 6 _ (awt_runs wb bk _ sc cv tv0 tb0 gc0 cb0 cb1 l0),by rw[awt_n];decide⟩)
 obtain ⟨cb0,cb1,rfl⟩:=K_two hK
 obtain ⟨tv0,tb0,gc0,e⟩:=hires_on (wb:=wb) (bk:=bk) (base:=w.heap.size) (sc:=sc) (cv:=cv) hH
 have hT':Turns (mcO 1) m (⟨S1,[(cb0,0),(cb1,0)],l1⟩:PSt) p':=hT
 rw[e] at hT'
 have hp:=turns_det hT' (turns_of 6 _ (awt_runs wb bk w.heap.size sc cv tv0 tb0 gc0 cb0 cb1 l0))
 have hans:=awt_ans wb bk w.heap.size sc cv tv0 tb0 gc0 cb0 cb1 l0
 rw[←hp] at hans
 have a0:=(O.ans 0 (by decide)).2.1 (by decide)
 rw[hans] at a0
 have hD:Done7 (N+1) (fun k=>N+4+3*k+2) w2:=⟨fun k hk=>O.rows k hk,a0⟩
 obtain ⟨N3,gs3,a3,w3,sl3,T3,q3,r3,z3,h3,⟨rfl,hg3⟩,A3⟩:=Dj A2 h2 sl2 (hback (fun _=>False) (fun g w'=>g=G (bc.at (ac.put oc.dst (.bool true)) (.inRegion ops rest :: k0)) cs∧Grows w2 w') (N+1) _ w2 w2 (Rel.refl w2) (fun c hc=>hc.elim) hD (fun v' w' hr hn hgr=>GoesI.stop fun d=>⟨rfl,hgr.toAt hr d⟩))
 refine ⟨N1+N2+N3,gs3,w3,sl3,T3,q3,runNT_then (runNT_then r1 r2) r3,h3,A3,⟨by have:=s.old.size;have:=O.size;have:=hg3.size;omega,fun b hb=>?_,hg3.os.trans (O.os.trans s.old.os),hg3.output.trans (O.out.trans s.old.output)⟩⟩
 have hs1:=s.old.size
 have hno:¬ (Own (newS wb bk w.heap.size sc []) [] b∨b=bk):=fun h=>by have:=(s.own b h).1;omega
 have h5:=O.old b (by omega) (fun h=>hno (.inl h)) (fun h=>hno (.inr h))
 rw[hg3.old b (by have:=O.size;omega),h5.1,s.old.old b hb]
end Go.Proofs.YtaofjdoielmobaaDoor.Gen
namespace Go.Proofs.YtaofjdoielmobaaDoor.His
open Go.RowKit
structure Ev where
 thr:Int
 op:Int
 a:Int
 b:Int
 beg:Int
 fin:Int
 code:Int
 val:Int
def ev0:Ev:=⟨0,0,0,0,0,0,0,0⟩
def Ev.over (x:Ev):Bool:=!(x.fin==-1)
def Bg (x y:Ev):Bool:=x.over&&decide (x.fin<y.beg)
def Ev.ans (x:Ev):Int×Int:=(x.code,x.val)
theorem evAhead_over {x y:Ev}(h:Bg x y=true):x.over=true:=by
 unfold Bg at h;simp at h;exact h.1
theorem evAhead_lt {x y:Ev}(h:Bg x y=true):x.fin<y.beg:=by
 unfold Bg at h;simp at h;exact h.2
theorem over_iff {x:Ev}:x.over=true↔x.fin≠-1:=by unfold Ev.over;simp
def Timed (x:Ev):Prop:=0≤x.beg∧(x.fin=-1∨x.beg<x.fin)
def Two (x y:Ev):Prop:=x.thr=y.thr->Bg x y=true∨Bg y x=true
def Hist (l:List Ev):Prop:=∀ i,i<l.length->Timed (l.getD i ev0)∧∀ k,k<i->Two (l.getD i ev0) (l.getD k ev0)
theorem Hist.irr {l:List Ev}(h:Hist l) {i:Nat}(hi:i<l.length):Bg (l.getD i ev0) (l.getD i ev0)=false:=by
 cases e:Bg (l.getD i ev0) (l.getD i ev0) with
 |false=>rfl
 |true =>
  have h1:=evAhead_lt e
  have h2:=over_iff.1 (evAhead_over e)
  have h3:=(h i hi).1
  unfold Timed at h3
  omega
abbrev Ways (σ:Type):=σ->Ev->List ((Int×Int)×σ)
def Acc {σ:Type}(ways:Ways σ):σ->List Ev->Prop
 |_,[]=>True
 |s,e :: r=>∃ o,o∈ways s e∧(e.over=true->o.1=e.ans)∧Acc ways o.2 r
def Lin {σ:Type}(ways:Ways σ) (s:σ) (l:List Ev):Prop :=
 ∃ ord:List Nat,ord.Nodup∧(∀ i∈ord,i<l.length)∧(∀ i,i<l.length->(l.getD i ev0).over=true->i∈ord) ∧
   ord.Pairwise (fun i j=>Bg (l.getD j ev0) (l.getD i ev0)=false)∧Acc ways s (ord.map fun i=>l.getD i ev0)
def Run {σ:Type}(ways:Ways σ) (l:List Ev):Nat->σ->List Nat->Prop
 |T,_,[]=>∀ i,i<l.length->(l.getD i ev0).over=true->T.testBit i=true
 |T,s,i :: r=>i<l.length∧T.testBit i=false∧(∀ k,k<l.length->Bg (l.getD k ev0) (l.getD i ev0)=true->T.testBit k=true) ∧
  ∃ o,o∈ways s (l.getD i ev0)∧((l.getD i ev0).over=true->o.1=(l.getD i ev0).ans)∧Run ways l (T ||| 2 ^ i) o.2 r
def Goes {σ:Type}(ways:Ways σ) (l:List Ev) (T:Nat) (s:σ):Prop:=∃ ord,Run ways l T s ord
theorem bit_or (T i j:Nat):(T ||| 2 ^ i).testBit j=(T.testBit j||decide (i=j)):=by
 rw[Nat.testBit_or,Nat.testBit_two_pow]
theorem goes_step {σ:Type}{ways:Ways σ}{l:List Ev}{T:Nat}{s:σ}:Goes ways l T s ↔
 (∀ i,i<l.length->(l.getD i ev0).over=true->T.testBit i=true) ∨
 ∃ i,i<l.length∧T.testBit i=false∧(∀ k,k<l.length->Bg (l.getD k ev0) (l.getD i ev0)=true->T.testBit k=true) ∧
   ∃ o,o∈ways s (l.getD i ev0)∧((l.getD i ev0).over=true->o.1=(l.getD i ev0).ans)∧Goes ways l (T ||| 2 ^ i) o.2:=by
 constructor
 ·rintro ⟨ord,h⟩
  cases ord with
  |nil=>exact .inl h
  |cons i r =>
   obtain ⟨h1,h2,h3,o,h4,h5,h7⟩:=h
   exact .inr ⟨i,h1,h2,h3,o,h4,h5,r,h7⟩
 ·rintro (h|⟨i,h1,h2,h3,o,h4,h5,r,h7⟩)
  ·exact ⟨[],h⟩
  ·exact ⟨i :: r,h1,h2,h3,o,h4,h5,h7⟩
theorem run_whole {σ:Type}{ways:Ways σ}{l:List Ev}:∀ (ord:List Nat) (T:Nat) (s:σ),Run ways l T s ord ->
 ord.Nodup∧(∀ i∈ord,i<l.length∧T.testBit i=false)∧(∀ i,i<l.length->(l.getD i ev0).over=true->T.testBit i=true∨i∈ord) ∧
 ord.Pairwise (fun i j=>Bg (l.getD j ev0) (l.getD i ev0)=false)∧Acc ways s (ord.map fun i=>l.getD i ev0)
 | [],T,s,h=>⟨List.nodup_nil,by simp,fun i hi ho=>.inl (h i hi ho),List.Pairwise.nil,trivial⟩
 |i :: r,T,s,h=>by
  obtain ⟨h1,h2,h3,o,h4,h5,h6⟩:=h
  obtain ⟨g1,g2,g3,g4,g5⟩:=run_whole r _ _ h6
  have hnot:∀ j∈r,T.testBit j=false∧i≠j:=fun j hj=>by
   have:=(g2 j hj).2
   rw[bit_or] at this
   have:=Bool.or_eq_false_iff.1 this
   exact ⟨this.1,of_decide_eq_false this.2⟩
  refine ⟨List.nodup_cons.2 ⟨fun hm=>(hnot i hm).2 rfl,g1⟩,fun j hj=>?_,fun j hj ho=>?_,List.pairwise_cons.2 ⟨fun j hj=>?_,g4⟩,o,h4,h5,g5⟩
  ·rcases List.mem_cons.1 hj with rfl|hj
   ·exact ⟨h1,h2⟩
   ·exact ⟨(g2 j hj).1,(hnot j hj).1⟩
  ·rcases g3 j hj ho with h'|h'
   ·rw[bit_or] at h'
    rcases Bool.or_eq_true _ _▸h' with h''|h''
    ·exact .inl h''
    ·exact .inr (by rw[←of_decide_eq_true h''];simp)
   ·exact .inr (List.mem_cons_of_mem _ h')
  ·cases e:Bg (l.getD j ev0) (l.getD i ev0) with
   |false=>rfl
   |true =>
    have:=h3 j (g2 j hj).1 e
    rw[(hnot j hj).1] at this;cases this
theorem whole_run {σ:Type}{ways:Ways σ}{l:List Ev}(hirr:∀ i,i<l.length->Bg (l.getD i ev0) (l.getD i ev0)=false):∀ (ord:List Nat) (T:Nat) (s:σ),
 ord.Nodup->(∀ i∈ord,i<l.length∧T.testBit i=false)->(∀ i,i<l.length->(l.getD i ev0).over=true->T.testBit i=true∨i∈ord) ->
 ord.Pairwise (fun i j=>Bg (l.getD j ev0) (l.getD i ev0)=false)->Acc ways s (ord.map fun i=>l.getD i ev0)->Run ways l T s ord
 | [],T,s,_,_,h,_,_=>fun i hi ho=>(h i hi ho).resolve_right (by simp)
 |i :: r,T,s,h1,h2,h3,h4,h5=>by
  obtain ⟨n1,n2⟩:=List.nodup_cons.1 h1
  obtain ⟨p1,p2⟩:=List.pairwise_cons.1 h4
  obtain ⟨o,a1,a2,a3⟩:=h5
  have hi:=h2 i (by simp)
  refine ⟨hi.1,hi.2,fun k hk ha=>?_,o,a1,a2,whole_run hirr r _ _ n2 (fun j hj=>⟨(h2 j (by simp[hj])).1,?_⟩) (fun j hj ho=>?_) p2 a3⟩
  ·rcases h3 k hk (evAhead_over ha) with h'|h'
   ·exact h'
   ·rcases List.mem_cons.1 h' with rfl|h'
    ·rw[hirr k hk] at ha;cases ha
    ·rw[p1 k h'] at ha;cases ha
  ·rw[bit_or,(h2 j (by simp[hj])).2]
   have:i≠j:=fun e=>n1 (e▸hj)
   simp[this]
  ·rw[bit_or]
   rcases h3 j hj ho with h'|h'
   ·left;rw[h'];rfl
   ·rcases List.mem_cons.1 h' with rfl|h'
    ·left;simp
    ·exact .inr h'
theorem lin_iff {σ:Type}{ways:Ways σ}{l:List Ev}(hh:Hist l) (s:σ):Lin ways s l↔Goes ways l 0 s:=by
 constructor
 ·rintro ⟨ord,h1,h2,h3,h4,h5⟩
  exact ⟨ord,whole_run (fun i hi=>hh.irr hi) ord 0 s h1 (fun i hi=>⟨h2 i hi,by simp⟩) (fun i hi ho=>.inr (h3 i hi ho)) h4 h5⟩
 ·rintro ⟨ord,h⟩
  obtain ⟨h1,h2,h3,h4,h5⟩:=run_whole ord 0 s h
  exact ⟨ord,h1,fun i hi=>(h2 i hi).1,fun i hi ho=>(h3 i hi ho).resolve_left (by simp),h4,h5⟩
def left (T:Nat):Nat->Nat
 |0=>0
 |n+1=>left T n+if T.testBit n=true then 0 else 1
theorem left_le (T n:Nat):left T n≤n:=by
 induction n with
 |zero=>exact Nat.le_refl _
 |succ n ih=>unfold left;split<;>omega
theorem left_same {T i:Nat}:∀ {n:Nat},n≤i->left (T ||| 2 ^ i) n=left T n
 |0,_=>rfl
 |n+1,h=>by
  unfold left
  rw[left_same (by omega),bit_or]
  have:i≠n:=by omega
  simp[this]
theorem left_or {T i:Nat}(h:T.testBit i=false):∀ {n:Nat},i<n->left (T ||| 2 ^ i) n+1=left T n
 |0,hi=>by omega
 |n+1,hi=>by
  unfold left
  by_cases e:i=n
  ·subst e
   rw[left_same (Nat.le_refl _),bit_or,h]
   simp
  ·have:=left_or h (n:=n) (by omega)
   rw[bit_or]
   simp[e]
   omega
def calls:Nat->Nat
 |0=>1
 |m+1=>1+12*(2*calls m)
end Go.Proofs.YtaofjdoielmobaaDoor.His
