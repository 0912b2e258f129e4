/- Of the proof of StackKeeps. Part 20 of 33. (Joined, by program, and written short, of: GNow, KpB, StCa, StPk.) -/
import Derived.Test.YtbbhahigofeacaaDoorStackKeeps05
import Derived.Test.YtbbhahigofeacaaDoorStackKeeps09
import Derived.Test.YtbbhahigofeacaaDoorStackKeeps10
import Derived.Test.YtbbhahigofeacaaDoorStackKeeps16
import Derived.Test.YtbbhahigofeacaaDoorStackKeeps17
import Derived.Test.YtbbhahigofeacaaDoorStackKeeps19
set_option linter.unusedSimpArgs false
set_option linter.unusedVariables false
set_option maxHeartbeats 4000000
set_option maxRecDepth 100000
namespace Go.Proofs.YtbbhahigofeacaaDoor.Gen
open Go Go.Lift Go.Conc Go.RowKit
variable {mc:Mc}
structure Now (X:Fix mc) (z:Nat->Option Nat) (cont:Addr->Value) (Ch:Nat->Prop) (S0:TS) (K0:List (Nat×Int)) (v0:World) (Mo0 Mo:Nat->Option Obj) (σ:TS) (κ:List (Nat×Int)) (S:TS) (v w:World) (t:Thr):Prop where
 at_:At X z cont Ch S κ v w t
 evo:EvoP (fun b=>Mo0 b≠none) z S0 K0 v0 S κ v
 nv:nv S=σ
 bk:S.bk=S0.bk
 mo:Has Mo v
 far:∀ b,Mo b≠none->¬ Own S κ b
 new:∀ b,Mo b≠none->Mo0 b≠none∨v0.heap.size≤b
 row:∀ b o,Mo b=some o->∃ c e f,o=.cells c e f
section
variable {X:Fix mc}{z:Nat->Option Nat}{cont:Addr->Value}{Ch:Nat->Prop}{Stop:Goroutine->World->Prop}{cu:Value->Goroutine}{S0:TS}{K0:List (Nat×Int)}{v0:World}{Mo0 Mo:Nat->Option Obj}{σ:TS}{κ:List (Nat×Int)}{S:TS}{v w:World}{t:Thr}{H:Nx->(Nat->Option Obj)->Goroutine->Prop}
theorem Now.good (N:Now X z cont Ch S0 K0 v0 Mo0 Mo σ κ S v w t) {x:Nx}(hx:∀ e y,x≠.ans e y):Good v0 Mo0 x Mo:=⟨hx,N.new,N.row⟩
theorem Now.on (N:Now X z cont Ch S0 K0 v0 Mo0 Mo σ κ S v w t) {S' σ':TS}{κ':List (Nat×Int)}{v' w':World}{t':Thr}(e:Evo z S κ v S' κ' v') (r:Rel z v' w') (n:Ah Ch v') (hS:Gen.nv S'=σ') (ht:S'.thr[X.i]? = some t') (htb:t'.tb=X.tb) (hgc:t'.gc=X.gc) (hbk:S'.bk=S.bk) (hok:KOk mc κ'):Now X z cont Ch S0 K0 v0 Mo0 Mo σ' κ' S' v' w' t':=by
 have kp:∀ b,b<v.heap.size->¬ Own S κ b->v'.heap[b]? = v.heap[b]?∧¬ Own S' κ' b:=fun b hb ho=>(Evo.toP (Pr:=fun _=>False) e).keeps hb ho (fun h=>h)
 have km:∀ (M:Nat->Option Obj),Has M v->(∀ b,M b≠none->¬ Own S κ b)->Has M v'∧∀ b,M b≠none->¬ Own S' κ' b:=fun M hM hf=>by
  have h1:∀ b o,M b=some o->v'.heap[b]? = v.heap[b]?∧¬ Own S' κ' b:=fun b o hb=>kp b (Array.getElem?_eq_some_iff.1 (hM b o hb)).1 (hf b (by rw[hb];simp))
  refine ⟨fun b o hb=>by rw[(h1 b o hb).1];exact hM b o hb,fun b hb=>?_⟩
  obtain ⟨o,ho⟩:=Option.ne_none_iff_exists'.1 hb
  exact (h1 b o ho).2
 have k1:=km X.pk N.at_.pk N.at_.far
 have k2:=km Mo N.mo N.far
 exact ⟨⟨r,n,e.mem,ht,htb,hgc,⟨e.blks.trans N.at_.kb.1,hok⟩,N.at_.z,N.at_.cont,k1.1,k1.2⟩,N.evo.trans (Evo.toP e),hS,hbk.trans N.bk,k2.1,k2.2,N.new,N.row⟩
theorem Now.same (N:Now X z cont Ch S0 K0 v0 Mo0 Mo σ κ S v w t) {v' w':World}(r:Rel z v' w') (n:Ah Ch v') (e1:v'.heap=v.heap) (e2:v'.os=v.os) (e3:v'.output=v.output):Now X z cont Ch S0 K0 v0 Mo0 Mo σ κ S v' w' t :=
 N.on (N.at_.mem.grows ⟨by rw[e1];exact Nat.le_refl _,fun b _=>by rw[e1],e2,e3⟩) r n N.nv N.at_.thr N.at_.tb N.at_.gc rfl N.at_.kb.2
theorem Now.here (A:At X z cont Ch S κ v w t) (hm:Has Mo v) (hf:∀ b,Mo b≠none->¬ Own S κ b) (hr:∀ b o,Mo b=some o->∃ c e f,o=.cells c e f):Now X z cont Ch S κ v Mo Mo (Gen.nv S) κ S v w t :=
 ⟨A,Evo.toP (A.mem.grows ⟨Nat.le_refl _,fun _ _=>rfl,rfl,rfl⟩),rfl,rfl,hm,hf,fun b hb=>.inl hb,hr⟩
theorem Now.cell (N:Now X z cont Ch S0 K0 v0 Mo0 Mo σ κ S v w t) {j cb:Nat}(h:X.kb[j]? = some cb):κ[j]? = some (cb,(cellAt κ j).2)∧cellAt κ j=(cb,(cellAt κ j).2):=by
 rw[←N.at_.kb.1,List.getElem?_map,Option.map_eq_some_iff] at h
 obtain ⟨p,h1,rfl⟩:=h
 have:cellAt κ j=p:=by unfold cellAt;rw[h1];rfl
 rw[this]
 exact ⟨h1,rfl⟩
theorem D6 {op:Int}{j:Nat}{q:Q}(hob:Ob X H z cont Ch Stop cu S0 K0 v0 Mo0 σ κ (.turn op j q)) (N:Now X z cont Ch S0 K0 v0 Mo0 Mo σ κ S v w t) (g:Goroutine) (w':World) (hg:E5 z cont X.h S.bk t.gc (H (.turn op j q) Mo) (Then z Ch S κ v (waiting S X.i t 1 op j) κ) g w'):Stop g w':=by
 refine hob.seat 1 op j (.inl ⟨⟨q,rfl⟩,rfl⟩) g w' Mo (N.good (fun _ _ h=>by cases h)) ?_
 rw[N.at_.gc,N.bk] at hg
 refine Jl (fun hF=>?_) hg
 obtain ⟨v',r,n,e⟩:=hF
 have N':=N.on e r n rfl (t':={ t with st:=1,op:=op,ce:=j,se:=_ }) (List.getElem?_set_self (List.getElem?_eq_some_iff.1 N.at_.thr).1) N.at_.tb N.at_.gc rfl N.at_.kb.2
 refine ⟨v',_,r,n,?_,N'.evo,N'.mo,N'.far⟩
 rw[←N.nv,show thrI (Gen.nv S) X.i=t from Ej N.at_.thr]
 rfl
end
structure Frs where
 bd:Frame
 ad:Act
 od:Array Oper
 qd:Nat
 rd:List Nat
 oe:Oper
 kd:List Item
 fs:List Frame
def Frs.stack (f:Frs):List Frame:=f.bd.at f.ad (.inRegion f.od (f.qd :: f.rd) :: f.kd) :: f.fs
def Frs.ret (f:Frs) (r:Value):Goroutine:=G (f.bd.at (f.ad.put f.oe.dst r) (.inRegion f.od f.rd :: f.kd)) f.fs
def Frs.Ok (f:Frs):Prop:=f.od[f.qd]? = some f.oe
end Go.Proofs.YtbbhahigofeacaaDoor.Gen
namespace Go.Proofs.YtbbhahigofeacaaDoor.Gen
open Go Go.Lift Go.Conc Go.RowKit
open R1 (fstI verI hdI)
def CBack {α:Type}(main:Bool) (pb:Nat) (enc:α->Value) (f:α->Int×Int) (cu:Value->Goroutine) (cl:Value->Goroutine):Prop :=
 ∀ (z:Nat->Option Nat) (Ch:Nat->Prop) (Stop:Goroutine->World->Prop) (w v:World) (S:TS) (K:List (Nat×Int)) (x:α),Rel z v w->Ah Ch v->Mem z S K v->v.heap[pb]? = some (.cells #[I 0,I 0] 48 (0,0))->¬ Own S K pb ->
   (∀ v' w',Rel z v' w'->Ah Ch v'->EvoP (· = pb) z S K v S K v'->GoesI Tryd.prog main (DT (ScZ z) Ch) Stop (cl (.agg #[I (f x).1,I (f x).2])) w') ->
   GoesI Tryd.prog main (DT (ScZ z) Ch) Stop (cu (enc x)) w
noncomputable def c520:Code:=seq1 (Tryd.f52.body.getD .skip)
theorem fine_c520:A7 Tryd.prog true LT c520:=Dc Ci extT (by kernel_rfl)
theorem call_push {z:Nat->Option Nat}{Ch:Nat->Prop}{Stop:Goroutine->World->Prop}{main:Bool}{v w:World}{c tb:Nat}(ca cb cc:Int) (cs:List Frame) {bc:Frame}{ac:Act}{ops:Array Oper}{q:Nat}{rest:List Nat}{oc:Oper}{k:List Item}(hoc:ops[q]? = some oc)
 (hvw:Rel z v w) (hn:Ah Ch v)
 (hstop:∀ v' w' (bd:Frame) (ad:Act) (od:Array Oper) (qd:Nat) (rd:List Nat) (oe:Oper) (kd:List Item),Rel z v' w'->Ah Ch v'->Grows v v'->v'.heap[v.heap.size+1]? = some (.cells #[I 0,I 0] 48 (0,0))->od[qd]? = some oe ->
   CBack main (v.heap.size+1) (fun e:Int=>I e) (fun e=>(e,0)) (fun r=>G (bd.at (ad.put oe.dst r) (.inRegion od rd :: kd)) (bc.at ac (.inRegion ops (q :: rest) :: k) :: cs)) (fun r=>G (bc.at (ac.put oc.dst r) (.inRegion ops rest :: k)) cs)->∀ code,Tryd.f50.body=some code ->
   GoesI Tryd.prog main (DT (ScZ z) Ch) Stop (G ((base 50).at { tmps:=#[Pt c 0,Pt tb 0,I ca]++Array.replicate 56 undef,defers:=[] } [.code code]) (bd.at ad (.inRegion od (qd :: rd) :: kd) :: bc.at ac (.inRegion ops (q :: rest) :: k) :: cs)) w') (code:Code) (hc:Tryd.f52.body=some code) :
 GoesI Tryd.prog main (DT (ScZ z) Ch) Stop (G ((base 52).at { tmps:=#[Pt c 0,Pt tb 0,.agg #[I 1,I ca,I cb,I cc]]++Array.replicate 28 undef,defers:=[] } [.code code]) (bc.at ac (.inRegion ops (q :: rest) :: k) :: cs)) w:=by
 have hw0:code=.seq c520 (seq2 (Tryd.f52.body.getD .skip)):=by
  rw[show code=Tryd.f52.body.getD .skip by rw[hc];rfl];rfl
 subst hw0
 clear hc
 refine Ac (Aa _ _) ?_
 refine Ba (z:=z) (wr:=true) (L:=LT) (I:=Ah Ch) hE Di Az (fun v v' w w' es hi hr ho he=>Bq v v' w w' es hi hr ho he) hvw fine_c520 rfl (by simp[base]) hn
  (Q:=fun a w'=>a={ tmps:=#[Pt c 0,Pt tb 0,.agg #[I 1,I ca,I cb,I cc],undef,undef,Pt v.heap.size 0,Pt (v.heap.size+1) 0]++Array.replicate 24 undef,defers:=[] } ∧
    w'.heap=(v.heap.push (.cells #[I 1,I ca,I cb,I cc] 50)).push (.cells #[I 0,I 0] 48)∧w'.os=v.os∧w'.output=v.output) (fun τ=>?_) ?_
 ·show Code.wp Tryd.prog (seq1 (Tryd.f52.body.getD .skip)) _ _ _
  unfold Tryd.f52 seq1
  simp only[Option.getD_some,Array.replicate_succ,Array.replicate_zero,List.push_toArray,List.append_toArray,List.nil_append,List.cons_append]
  go_wp2_with fail
  exact ⟨rfl,rfl,rfl,rfl⟩
 rintro a' v' w' ⟨rfl,hv1,hv2,hv3⟩ hr' hn' -
 have hsz:v'.heap.size=v.heap.size+2:=by rw[hv1];simp
 have hg:Grows v v':=⟨by omega,fun b hb=>by rw[hv1,Array.getElem?_push,if_neg (by simp;omega),Array.getElem?_push,if_neg (by omega)],hv2,hv3⟩
 have hbox:v'.heap[v.heap.size]? = some (.cells #[I 1,I ca,I cb,I cc] 50):=by rw[hv1,Array.getElem?_push,if_neg (by simp)];exact Array.getElem?_push_size
 have hans:v'.heap[v.heap.size+1]? = some (.cells #[I 0,I 0] 48):=by rw[hv1,Array.getElem?_push,if_pos (by simp)]
 have b0:w'.cell? ⟨v.heap.size,0,none⟩=some (I 1):=by rw[hr'.cell?];simp[World.cell?,hbox]
 have b1:w'.cell? ⟨v.heap.size,1,none⟩=some (I ca):=by rw[hr'.cell?];simp[World.cell?,hbox]
 have HV:Hid (Grows v v'∧v'.heap[v.heap.size+1]? = some (.cells #[I 0,I 0] 48)∧Ah Ch v'∧Rel z v' w'):=⟨⟨hg,hans,hn',hr'⟩⟩
 clear hv1 hv2 hv3 hsz hg hbox hans hn' hvw hn hr'
 generalize hN:v.heap.size=N at b0 b1 HV hstop ⊢
 simp only[Array.replicate_succ,Array.replicate_zero,List.push_toArray,List.append_toArray,List.nil_append,List.cons_append]
 show GoesI Tryd.prog main (DT (ScZ z) Ch) Stop (G ((base 52).at _ [.code (seq2 (Tryd.f52.body.getD .skip))]) _) w'
 unfold Tryd.f52 seq2
 simp only[Option.getD_some]
 refine Ac (Aa _ _) ?_
 refine Ac (Aa _ _) ?_
 refine Ae (Aa _ _) ?_
 simp only[List.size_toArray,List.length_cons,List.length_nil,Nat.reduceAdd,Nat.zero_add,List.range,List.range.loop]
 iterate 2
  (refine Ad rfl rfl (by decide) (fun d K hK=>?_)
   go_simp
   refine hK _ _ ⟨Af (fun e he=>?_),GoesI.at ?_ d⟩
   ·have hm:=mem_listed he
    simp[go_sem, *] at hm
    try exact ⟨_,_,hm⟩
    try (rcases hm with rfl|rfl<;>exact ⟨_,_,rfl⟩)
   clear hK K)
 refine Ab (Aa _ _) ?_
 refine Bm (Aa _ _) ?_
 refine Ac (Aa _ _) ?_
 refine Ae (Aa _ _) ?_
 simp only[List.size_toArray,List.length_cons,List.length_nil,Nat.reduceAdd,Nat.zero_add,List.range,List.range.loop]
 iterate 2
  (refine Ad rfl rfl (by decide) (fun d K hK=>?_)
   go_simp
   refine hK _ _ ⟨Af (fun e he=>?_),GoesI.at ?_ d⟩
   ·have hm:=mem_listed he
    simp[go_sem, *] at hm
    try exact ⟨_,_,hm⟩
    try (rcases hm with rfl|rfl<;>exact ⟨_,_,rfl⟩)
   clear hK K)
 refine Ab (Aa _ _) ?_
 refine Ax (Aa _ _) (t:=true) (by simp[Act.eval]) ?_
 simp only[if_true,if_false,Bool.false_eq_true]
 refine Ac (Aa _ _) ?_
 refine Ae (Aa _ _) ?_
 simp only[List.size_toArray,List.length_cons,List.length_nil,Nat.reduceAdd,Nat.zero_add,List.range,List.range.loop]
 iterate 4
  (refine Ad rfl rfl (by decide) (fun d K hK=>?_)
   go_simp
   refine hK _ _ ⟨Af (fun e he=>?_),GoesI.at ?_ d⟩
   ·have hm:=mem_listed he
    simp[go_sem, *] at hm
    try exact ⟨_,_,hm⟩
    try (rcases hm with rfl|rfl<;>exact ⟨_,_,rfl⟩)
   clear hK K)
 refine Ao (f:=50) (fn:=Tryd.f50) (args:=#[Pt c 0,Pt tb 0,I ca]) (Aa _ _) rfl rfl (by decide) rfl (by simp[Act.eval]) Tryd.func50 (by decide) rfl ?_
 refine hstop v' w' _ _ _ _ _ _ _ HV.out.2.2.2 HV.out.2.2.1 HV.out.1 HV.out.2.1 rfl ?_ _ rfl
 clear b0 b1 HV hstop
 intro z1 Ch1 St w2 v2 S1 K1 x r2 n2 m2 hpb2 hown2 hk
 have q0:v2.cell? ⟨N+1,0,none⟩=some (I 0):=by simp[World.cell?,hpb2]
 have q1:v2.cell? ⟨N+1,1,none⟩=some (I 0):=by simp[World.cell?,hpb2]
 have p0:v2.frozen? ⟨N+1,0,none⟩=false:=by simp[World.frozen?,hpb2]
 have p1:v2.frozen? ⟨N+1,1,none⟩=false:=by simp[World.frozen?,hpb2]
 have e3:=m2.other (v':=(v2.setCell ⟨N+1,0,none⟩ (I x)).setCell ⟨N+1,1,none⟩ (I 0)) hown2 (fun b hb=>by rw[Below.heap_setCell _ _ _ _ hb,Below.heap_setCell _ _ _ _ hb]) (by simp[World.setCell]) rfl rfl
 have hrow:((v2.setCell ⟨N+1,0,none⟩ (I x)).setCell ⟨N+1,1,none⟩ (I 0)).heap[N+1]? = some (.cells #[I x,I 0] 48 (0,0)):=by
  have:=heap_setCell_same (o:=1) (heap_setCell_same (o:=0) hpb2 (I x)) (I 0)
  simpa using this
 have HM:Hid (Mem z1 S1 K1 v2∧v2.heap[N+1]? = some (.cells #[I 0,I 0] 48 (0,0))):=⟨⟨m2,hpb2⟩⟩
 clear m2 hpb2
 show GoesI Tryd.prog main (DT (ScZ z1) Ch1) St _ w2
 walk_nrm
 iterate 1
  (refine Ad rfl rfl (by decide) (fun d K hK=>?_)
   go_simp
   refine hK _ _ ⟨Af (fun e he=>?_),GoesI.at ?_ d⟩
   ·have hm:=mem_listed he
    simp[go_sem, *] at hm
    try exact ⟨_,_,hm⟩
    try (rcases hm with rfl|rfl<;>exact ⟨_,_,rfl⟩)
   clear hK K)
 refine Ew (L:=LT) rfl rfl (by decide) (Bg Ci extT (by kernel_rfl)) r2 n2 (v':=(v2.setCell ⟨N+1,0,none⟩ (I x)).setCell ⟨N+1,1,none⟩ (I 0)) (by go_simp) rfl (fun w3 r3 n3=>?_)
 refine Ab (Aa _ _) ?_
 refine GoesI.ctl rfl (fun _=>stepG_ret') (Aa _ _) ?_
 refine B7 (f:=52) (fn:=Tryd.f52) (x:=.agg #[I x,I 0]) r3 n3 Tryd.func52 rfl hoc ?_ (fun w' r'=>hk _ w' r' n3 e3)
 generalize ((v2.setCell ⟨N+1,0,none⟩ (I x)).setCell ⟨N+1,1,none⟩ (I 0))=V at hrow
 have k0:V.cell? ⟨N+1,0,none⟩=some (I x):=by simp[World.cell?,hrow]
 have k1:V.cell? ⟨N+1,1,none⟩=some (I 0):=by simp[World.cell?,hrow]
 simp[results,go_sem,Tryd.f52, *]
theorem call_pop {z:Nat->Option Nat}{Ch:Nat->Prop}{Stop:Goroutine->World->Prop}{main:Bool}{v w:World}{c tb:Nat}(ca cb cc:Int) (cs:List Frame) {bc:Frame}{ac:Act}{ops:Array Oper}{q:Nat}{rest:List Nat}{oc:Oper}{k:List Item}(hoc:ops[q]? = some oc)
 (hvw:Rel z v w) (hn:Ah Ch v)
 (hstop:∀ v' w' (bd:Frame) (ad:Act) (od:Array Oper) (qd:Nat) (rd:List Nat) (oe:Oper) (kd:List Item),Rel z v' w'->Ah Ch v'->Grows v v'->v'.heap[v.heap.size+1]? = some (.cells #[I 0,I 0] 48 (0,0))->od[qd]? = some oe ->
   CBack main (v.heap.size+1) (fun p:Int×Int=>.tuple #[I p.1,I p.2]) (fun p=>(p.2,p.1)) (fun r=>G (bd.at (ad.put oe.dst r) (.inRegion od rd :: kd)) (bc.at ac (.inRegion ops (q :: rest) :: k) :: cs)) (fun r=>G (bc.at (ac.put oc.dst r) (.inRegion ops rest :: k)) cs)->∀ code,Tryd.f51.body=some code ->
   GoesI Tryd.prog main (DT (ScZ z) Ch) Stop (G ((base 51).at { tmps:=#[Pt c 0,Pt tb 0]++Array.replicate 56 undef,defers:=[] } [.code code]) (bd.at ad (.inRegion od (qd :: rd) :: kd) :: bc.at ac (.inRegion ops (q :: rest) :: k) :: cs)) w') (code:Code) (hc:Tryd.f52.body=some code) :
 GoesI Tryd.prog main (DT (ScZ z) Ch) Stop (G ((base 52).at { tmps:=#[Pt c 0,Pt tb 0,.agg #[I 2,I ca,I cb,I cc]]++Array.replicate 28 undef,defers:=[] } [.code code]) (bc.at ac (.inRegion ops (q :: rest) :: k) :: cs)) w:=by
 have hw0:code=.seq c520 (seq2 (Tryd.f52.body.getD .skip)):=by
  rw[show code=Tryd.f52.body.getD .skip by rw[hc];rfl];rfl
 subst hw0
 clear hc
 refine Ac (Aa _ _) ?_
 refine Ba (z:=z) (wr:=true) (L:=LT) (I:=Ah Ch) hE Di Az (fun v v' w w' es hi hr ho he=>Bq v v' w w' es hi hr ho he) hvw fine_c520 rfl (by simp[base]) hn
  (Q:=fun a w'=>a={ tmps:=#[Pt c 0,Pt tb 0,.agg #[I 2,I ca,I cb,I cc],undef,undef,Pt v.heap.size 0,Pt (v.heap.size+1) 0]++Array.replicate 24 undef,defers:=[] } ∧
    w'.heap=(v.heap.push (.cells #[I 2,I ca,I cb,I cc] 50)).push (.cells #[I 0,I 0] 48)∧w'.os=v.os∧w'.output=v.output) (fun τ=>?_) ?_
 ·show Code.wp Tryd.prog (seq1 (Tryd.f52.body.getD .skip)) _ _ _
  unfold Tryd.f52 seq1
  simp only[Option.getD_some,Array.replicate_succ,Array.replicate_zero,List.push_toArray,List.append_toArray,List.nil_append,List.cons_append]
  go_wp2_with fail
  exact ⟨rfl,rfl,rfl,rfl⟩
 rintro a' v' w' ⟨rfl,hv1,hv2,hv3⟩ hr' hn' -
 have hsz:v'.heap.size=v.heap.size+2:=by rw[hv1];simp
 have hg:Grows v v':=⟨by omega,fun b hb=>by rw[hv1,Array.getElem?_push,if_neg (by simp;omega),Array.getElem?_push,if_neg (by omega)],hv2,hv3⟩
 have hbox:v'.heap[v.heap.size]? = some (.cells #[I 2,I ca,I cb,I cc] 50):=by rw[hv1,Array.getElem?_push,if_neg (by simp)];exact Array.getElem?_push_size
 have hans:v'.heap[v.heap.size+1]? = some (.cells #[I 0,I 0] 48):=by rw[hv1,Array.getElem?_push,if_pos (by simp)]
 have b0:w'.cell? ⟨v.heap.size,0,none⟩=some (I 2):=by rw[hr'.cell?];simp[World.cell?,hbox]
 have b1:w'.cell? ⟨v.heap.size,1,none⟩=some (I ca):=by rw[hr'.cell?];simp[World.cell?,hbox]
 have HV:Hid (Grows v v'∧v'.heap[v.heap.size+1]? = some (.cells #[I 0,I 0] 48)∧Ah Ch v'∧Rel z v' w'):=⟨⟨hg,hans,hn',hr'⟩⟩
 clear hv1 hv2 hv3 hsz hg hbox hans hn' hvw hn hr'
 generalize hN:v.heap.size=N at b0 b1 HV hstop ⊢
 simp only[Array.replicate_succ,Array.replicate_zero,List.push_toArray,List.append_toArray,List.nil_append,List.cons_append]
 show GoesI Tryd.prog main (DT (ScZ z) Ch) Stop (G ((base 52).at _ [.code (seq2 (Tryd.f52.body.getD .skip))]) _) w'
 unfold Tryd.f52 seq2
 simp only[Option.getD_some]
 refine Ac (Aa _ _) ?_
 refine Ac (Aa _ _) ?_
 refine Ae (Aa _ _) ?_
 simp only[List.size_toArray,List.length_cons,List.length_nil,Nat.reduceAdd,Nat.zero_add,List.range,List.range.loop]
 iterate 2
  (refine Ad rfl rfl (by decide) (fun d K hK=>?_)
   go_simp
   refine hK _ _ ⟨Af (fun e he=>?_),GoesI.at ?_ d⟩
   ·have hm:=mem_listed he
    simp[go_sem, *] at hm
    try exact ⟨_,_,hm⟩
    try (rcases hm with rfl|rfl<;>exact ⟨_,_,rfl⟩)
   clear hK K)
 refine Ab (Aa _ _) ?_
 refine Bm (Aa _ _) ?_
 refine Ac (Aa _ _) ?_
 refine Ae (Aa _ _) ?_
 simp only[List.size_toArray,List.length_cons,List.length_nil,Nat.reduceAdd,Nat.zero_add,List.range,List.range.loop]
 iterate 2
  (refine Ad rfl rfl (by decide) (fun d K hK=>?_)
   go_simp
   refine hK _ _ ⟨Af (fun e he=>?_),GoesI.at ?_ d⟩
   ·have hm:=mem_listed he
    simp[go_sem, *] at hm
    try exact ⟨_,_,hm⟩
    try (rcases hm with rfl|rfl<;>exact ⟨_,_,rfl⟩)
   clear hK K)
 refine Ab (Aa _ _) ?_
 refine Ax (Aa _ _) (t:=false) (by simp[Act.eval]) ?_
 simp only[if_true,if_false,Bool.false_eq_true]
 refine Ac (Aa _ _) ?_
 refine Ae (Aa _ _) ?_
 simp only[List.size_toArray,List.length_cons,List.length_nil,Nat.reduceAdd,Nat.zero_add,List.range,List.range.loop]
 iterate 2
  (refine Ad rfl rfl (by decide) (fun d K hK=>?_)
   go_simp
   refine hK _ _ ⟨Af (fun e he=>?_),GoesI.at ?_ d⟩
   ·have hm:=mem_listed he
    simp[go_sem, *] at hm
    try exact ⟨_,_,hm⟩
    try (rcases hm with rfl|rfl<;>exact ⟨_,_,rfl⟩)
   clear hK K)
 refine Ab (Aa _ _) ?_
 refine Ax (Aa _ _) (t:=true) (by simp[Act.eval]) ?_
 simp only[if_true,if_false,Bool.false_eq_true]
 refine Ac (Aa _ _) ?_
 refine Ae (Aa _ _) ?_
 simp only[List.size_toArray,List.length_cons,List.length_nil,Nat.reduceAdd,Nat.zero_add,List.range,List.range.loop]
 iterate 2
  (refine Ad rfl rfl (by decide) (fun d K hK=>?_)
   go_simp
   refine hK _ _ ⟨Af (fun e he=>?_),GoesI.at ?_ d⟩
   ·have hm:=mem_listed he
    simp[go_sem, *] at hm
    try exact ⟨_,_,hm⟩
    try (rcases hm with rfl|rfl<;>exact ⟨_,_,rfl⟩)
   clear hK K)
 refine Ao (f:=51) (fn:=Tryd.f51) (args:=#[Pt c 0,Pt tb 0]) (Aa _ _) rfl rfl (by decide) rfl (by simp[Act.eval]) Tryd.func51 (by decide) rfl ?_
 refine hstop v' w' _ _ _ _ _ _ _ HV.out.2.2.2 HV.out.2.2.1 HV.out.1 HV.out.2.1 rfl ?_ _ rfl
 clear b0 b1 HV hstop
 intro z1 Ch1 St w2 v2 S1 K1 x r2 n2 m2 hpb2 hown2 hk
 obtain ⟨x,e⟩:=x
 have q0:v2.cell? ⟨N+1,0,none⟩=some (I 0):=by simp[World.cell?,hpb2]
 have q1:v2.cell? ⟨N+1,1,none⟩=some (I 0):=by simp[World.cell?,hpb2]
 have p0:v2.frozen? ⟨N+1,0,none⟩=false:=by simp[World.frozen?,hpb2]
 have p1:v2.frozen? ⟨N+1,1,none⟩=false:=by simp[World.frozen?,hpb2]
 have e3:=m2.other (v':=(v2.setCell ⟨N+1,0,none⟩ (I e)).setCell ⟨N+1,1,none⟩ (I x)) hown2 (fun b hb=>by rw[Below.heap_setCell _ _ _ _ hb,Below.heap_setCell _ _ _ _ hb]) (by simp[World.setCell]) rfl rfl
 have hrow:((v2.setCell ⟨N+1,0,none⟩ (I e)).setCell ⟨N+1,1,none⟩ (I x)).heap[N+1]? = some (.cells #[I e,I x] 48 (0,0)):=by
  have:=heap_setCell_same (o:=1) (heap_setCell_same (o:=0) hpb2 (I e)) (I x)
  simpa using this
 have HM:Hid (Mem z1 S1 K1 v2∧v2.heap[N+1]? = some (.cells #[I 0,I 0] 48 (0,0))):=⟨⟨m2,hpb2⟩⟩
 clear m2 hpb2
 show GoesI Tryd.prog main (DT (ScZ z1) Ch1) St _ w2
 walk_nrm
 iterate 5
  (refine Ad rfl rfl (by decide) (fun d K hK=>?_)
   go_simp
   refine hK _ _ ⟨Af (fun e he=>?_),GoesI.at ?_ d⟩
   ·have hm:=mem_listed he
    simp[go_sem, *] at hm
    try exact ⟨_,_,hm⟩
    try (rcases hm with rfl|rfl<;>exact ⟨_,_,rfl⟩)
   clear hK K)
 refine Ab (Aa _ _) ?_
 refine Ac (Aa _ _) ?_
 refine Ae (Aa _ _) ?_
 simp only[List.size_toArray,List.length_cons,List.length_nil,Nat.reduceAdd,Nat.zero_add,List.range,List.range.loop]
 iterate 3
  (refine Ad rfl rfl (by decide) (fun d K hK=>?_)
   go_simp
   refine hK _ _ ⟨Af (fun e he=>?_),GoesI.at ?_ d⟩
   ·have hm:=mem_listed he
    simp[go_sem, *] at hm
    try exact ⟨_,_,hm⟩
    try (rcases hm with rfl|rfl<;>exact ⟨_,_,rfl⟩)
   clear hK K)
 refine Ew (L:=LT) rfl rfl (by decide) (Bg Ci extT (by kernel_rfl)) r2 n2 (v':=(v2.setCell ⟨N+1,0,none⟩ (I e)).setCell ⟨N+1,1,none⟩ (I x)) (by go_simp) rfl (fun w3 r3 n3=>?_)
 refine Ab (Aa _ _) ?_
 refine GoesI.ctl rfl (fun _=>stepG_ret') (Aa _ _) ?_
 refine B7 (f:=52) (fn:=Tryd.f52) (x:=.agg #[I e,I x]) r3 n3 Tryd.func52 rfl hoc ?_ (fun w' r'=>hk _ w' r' n3 e3)
 generalize ((v2.setCell ⟨N+1,0,none⟩ (I e)).setCell ⟨N+1,1,none⟩ (I x))=V at hrow
 have k0:V.cell? ⟨N+1,0,none⟩=some (I e):=by simp[World.cell?,hrow]
 have k1:V.cell? ⟨N+1,1,none⟩=some (I x):=by simp[World.cell?,hrow]
 simp[results,go_sem,Tryd.f52, *]
theorem call_none {z:Nat->Option Nat}{Ch:Nat->Prop}{Stop:Goroutine->World->Prop}{main:Bool}{v w:World}{c tb:Nat}(ca cb cc:Int) (cs:List Frame) {bc:Frame}{ac:Act}{ops:Array Oper}{q:Nat}{rest:List Nat}{oc:Oper}{k:List Item}(hoc:ops[q]? = some oc)
 (hvw:Rel z v w) (hn:Ah Ch v) (po:Int) (h1:po≠1) (h2:po≠2)
 (hstop:∀ v' w',Rel z v' w'->Ah Ch v'->Grows v v'->v'.heap[v.heap.size+1]? = some (.cells #[I 1,I 0] 48 (0,0))->GoesI Tryd.prog main (DT (ScZ z) Ch) Stop (G (bc.at (ac.put oc.dst (.agg #[I 1,I 0])) (.inRegion ops rest :: k)) cs) w') (code:Code) (hc:Tryd.f52.body=some code) :
 GoesI Tryd.prog main (DT (ScZ z) Ch) Stop (G ((base 52).at { tmps:=#[Pt c 0,Pt tb 0,.agg #[I po,I ca,I cb,I cc]]++Array.replicate 28 undef,defers:=[] } [.code code]) (bc.at ac (.inRegion ops (q :: rest) :: k) :: cs)) w:=by
 have hw0:code=.seq c520 (seq2 (Tryd.f52.body.getD .skip)):=by
  rw[show code=Tryd.f52.body.getD .skip by rw[hc];rfl];rfl
 subst hw0
 clear hc
 refine Ac (Aa _ _) ?_
 refine Ba (z:=z) (wr:=true) (L:=LT) (I:=Ah Ch) hE Di Az (fun v v' w w' es hi hr ho he=>Bq v v' w w' es hi hr ho he) hvw fine_c520 rfl (by simp[base]) hn
  (Q:=fun a w'=>a={ tmps:=#[Pt c 0,Pt tb 0,.agg #[I po,I ca,I cb,I cc],undef,undef,Pt v.heap.size 0,Pt (v.heap.size+1) 0]++Array.replicate 24 undef,defers:=[] } ∧
    w'.heap=(v.heap.push (.cells #[I po,I ca,I cb,I cc] 50)).push (.cells #[I 0,I 0] 48)∧w'.os=v.os∧w'.output=v.output) (fun τ=>?_) ?_
 ·show Code.wp Tryd.prog (seq1 (Tryd.f52.body.getD .skip)) _ _ _
  unfold Tryd.f52 seq1
  simp only[Option.getD_some,Array.replicate_succ,Array.replicate_zero,List.push_toArray,List.append_toArray,List.nil_append,List.cons_append]
  go_wp2_with fail
  exact ⟨rfl,rfl,rfl,rfl⟩
 rintro a' v' w' ⟨rfl,hv1,hv2,hv3⟩ hr' hn' -
 have hsz:v'.heap.size=v.heap.size+2:=by rw[hv1];simp
 have hg:Grows v v':=⟨by omega,fun b hb=>by rw[hv1,Array.getElem?_push,if_neg (by simp;omega),Array.getElem?_push,if_neg (by omega)],hv2,hv3⟩
 have hbox:v'.heap[v.heap.size]? = some (.cells #[I po,I ca,I cb,I cc] 50):=by rw[hv1,Array.getElem?_push,if_neg (by simp)];exact Array.getElem?_push_size
 have hans:v'.heap[v.heap.size+1]? = some (.cells #[I 0,I 0] 48):=by rw[hv1,Array.getElem?_push,if_pos (by simp)]
 have b0:w'.cell? ⟨v.heap.size,0,none⟩=some (I po):=by rw[hr'.cell?];simp[World.cell?,hbox]
 have b1:w'.cell? ⟨v.heap.size,1,none⟩=some (I ca):=by rw[hr'.cell?];simp[World.cell?,hbox]
 have HV:Hid (Grows v v'∧v'.heap[v.heap.size+1]? = some (.cells #[I 0,I 0] 48)∧Ah Ch v'∧Rel z v' w'):=⟨⟨hg,hans,hn',hr'⟩⟩
 clear hv1 hv2 hv3 hsz hg hbox hans hn' hvw hn hr'
 generalize hN:v.heap.size=N at b0 b1 HV hstop ⊢
 simp only[Array.replicate_succ,Array.replicate_zero,List.push_toArray,List.append_toArray,List.nil_append,List.cons_append]
 show GoesI Tryd.prog main (DT (ScZ z) Ch) Stop (G ((base 52).at _ [.code (seq2 (Tryd.f52.body.getD .skip))]) _) w'
 unfold Tryd.f52 seq2
 simp only[Option.getD_some]
 refine Ac (Aa _ _) ?_
 refine Ac (Aa _ _) ?_
 refine Ae (Aa _ _) ?_
 simp only[List.size_toArray,List.length_cons,List.length_nil,Nat.reduceAdd,Nat.zero_add,List.range,List.range.loop]
 iterate 2
  (refine Ad rfl rfl (by decide) (fun d K hK=>?_)
   go_simp
   refine hK _ _ ⟨Af (fun e he=>?_),GoesI.at ?_ d⟩
   ·have hm:=mem_listed he
    simp[go_sem, *] at hm
    try exact ⟨_,_,hm⟩
    try (rcases hm with rfl|rfl<;>exact ⟨_,_,rfl⟩)
   clear hK K)
 refine Ab (Aa _ _) ?_
 refine Bm (Aa _ _) ?_
 refine Ac (Aa _ _) ?_
 refine Ae (Aa _ _) ?_
 simp only[List.size_toArray,List.length_cons,List.length_nil,Nat.reduceAdd,Nat.zero_add,List.range,List.range.loop]
 iterate 2
  (refine Ad rfl rfl (by decide) (fun d K hK=>?_)
   go_simp
   refine hK _ _ ⟨Af (fun e he=>?_),GoesI.at ?_ d⟩
   ·have hm:=mem_listed he
    simp[go_sem, *] at hm
    try exact ⟨_,_,hm⟩
    try (rcases hm with rfl|rfl<;>exact ⟨_,_,rfl⟩)
   clear hK K)
 refine Ab (Aa _ _) ?_
 refine Ax (Aa _ _) (t:=false) (by simp[Act.eval,h1]) ?_
 simp only[if_true,if_false,Bool.false_eq_true]
 refine Ac (Aa _ _) ?_
 refine Ae (Aa _ _) ?_
 simp only[List.size_toArray,List.length_cons,List.length_nil,Nat.reduceAdd,Nat.zero_add,List.range,List.range.loop]
 iterate 2
  (refine Ad rfl rfl (by decide) (fun d K hK=>?_)
   go_simp
   refine hK _ _ ⟨Af (fun e he=>?_),GoesI.at ?_ d⟩
   ·have hm:=mem_listed he
    simp[go_sem, *] at hm
    try exact ⟨_,_,hm⟩
    try (rcases hm with rfl|rfl<;>exact ⟨_,_,rfl⟩)
   clear hK K)
 refine Ab (Aa _ _) ?_
 refine Ax (Aa _ _) (t:=false) (by simp[Act.eval,h2]) ?_
 simp only[if_true,if_false,Bool.false_eq_true]
 refine Bh (Aa _ _) ?_
 refine G6 (Aa _ _) ?_
 refine Ac (Aa _ _) ?_
 refine Ae (Aa _ _) ?_
 simp only[List.size_toArray,List.length_cons,List.length_nil,Nat.reduceAdd,Nat.zero_add,List.range,List.range.loop]
 obtain ⟨hg,hans,hn',hr'⟩:=HV.out
 have q0:v'.cell? ⟨N+1,0,none⟩=some (I 0):=by simp[World.cell?,hans]
 have q1:v'.cell? ⟨N+1,1,none⟩=some (I 0):=by simp[World.cell?,hans]
 have p0:v'.frozen? ⟨N+1,0,none⟩=false:=by simp[World.frozen?,hans]
 have p1:v'.frozen? ⟨N+1,1,none⟩=false:=by simp[World.frozen?,hans]
 have hrow:((v'.setCell ⟨N+1,0,none⟩ (I 1)).setCell ⟨N+1,1,none⟩ (I 0)).heap[N+1]? = some (.cells #[I 1,I 0] 48 (0,0)):=by
  have:=heap_setCell_same (o:=1) (heap_setCell_same (o:=0) hans (I 1)) (I 0)
  simpa using this
 have hg2:Grows v ((v'.setCell ⟨N+1,0,none⟩ (I 1)).setCell ⟨N+1,1,none⟩ (I 0)):=by
  refine ⟨by simp[World.setCell];exact hg.size,fun b hb=>?_,hg.os,hg.output⟩
  have hbN:b≠N+1:=by omega
  rw[Below.heap_setCell _ _ _ _ hbN,Below.heap_setCell _ _ _ _ hbN]
  exact hg.old b hb
 clear hg hans b0 b1 HV
 iterate 1
  (refine Ad rfl rfl (by decide) (fun d K hK=>?_)
   go_simp
   refine hK _ _ ⟨Af (fun e he=>?_),GoesI.at ?_ d⟩
   ·have hm:=mem_listed he
    simp[go_sem, *] at hm
    try exact ⟨_,_,hm⟩
    try (rcases hm with rfl|rfl<;>exact ⟨_,_,rfl⟩)
   clear hK K)
 refine Ew (L:=LT) rfl rfl (by decide) (Bg Ci extT (by kernel_rfl)) hr' hn' (v':=(v'.setCell ⟨N+1,0,none⟩ (I 1)).setCell ⟨N+1,1,none⟩ (I 0)) (by go_simp) rfl (fun w3 r3 n3=>?_)
 refine Ab (Aa _ _) ?_
 refine GoesI.ctl rfl (fun _=>stepG_ret') (Aa _ _) ?_
 refine B7 (f:=52) (fn:=Tryd.f52) (x:=.agg #[I 1,I 0]) r3 n3 Tryd.func52 rfl hoc ?_ (fun w' r'=>hstop _ w' r' n3 hg2 hrow)
 generalize ((v'.setCell ⟨N+1,0,none⟩ (I 1)).setCell ⟨N+1,1,none⟩ (I 0))=V at hrow
 have k0:V.cell? ⟨N+1,0,none⟩=some (I 1):=by simp[World.cell?,hrow]
 have k1:V.cell? ⟨N+1,1,none⟩=some (I 0):=by simp[World.cell?,hrow]
 simp[results,go_sem,Tryd.f52, *]
abbrev box0:Obj:=.cells #[I 0,I 0] 48 (0,0)
def boxO (pb:Nat):Nat->Option Obj:=fun b=>if b=pb then some box0 else none
theorem boxO_at (pb:Nat):boxO pb pb=some box0:=by unfold boxO;rw[if_pos rfl]
theorem boxO_eq {pb b:Nat}(h:boxO pb b≠none):b=pb:=by
 unfold boxO at h
 split at h
 ·assumption
 ·exact absurd rfl h
theorem boxO_row (pb:Nat):∀ b o,boxO pb b=some o->∃ c e f,o=.cells c e f:=fun b o h=>by
 unfold boxO at h
 split at h
 ·cases h;exact ⟨_,_,_,rfl⟩
 ·cases h
structure TMine (n:Nat) (X:Fix (mcT n)) (c s sb rb:Nat):Prop where
 caps:X.caps=#[Pt c 0]
 mem:∀ v,Has X.pk v->Stk v c s sb rb n X.kb∧R1.Flds v
abbrev FT (s tb:Nat) (a:Act):Prop:=Fl 48 [(0,Pt s 0),(1,Pt tb 0)] a
abbrev FT8 (s tb k:Nat) (x:Int) (a:Act):Prop:=Fl 48 [(0,Pt s 0),(1,Pt tb 0),(6,I x),(8,I k)] a
abbrev FT9 (s tb k:Nat) (x:Int) (a:Act):Prop:=Fl 48 [(0,Pt s 0),(1,Pt tb 0),(6,I x),(8,I k),(22,Pt s 0),(23,Pt tb 0),(24,I x)] a
abbrev FG (s tb k:Nat) (a:Act):Prop:=Fl 56 [(0,Pt s 0),(1,Pt tb 0),(2,I k)] a
abbrev FG7 (s tb k:Nat) (x:Int) (a:Act):Prop:=Fl 56 [(0,Pt s 0),(1,Pt tb 0),(2,I k),(7,I x)] a
abbrev FP (c tb:Nat) (x:Int) (a:Act):Prop:=Fl 59 [(0,Pt c 0),(1,Pt tb 0),(2,I x)] a
abbrev FP7 (c tb k:Nat) (x:Int) (a:Act):Prop:=Fl 59 [(0,Pt c 0),(1,Pt tb 0),(2,I x),(7,I k)] a
abbrev FP9 (c tb k:Nat) (x h0:Int) (a:Act):Prop:=Fl 59 [(0,Pt c 0),(1,Pt tb 0),(2,I x),(7,I k),(9,I h0)] a
abbrev FO (c tb:Nat) (a:Act):Prop:=Fl 58 [(0,Pt c 0),(1,Pt tb 0)] a
abbrev FO8 (c tb k:Nat) (x:Int) (a:Act):Prop:=Fl 58 [(0,Pt c 0),(1,Pt tb 0),(6,I x),(8,I k)] a
abbrev FOk (c tb k:Nat) (a:Act):Prop:=Fl 58 [(0,Pt c 0),(1,Pt tb 0),(8,I k)] a
abbrev FOv (c tb k:Nat) (y:Int) (a:Act):Prop:=Fl 58 [(0,Pt c 0),(1,Pt tb 0),(8,I k),(10,I y)] a
inductive PuSit (n:Nat) (X:Fix (mcT n)) (c s:Nat) (f:Frs):Int->Nat->Q->(Int->(Int×Int)×Int×Value)->(Value->Goroutine)->Prop
 |s1 {v:Int} {a ap:Act} (hA:FT s X.tb a) (hP:FP c X.tb v ap):PuSit n X c s f 1 0 (1,[v]) Bi (fun r=>G (Jr a r) (I6 ap :: f.stack))
 |s2 {v x:Int} {k:Nat} {a ap:Act} (hx:fstI x=(k:Int)+1) (hk:k<n) (hA:FT9 s X.tb k x a) (hP:FP c X.tb v ap):PuSit n X c s f 1 (nxJ k) (2,[v,x]) Bi (fun r=>G (tNext a r) (I6 ap :: f.stack))
 |s3 {v x y:Int} {k:Nat} {a ap ac:Act} (hx:fstI x=(k:Int)+1) (hk:k<n) (h0:0≤y) (h1:y≤n) (hA:FT8 s X.tb k x a) (hP:FP c X.tb v ap) (hC:Fl 22 [] ac):PuSit n X c s f 4 0 (3,[v,x,y]) (Bj x (hdI y (verI x+1))) (fun r=>G (ch46T ac r) (tTry a :: I6 ap :: f.stack))
 |s4 {v x:Int} {k:Nat} {a ap:Act} (hk:k<n) (hA:FT8 s X.tb k x a) (hP:FP c X.tb v ap):PuSit n X c s f 2 (usJ k) (4,[v,(k:Int)]) (Bo 1) (fun r=>G (tUsed a r) (I6 ap :: f.stack))
 |s5 {v:Int} {k:Nat} {ap:Act} (hk:k<n) (hP:FP7 c X.tb k v ap):PuSit n X c s f 2 (vlJ n k) (5,[v,(k:Int)]) (Bo v) (fun r=>G (pVal ap r) f.stack)
 |s6 {v:Int} {k:Nat} {ap:Act} (hk:k<n) (hP:FP7 c X.tb k v ap):PuSit n X c s f 1 (hdJ n) (6,[(k:Int)]) Bi (fun r=>G (pSeen ap r) f.stack)
 |s7 {v x:Int} {k:Nat} {ap:Act} (hk:k<n) (hx:fstI x≤n) (hP:FP9 c X.tb k v x ap):PuSit n X c s f 2 (lkJ n k) (7,[(k:Int),x]) (Bo (fstI x)) (fun r=>G (pLink ap r) f.stack)
 |s8 {v x:Int} {k:Nat} {ap ac:Act} (hk:k<n) (hP:FP9 c X.tb k v x ap) (hC:Fl 22 [] ac):PuSit n X c s f 4 (hdJ n) (8,[(k:Int),x]) (Bj x (hdI ((k:Int)+1) (verI x+1))) (fun r=>G (ch73T ac r) (pTry ap :: f.stack))
inductive PoSit (n:Nat) (X:Fix (mcT n)) (c s:Nat) (f:Frs):Int->Nat->Q->(Int->(Int×Int)×Int×Value)->(Value->Goroutine)->Prop
 |s11 {a:Act} (hA:FO c X.tb a):PoSit n X c s f 1 (hdJ n) (11,[]) Bi (fun r=>G (Jv a r) f.stack)
 |s12 {x:Int} {k:Nat} {a:Act} (hx:fstI x=(k:Int)+1) (hk:k<n) (hA:FO8 c X.tb k x a):PoSit n X c s f 1 (lkJ n k) (12,[x]) Bi (fun r=>G (oLink a r) f.stack)
 |s13 {x y:Int} {k:Nat} {a ac:Act} (hx:fstI x=(k:Int)+1) (hk:k<n) (h0:0≤y) (h1:y≤n) (hA:FO8 c X.tb k x a) (hC:Fl 22 [] ac):PoSit n X c s f 4 (hdJ n) (13,[x,y]) (Bj x (hdI y (verI x+1))) (fun r=>G (ch73T ac r) (oTry a :: f.stack))
 |s14 {k:Nat} {a:Act} (hk:k<n) (hA:FOk c X.tb k a):PoSit n X c s f 1 (vlJ n k) (14,[(k:Int)]) Bi (fun r=>G (oVal a r) f.stack)
 |s15 {y:Int} {k:Nat} {a ao:Act} (hk:k<n) (hA:FG s X.tb k a) (hO:FOv c X.tb k y ao):PoSit n X c s f 4 (usJ k) (15,[(k:Int),y]) (Bj 1 0) (fun r=>G (gUsed a r) (oGive ao :: f.stack))
 |s16 {y:Int} {k:Nat} {a ao:Act} (hk:k<n) (hA:FG s X.tb k a) (hO:FOv c X.tb k y ao):PoSit n X c s f 1 0 (16,[(k:Int),y]) Bi (fun r=>G (gSeen a r) (oGive ao :: f.stack))
 |s17 {x y:Int} {k:Nat} {a ao:Act} (hk:k<n) (hx:fstI x≤n) (hA:FG7 s X.tb k x a) (hO:FOv c X.tb k y ao):PoSit n X c s f 2 (nxJ k) (17,[(k:Int),y,x]) (Bo (fstI x)) (fun r=>G (gStored a r) (oGive ao :: f.stack))
 |s18 {x y:Int} {k:Nat} {a ao ac:Act} (hk:k<n) (hA:FG7 s X.tb k x a) (hO:FOv c X.tb k y ao) (hC:Fl 22 [] ac):PoSit n X c s f 4 0 (18,[(k:Int),y,x]) (Bj x (hdI ((k:Int)+1) (verI x+1))) (fun r=>G (ch46T ac r) (gTry a :: oGive ao :: f.stack))
abbrev encU (e:Int):Value:=I e
abbrev ansU (e:Int):Int×Int:=(e,0)
abbrev encO (p:Int×Int):Value:=.tuple #[I p.1,I p.2]
abbrev ansO (p:Int×Int):Int×Int:=(p.2,p.1)
def stSit (n:Nat) (X:Fix (mcT n)) (x:Nx) (Mo:Nat->Option Obj) (cu:Value->Goroutine) (g:Goroutine):Prop :=
 ∃ (c s sb rb pb:Nat) (f:Frs) (op:Int) (j:Nat) (q:Q) (cb:Nat) (eff:Int->(Int×Int)×Int×Value) (cl:Value->Goroutine),x=.turn op j q∧TMine n X c s sb rb∧f.Ok∧Mo=boxO pb∧X.kb[j]? = some cb∧D5 (X.h==0) X.i j cb X.tb op eff cl g ∧
   ((CBack (X.h==0) pb encU ansU f.ret cu∧PuSit n X c s f op j q eff cl)∨(CBack (X.h==0) pb encO ansO f.ret cu∧PoSit n X c s f op j q eff cl))
theorem sl_of {x:Int}{k:Nat}(h:fstI x=(k:Int)+1):slI x=k:=by unfold slI;omega
theorem fpos {x:Int}{k:Nat}(h:fstI x=(k:Int)+1):0<fstI x:=by omega
theorem fle {n:Nat}{x:Int}{k:Nat}(h:fstI x=(k:Int)+1) (hk:k<n):fstI x≤n:=by omega
theorem pu_at {n:Nat}{X:Fix (mcT n)}{c s:Nat}{f:Frs}{op:Int}{j:Nat}{q:Q}{eff:Int->(Int×Int)×Int×Value}{cl:Value->Goroutine}(h:PuSit n X c s f op j q eff cl):atT n q j:=by
 cases h with
 |s1 hA hP=>exact rfl
 |s2 hx hk hA hP=>exact ⟨fpos hx,fle hx hk,congrArg nxJ (sl_of hx).symm⟩
 |s3 hx hk h0 h1 hA hP hC=>exact ⟨fpos hx,fle hx hk,h0,h1,rfl⟩
 |s4 hk hA hP=>exact ⟨⟨by show (0:Int)≤((_:Nat):Int);omega,by show ((_:Nat):Int)<_;omega⟩,rfl⟩
 |s5 hk hP=>exact ⟨⟨by show (0:Int)≤((_:Nat):Int);omega,by show ((_:Nat):Int)<_;omega⟩,rfl⟩
 |s6 hk hP=>exact ⟨⟨by show (0:Int)≤((_:Nat):Int);omega,by show ((_:Nat):Int)<_;omega⟩,rfl⟩
 |s7 hk hx hP=>exact ⟨⟨by show (0:Int)≤((_:Nat):Int);omega,by show ((_:Nat):Int)<_;omega⟩,hx,rfl⟩
 |s8 hk hP hC=>exact ⟨⟨by show (0:Int)≤((_:Nat):Int);omega,by show ((_:Nat):Int)<_;omega⟩,rfl⟩
theorem po_at {n:Nat}{X:Fix (mcT n)}{c s:Nat}{f:Frs}{op:Int}{j:Nat}{q:Q}{eff:Int->(Int×Int)×Int×Value}{cl:Value->Goroutine}(h:PoSit n X c s f op j q eff cl):atT n q j:=by
 cases h with
 |s11 hA=>exact rfl
 |s12 hx hk hA=>exact ⟨fpos hx,fle hx hk,congrArg (lkJ n) (sl_of hx).symm⟩
 |s13 hx hk h0 h1 hA hC=>exact ⟨fpos hx,fle hx hk,h0,h1,rfl⟩
 |s14 hk hA=>exact ⟨⟨by show (0:Int)≤((_:Nat):Int);omega,by show ((_:Nat):Int)<_;omega⟩,rfl⟩
 |s15 hk hA hO=>exact ⟨⟨by show (0:Int)≤((_:Nat):Int);omega,by show ((_:Nat):Int)<_;omega⟩,rfl⟩
 |s16 hk hA hO=>exact ⟨⟨by show (0:Int)≤((_:Nat):Int);omega,by show ((_:Nat):Int)<_;omega⟩,rfl⟩
 |s17 hk hx hA hO=>exact ⟨⟨by show (0:Int)≤((_:Nat):Int);omega,by show ((_:Nat):Int)<_;omega⟩,hx,rfl⟩
 |s18 hk hA hO hC=>exact ⟨⟨by show (0:Int)≤((_:Nat):Int);omega,by show ((_:Nat):Int)<_;omega⟩,rfl⟩
theorem Hq (a y x:Int) (k1 k2:Nx):((Bj a y x).1,(Bj a y x).2.1)=((if x=a then put_ x y k1 else same x k2).1,(if x=a then put_ x y k1 else same x k2).2.1):=by
 unfold Bj
 by_cases h:x=a
 ·rw[if_pos h,if_pos h,h];rfl
 ·rw[if_neg h,if_neg h];rfl
theorem pu_eff {n:Nat}{X:Fix (mcT n)}{c s:Nat}{f:Frs}{op:Int}{j:Nat}{q:Q}{eff:Int->(Int×Int)×Int×Value}{cl:Value->Goroutine}(h:PuSit n X c s f op j q eff cl) (x:Int):((eff x).1,(eff x).2.1)=((Ai n q x).1,(Ai n q x).2.1):=by
 cases h with
 |s3 hx hk h0 h1 hA hP hC=>exact Hq _ _ _ _ _
 |s8 hk hP hC=>exact Hq _ _ _ _ _
 |_=>rfl
theorem po_eff {n:Nat}{X:Fix (mcT n)}{c s:Nat}{f:Frs}{op:Int}{j:Nat}{q:Q}{eff:Int->(Int×Int)×Int×Value}{cl:Value->Goroutine}(h:PoSit n X c s f op j q eff cl) (x:Int):((eff x).1,(eff x).2.1)=((Ai n q x).1,(Ai n q x).2.1):=by
 cases h with
 |s13 hx hk h0 h1 hA hC=>exact Hq _ _ _ _ _
 |s15 hk hA hO=>exact Hq _ _ _ _ _
 |s18 hk hA hO hC=>exact Hq _ _ _ _ _
 |_=>rfl
section
variable {n:Nat}{X:Fix (mcT n)}{z:Nat->Option Nat}{cont:Addr->Value}{Ch:Nat->Prop}{Stop:Goroutine->World->Prop}{cu:Value->Goroutine}{S0:TS}{K0:List (Nat×Int)}{v0:World}{Mo0 Mo:Nat->Option Obj}{σ:TS}{κ:List (Nat×Int)}{S:TS}{v w:World}{t:Thr}{H:Nx->(Nat->Option Obj)->Goroutine->Prop}{c s sb rb pb:Nat}{f:Frs}
theorem t_served {K:List (Nat×Int)}{op:Int}{j cb:Nat}{q:Q}{eff:Int->(Int×Int)×Int×Value}{cl:Value->Goroutine}{g:Goroutine}{y:Value}(hat:atT n q j) (heff:∀ x,((eff x).1,(eff x).2.1)=((Ai n q x).1,(Ai n q x).2.1)) (A:At X z cont Ch S K v w t) (hMo:Has (boxO pb) v) (hMf:∀ b,boxO pb b≠none->¬ Own S K b) (hcb:X.kb[j]? = some cb) (hg:D5 (X.h==0) X.i j cb X.tb op eff cl g) (hop:t.op=op) (hce:t.ce=(j:Int)) (hl:(S.n+1)*40≤140737488355328)
 (hk:∀ S1 v1 w1 t1,Now X z cont Ch S K v (boxO pb) (boxO pb) (didS (Gen.nv S) undef X.i t (Ai n q (cellAt K j).2).1.1 (Ai n q (cellAt K j).2).1.2) (K.set j ((cellAt K j).1,(Ai n q (cellAt K j).2).2.1)) S1 v1 w1 t1->GoesI Tryd.prog (X.h==0) (DT (ScZ z) Ch) Stop (cl (eff (cellAt K j).2).2.2) w1) :
 GoesI Tryd.prog (X.h==0) (DT (ScZ z) Ch) Stop (Go.Conc.served g y) w:=by
 have N0:=Now.here A hMo hMf (boxO_row pb)
 have hc:=N0.cell hcb
 have he:=heff (cellAt K j).2
 refine hg z Ch Stop y w v S K t (cellAt K j).2 A.rel A.noRow A.mem A.thr A.tb hop hce hc.1 hl (fun v1 w1 tv r1 n1 e1=>?_)
 have e2:(cellAt K j).1=cb:=by rw[hc.2]
 have e3:(eff (cellAt K j).2).1=(Ai n q (cellAt K j).2).1:=congrArg Prod.fst he
 have e4:(eff (cellAt K j).2).2.1=(Ai n q (cellAt K j).2).2.1:=congrArg Prod.snd he
 rw[e3,e4,←e2] at e1
 have sd:=sta_did (i:=X.i) S tv t (Ai n q (cellAt K j).2).1.1 (Ai n q (cellAt K j).2).1.2
 exact hk _ v1 w1 _ (N0.on e1 r1 n1 (nv_did tv t _ _) (did_thr A.thr) A.tb A.gc sd.bk (A.kb.2.set j q (fun _=>hat) _))
theorem t_ans {α:Type}{enc:α->Value}{fa:α->Int×Int}(hB:CBack (X.h==0) pb enc fa f.ret cu) (y:α) {x:Nx}(hob:Ob X H z cont Ch Stop cu S0 K0 v0 Mo0 σ κ x) (hx:x=.ans (fa y).1 (fa y).2) (N:Now X z cont Ch S0 K0 v0 Mo0 (boxO pb) σ κ S v w t) :
 GoesI Tryd.prog (X.h==0) (DT (ScZ z) Ch) Stop (f.ret (enc y)) w :=
 hB z Ch Stop w v S κ y N.at_.rel N.at_.noRow N.at_.mem (N.mo pb _ (boxO_at pb)) (N.far pb (by rw[boxO_at];simp)) (fun v' w' r n ev=>hob.ans (fa y) hx v' w' S r n N.nv (N.evo.join ev (fun b hb=>by
  have hb':b=pb:=hb
  subst hb'
  exact N.new b (by rw[boxO_at];simp))))
structure PuC (n:Nat) (X:Fix (mcT n)) (c s sb rb pb:Nat) (f:Frs) (cu:Value->Goroutine) (H:Nx->(Nat->Option Obj)->Goroutine->Prop) (v0:World) (Mo0:Nat->Option Obj):Prop where
 mine:TMine n X c s sb rb
 ok:f.Ok
 back:CBack (X.h==0) pb encU ansU f.ret cu
 H:∀ x Mo' g,Good v0 Mo0 x Mo'->stSit n X x Mo' cu g->H x Mo' g
structure PoC (n:Nat) (X:Fix (mcT n)) (c s sb rb pb:Nat) (f:Frs) (cu:Value->Goroutine) (H:Nx->(Nat->Option Obj)->Goroutine->Prop) (v0:World) (Mo0:Nat->Option Obj):Prop where
 mine:TMine n X c s sb rb
 ok:f.Ok
 back:CBack (X.h==0) pb encO ansO f.ret cu
 H:∀ x Mo' g,Good v0 Mo0 x Mo'->stSit n X x Mo' cu g->H x Mo' g
theorem PuC.sit (C:PuC n X c s sb rb pb f cu H v0 Mo0) (N:Now X z cont Ch S0 K0 v0 Mo0 (boxO pb) σ κ S v w t) {op:Int}{j cb:Nat}{q:Q}{eff:Int->(Int×Int)×Int×Value}{cl:Value->Goroutine}{g:Goroutine}(hcb:X.kb[j]? = some cb) (hg:D5 (X.h==0) X.i j cb X.tb op eff cl g) (h:PuSit n X c s f op j q eff cl):H (.turn op j q) (boxO pb) g :=
 C.H _ _ g (N.good (fun _ _ h=>by cases h)) ⟨c,s,sb,rb,pb,f,op,j,q,cb,eff,cl,rfl,C.mine,C.ok,rfl,hcb,hg,.inl ⟨C.back,h⟩⟩
theorem PoC.sit (C:PoC n X c s sb rb pb f cu H v0 Mo0) (N:Now X z cont Ch S0 K0 v0 Mo0 (boxO pb) σ κ S v w t) {op:Int}{j cb:Nat}{q:Q}{eff:Int->(Int×Int)×Int×Value}{cl:Value->Goroutine}{g:Goroutine}(hcb:X.kb[j]? = some cb) (hg:D5 (X.h==0) X.i j cb X.tb op eff cl g) (h:PoSit n X c s f op j q eff cl):H (.turn op j q) (boxO pb) g :=
 C.H _ _ g (N.good (fun _ _ h=>by cases h)) ⟨c,s,sb,rb,pb,f,op,j,q,cb,eff,cl,rfl,C.mine,C.ok,rfl,hcb,hg,.inr ⟨C.back,h⟩⟩
theorem Gi {ops:Array Oper}{q d:Nat}(h:(ops[q]?).map (·.dst)=some (some d)):∃ oc,ops[q]? = some oc∧oc.dst=some d:=by
 obtain ⟨oc,h1,h2⟩:=Option.map_eq_some_iff.1 h
 exact ⟨oc,h1,h2⟩
theorem pu1 (C:PuC n X c s sb rb pb f cu H v0 Mo0) {x:Int}{a ap:Act}(hA:FT s X.tb a) (hP:FP c X.tb x ap) (hob:Ob X H z cont Ch Stop cu S0 K0 v0 Mo0 σ κ (.turn 1 0 (1,[x]))) (N:Now X z cont Ch S0 K0 v0 Mo0 (boxO pb) σ κ S v w t) :
 GoesI Tryd.prog (X.h==0) (DT (ScZ z) Ch) Stop (G (tHead a) (I6 ap :: f.stack)) w:=by
 have hs:=C.mine.mem v N.at_.pk
 obtain ⟨cb,hcb,hce⟩:=hs.1.slt.head
 exact take_look (h:=X.h) (i:=X.i) (j:=0) (cb:=cb) hce (by rw[N.at_.tb];exact hA) _ (H (.turn 1 0 (1,[x])) (boxO pb)) (fun g hg=>by
  obtain ⟨a1,hA1,hg⟩:=hg
  rw[N.at_.tb] at hg
  rw[N.at_.tb] at hA1
  exact C.sit N hcb hg (.s1 hA1 hP)) N.at_.rel N.at_.noRow N.at_.mem N.at_.thr (N.cell hcb).1 (by rw[N.at_.tb];exact N.at_.z) (by rw[N.at_.tb,N.at_.gc];exact N.at_.cont) (D6 hob N)
theorem pu2 (C:PuC n X c s sb rb pb f cu H v0 Mo0) {v1 x:Int}{k:Nat}{a ap:Act}(hx:fstI x=(k:Int)+1) (hk:k<n) (hA:FT s X.tb a) (hP:FP c X.tb v1 ap) (hob:Ob X H z cont Ch Stop cu S0 K0 v0 Mo0 σ κ (.turn 1 (nxJ k) (2,[v1,x]))) (N:Now X z cont Ch S0 K0 v0 Mo0 (boxO pb) σ κ S v w t) :
 GoesI Tryd.prog (X.h==0) (DT (ScZ z) Ch) Stop (G (Jr a (I x)) (I6 ap :: f.stack)) w:=by
 have hs:=C.mine.mem v N.at_.pk
 obtain ⟨cb,hcb,hce⟩:=hs.1.slt.next k hk
 exact take_next (h:=X.h) (i:=X.i) (j:=nxJ k) (cb:=cb) k hx hk hs.2 hs.1.slt.row hce (by rw[N.at_.tb];exact hA) _ (H (.turn 1 (nxJ k) (2,[v1,x])) (boxO pb)) (fun g hg=>by
  obtain ⟨a1,hA1,hg⟩:=hg
  rw[N.at_.tb] at hg
  rw[N.at_.tb] at hA1
  exact C.sit N hcb hg (.s2 hx hk hA1 hP)) N.at_.rel N.at_.noRow N.at_.mem N.at_.thr (N.cell hcb).1 (by rw[N.at_.tb];exact N.at_.z) (by rw[N.at_.tb,N.at_.gc];exact N.at_.cont) (D6 hob N)
theorem pu3 (C:PuC n X c s sb rb pb f cu H v0 Mo0) {v1 x y:Int}{k:Nat}{a ap:Act}(hx:fstI x=(k:Int)+1) (hk:k<n) (h0:0≤y) (h1:y≤n) (hA:FT9 s X.tb k x a) (hP:FP c X.tb v1 ap) (hob:Ob X H z cont Ch Stop cu S0 K0 v0 Mo0 σ κ (.turn 4 0 (3,[v1,x,y]))) (N:Now X z cont Ch S0 K0 v0 Mo0 (boxO pb) σ κ S v w t) :
 GoesI Tryd.prog (X.h==0) (DT (ScZ z) Ch) Stop (G (tNext a (I y)) (I6 ap :: f.stack)) w:=by
 have hs:=C.mine.mem v N.at_.pk
 obtain ⟨cb,hcb,hce⟩:=hs.1.slt.head
 refine take_try y hA _ (fun a1 code hc hA1=>?_)
 rw[←N.at_.tb]
 exact ch46_go (h:=X.h) (i:=X.i) (cb:=cb) x y hs.2 hce _ (H (.turn 4 0 (3,[v1,x,y])) (boxO pb)) (fun g hg=>by
  obtain ⟨a2,hA2,hg⟩:=hg
  rw[N.at_.tb] at hg
  exact C.sit N hcb hg (.s3 hx hk h0 h1 hA1 hP hA2)) N.at_.rel N.at_.noRow N.at_.mem N.at_.thr (N.cell hcb).1 (by rw[N.at_.tb];exact N.at_.z) (by rw[N.at_.tb,N.at_.gc];exact N.at_.cont) (D6 hob N) code hc
theorem pu4 (C:PuC n X c s sb rb pb f cu H v0 Mo0) {v1 x:Int}{k:Nat}{a ap:Act}(hk:k<n) (hA:FT8 s X.tb k x a) (hP:FP c X.tb v1 ap) (hob:Ob X H z cont Ch Stop cu S0 K0 v0 Mo0 σ κ (.turn 2 (usJ k) (4,[v1,(k:Int)]))) (N:Now X z cont Ch S0 K0 v0 Mo0 (boxO pb) σ κ S v w t) :
 GoesI Tryd.prog (X.h==0) (DT (ScZ z) Ch) Stop (G (tTried a (.bool true)) (I6 ap :: f.stack)) w:=by
 have hs:=C.mine.mem v N.at_.pk
 obtain ⟨cb,hcb,hce⟩:=hs.1.slt.used k hk
 exact take_won (h:=X.h) (i:=X.i) (j:=usJ k) (cb:=cb) hk hs.1.slt.row hce (by rw[N.at_.tb];exact hA) _ (H (.turn 2 (usJ k) (4,[v1,(k:Int)])) (boxO pb)) (fun g hg=>by
  obtain ⟨a1,hA1,hg⟩:=hg
  rw[N.at_.tb] at hg
  rw[N.at_.tb] at hA1
  exact C.sit N hcb hg (.s4 hk hA1 hP)) N.at_.rel N.at_.noRow N.at_.mem N.at_.thr (N.cell hcb).1 (by rw[N.at_.tb];exact N.at_.z) (by rw[N.at_.tb,N.at_.gc];exact N.at_.cont) (D6 hob N)
theorem pu5 (C:PuC n X c s sb rb pb f cu H v0 Mo0) {v1:Int}{k:Nat}{ap:Act}(hk:k<n) (hP:FP c X.tb v1 ap) (hob:Ob X H z cont Ch Stop cu S0 K0 v0 Mo0 σ κ (.turn 2 (vlJ n k) (5,[v1,(k:Int)]))) (N:Now X z cont Ch S0 K0 v0 Mo0 (boxO pb) σ κ S v w t) :
 GoesI Tryd.prog (X.h==0) (DT (ScZ z) Ch) Stop (G (pTook ap (.tuple #[I k,I 0])) f.stack) w:=by
 have hs:=C.mine.mem v N.at_.pk
 obtain ⟨cb,hcb,hce⟩:=hs.1.value k hk
 exact push_val (h:=X.h) (i:=X.i) (j:=vlJ n k) (cb:=cb) k hk hs.1.row hce (by rw[N.at_.tb];exact hP) _ (H (.turn 2 (vlJ n k) (5,[v1,(k:Int)])) (boxO pb)) (fun g hg=>by
  obtain ⟨a1,hA1,hg⟩:=hg
  rw[N.at_.tb] at hg
  rw[N.at_.tb] at hA1
  exact C.sit N hcb hg (.s5 hk hA1)) N.at_.rel N.at_.noRow N.at_.mem N.at_.thr (N.cell hcb).1 (by rw[N.at_.tb];exact N.at_.z) (by rw[N.at_.tb,N.at_.gc];exact N.at_.cont) (D6 hob N)
theorem pu6 (C:PuC n X c s sb rb pb f cu H v0 Mo0) {v1:Int}{k:Nat}{ap:Act}(hk:k<n) (hP:FP7 c X.tb k v1 ap) (hob:Ob X H z cont Ch Stop cu S0 K0 v0 Mo0 σ κ (.turn 1 (hdJ n) (6,[(k:Int)]))) (N:Now X z cont Ch S0 K0 v0 Mo0 (boxO pb) σ κ S v w t) :
 GoesI Tryd.prog (X.h==0) (DT (ScZ z) Ch) Stop (G (pHead ap) f.stack) w:=by
 have hs:=C.mine.mem v N.at_.pk
 obtain ⟨cb,hcb,hce⟩:=hs.1.head
 exact push_look (h:=X.h) (i:=X.i) (j:=hdJ n) (cb:=cb) hce (by rw[N.at_.tb];exact hP) _ (H (.turn 1 (hdJ n) (6,[(k:Int)])) (boxO pb)) (fun g hg=>by
  obtain ⟨a1,hA1,hg⟩:=hg
  rw[N.at_.tb] at hg
  rw[N.at_.tb] at hA1
  exact C.sit N hcb hg (.s6 hk hA1)) N.at_.rel N.at_.noRow N.at_.mem N.at_.thr (N.cell hcb).1 (by rw[N.at_.tb];exact N.at_.z) (by rw[N.at_.tb,N.at_.gc];exact N.at_.cont) (D6 hob N)
theorem pu7 (C:PuC n X c s sb rb pb f cu H v0 Mo0) {v1 x:Int}{k:Nat}{ap:Act}(hk:k<n) (hx:fstI x≤n) (hP:FP7 c X.tb k v1 ap) (hob:Ob X H z cont Ch Stop cu S0 K0 v0 Mo0 σ κ (.turn 2 (lkJ n k) (7,[(k:Int),x]))) (N:Now X z cont Ch S0 K0 v0 Mo0 (boxO pb) σ κ S v w t) :
 GoesI Tryd.prog (X.h==0) (DT (ScZ z) Ch) Stop (G (pSeen ap (I x)) f.stack) w:=by
 have hs:=C.mine.mem v N.at_.pk
 obtain ⟨cb,hcb,hce⟩:=hs.1.link k hk
 exact push_link (h:=X.h) (i:=X.i) (j:=lkJ n k) (cb:=cb) x hk hs.2 hs.1.row hce (by rw[N.at_.tb];exact hP) _ (H (.turn 2 (lkJ n k) (7,[(k:Int),x])) (boxO pb)) (fun g hg=>by
  obtain ⟨a1,hA1,hg⟩:=hg
  rw[N.at_.tb] at hg
  rw[N.at_.tb] at hA1
  exact C.sit N hcb hg (.s7 hk hx hA1)) N.at_.rel N.at_.noRow N.at_.mem N.at_.thr (N.cell hcb).1 (by rw[N.at_.tb];exact N.at_.z) (by rw[N.at_.tb,N.at_.gc];exact N.at_.cont) (D6 hob N)
theorem pu8 (C:PuC n X c s sb rb pb f cu H v0 Mo0) {v1 x:Int}{k:Nat}{ap:Act}(hk:k<n) (hP:FP9 c X.tb k v1 x ap) (r:Value) (hob:Ob X H z cont Ch Stop cu S0 K0 v0 Mo0 σ κ (.turn 4 (hdJ n) (8,[(k:Int),x]))) (N:Now X z cont Ch S0 K0 v0 Mo0 (boxO pb) σ κ S v w t) :
 GoesI Tryd.prog (X.h==0) (DT (ScZ z) Ch) Stop (G (pLink ap r) f.stack) w:=by
 have hs:=C.mine.mem v N.at_.pk
 obtain ⟨cb,hcb,hce⟩:=hs.1.head
 refine push_try (by have:=hs.1.n1;omega) r hP _ (fun a1 code hc hA1=>?_)
 rw[←N.at_.tb]
 exact ch73_go (h:=X.h) (i:=X.i) (cb:=cb) x ((k:Int)+1) hs.2 hce _ (H (.turn 4 (hdJ n) (8,[(k:Int),x])) (boxO pb)) (fun g hg=>by
  obtain ⟨a2,hA2,hg⟩:=hg
  rw[N.at_.tb] at hg
  exact C.sit N hcb hg (.s8 hk hA1 hA2)) N.at_.rel N.at_.noRow N.at_.mem N.at_.thr (N.cell hcb).1 (by rw[N.at_.tb];exact N.at_.z) (by rw[N.at_.tb,N.at_.gc];exact N.at_.cont) (D6 hob N) code hc
theorem po11 (C:PoC n X c s sb rb pb f cu H v0 Mo0) {a:Act}(hA:FO c X.tb a) (hob:Ob X H z cont Ch Stop cu S0 K0 v0 Mo0 σ κ (.turn 1 (hdJ n) (11,[]))) (N:Now X z cont Ch S0 K0 v0 Mo0 (boxO pb) σ κ S v w t) :
 GoesI Tryd.prog (X.h==0) (DT (ScZ z) Ch) Stop (G (oHead a) f.stack) w:=by
 have hs:=C.mine.mem v N.at_.pk
 obtain ⟨cb,hcb,hce⟩:=hs.1.head
 exact pop_look (h:=X.h) (i:=X.i) (j:=hdJ n) (cb:=cb) hce (by rw[N.at_.tb];exact hA) _ (H (.turn 1 (hdJ n) (11,[])) (boxO pb)) (fun g hg=>by
  obtain ⟨a1,hA1,hg⟩:=hg
  rw[N.at_.tb] at hg
  rw[N.at_.tb] at hA1
  exact C.sit N hcb hg (.s11 hA1)) N.at_.rel N.at_.noRow N.at_.mem N.at_.thr (N.cell hcb).1 (by rw[N.at_.tb];exact N.at_.z) (by rw[N.at_.tb,N.at_.gc];exact N.at_.cont) (D6 hob N)
theorem po12 (C:PoC n X c s sb rb pb f cu H v0 Mo0) {x:Int}{k:Nat}{a:Act}(hx:fstI x=(k:Int)+1) (hk:k<n) (hA:FO c X.tb a) (hob:Ob X H z cont Ch Stop cu S0 K0 v0 Mo0 σ κ (.turn 1 (lkJ n k) (12,[x]))) (N:Now X z cont Ch S0 K0 v0 Mo0 (boxO pb) σ κ S v w t) :
 GoesI Tryd.prog (X.h==0) (DT (ScZ z) Ch) Stop (G (Jv a (I x)) f.stack) w:=by
 have hs:=C.mine.mem v N.at_.pk
 obtain ⟨cb,hcb,hce⟩:=hs.1.link k hk
 exact pop_link (h:=X.h) (i:=X.i) (j:=lkJ n k) (cb:=cb) k hx hk hs.2 hs.1.row hce (by rw[N.at_.tb];exact hA) _ (H (.turn 1 (lkJ n k) (12,[x])) (boxO pb)) (fun g hg=>by
  obtain ⟨a1,hA1,hg⟩:=hg
  rw[N.at_.tb] at hg
  rw[N.at_.tb] at hA1
  exact C.sit N hcb hg (.s12 hx hk hA1)) N.at_.rel N.at_.noRow N.at_.mem N.at_.thr (N.cell hcb).1 (by rw[N.at_.tb];exact N.at_.z) (by rw[N.at_.tb,N.at_.gc];exact N.at_.cont) (D6 hob N)
theorem po13 (C:PoC n X c s sb rb pb f cu H v0 Mo0) {x y:Int}{k:Nat}{a:Act}(hx:fstI x=(k:Int)+1) (hk:k<n) (h0:0≤y) (h1:y≤n) (hA:FO8 c X.tb k x a) (hob:Ob X H z cont Ch Stop cu S0 K0 v0 Mo0 σ κ (.turn 4 (hdJ n) (13,[x,y]))) (N:Now X z cont Ch S0 K0 v0 Mo0 (boxO pb) σ κ S v w t) :
 GoesI Tryd.prog (X.h==0) (DT (ScZ z) Ch) Stop (G (oLink a (I y)) f.stack) w:=by
 have hs:=C.mine.mem v N.at_.pk
 obtain ⟨cb,hcb,hce⟩:=hs.1.head
 refine pop_try y hA _ (fun a1 code hc hA1=>?_)
 rw[←N.at_.tb]
 exact ch73_go (h:=X.h) (i:=X.i) (cb:=cb) x y hs.2 hce _ (H (.turn 4 (hdJ n) (13,[x,y])) (boxO pb)) (fun g hg=>by
  obtain ⟨a2,hA2,hg⟩:=hg
  rw[N.at_.tb] at hg
  exact C.sit N hcb hg (.s13 hx hk h0 h1 hA1 hA2)) N.at_.rel N.at_.noRow N.at_.mem N.at_.thr (N.cell hcb).1 (by rw[N.at_.tb];exact N.at_.z) (by rw[N.at_.tb,N.at_.gc];exact N.at_.cont) (D6 hob N) code hc
theorem po14 (C:PoC n X c s sb rb pb f cu H v0 Mo0) {x:Int}{k:Nat}{a:Act}(hk:k<n) (hA:FO8 c X.tb k x a) (hob:Ob X H z cont Ch Stop cu S0 K0 v0 Mo0 σ κ (.turn 1 (vlJ n k) (14,[(k:Int)]))) (N:Now X z cont Ch S0 K0 v0 Mo0 (boxO pb) σ κ S v w t) :
 GoesI Tryd.prog (X.h==0) (DT (ScZ z) Ch) Stop (G (oTried a (.bool true)) f.stack) w:=by
 have hs:=C.mine.mem v N.at_.pk
 obtain ⟨cb,hcb,hce⟩:=hs.1.value k hk
 exact pop_val (h:=X.h) (i:=X.i) (j:=vlJ n k) (cb:=cb) hk hs.1.row hce (by rw[N.at_.tb];exact hA) _ (H (.turn 1 (vlJ n k) (14,[(k:Int)])) (boxO pb)) (fun g hg=>by
  obtain ⟨a1,hA1,hg⟩:=hg
  rw[N.at_.tb] at hg
  rw[N.at_.tb] at hA1
  exact C.sit N hcb hg (.s14 hk hA1)) N.at_.rel N.at_.noRow N.at_.mem N.at_.thr (N.cell hcb).1 (by rw[N.at_.tb];exact N.at_.z) (by rw[N.at_.tb,N.at_.gc];exact N.at_.cont) (D6 hob N)
theorem po15 (C:PoC n X c s sb rb pb f cu H v0 Mo0) {y:Int}{k:Nat}{a:Act}(hk:k<n) (hA:FOk c X.tb k a) (hob:Ob X H z cont Ch Stop cu S0 K0 v0 Mo0 σ κ (.turn 4 (usJ k) (15,[(k:Int),y]))) (N:Now X z cont Ch S0 K0 v0 Mo0 (boxO pb) σ κ S v w t) :
 GoesI Tryd.prog (X.h==0) (DT (ScZ z) Ch) Stop (G (oVal a (I y)) f.stack) w:=by
 have hs:=C.mine.mem v N.at_.pk
 obtain ⟨cb,hcb,hce⟩:=hs.1.slt.used k hk
 refine pop_give y hs.1.slots hA _ N.at_.rel (fun a1 code hc hA1=>?_)
 rw[←N.at_.tb]
 exact give_in (h:=X.h) (i:=X.i) (cb:=cb) hk hs.1.slt.row hce _ (H (.turn 4 (usJ k) (15,[(k:Int),y])) (boxO pb)) (fun g hg=>by
  obtain ⟨a2,hA2,hg⟩:=hg
  rw[N.at_.tb] at hg hA2
  exact C.sit N hcb hg (.s15 hk hA2 hA1)) N.at_.rel N.at_.noRow N.at_.mem N.at_.thr (N.cell hcb).1 (by rw[N.at_.tb];exact N.at_.z) (by rw[N.at_.tb,N.at_.gc];exact N.at_.cont) (D6 hob N) code hc
theorem po16 (C:PoC n X c s sb rb pb f cu H v0 Mo0) {y:Int}{k:Nat}{a ao:Act}(hk:k<n) (hA:FG s X.tb k a) (hO:FOv c X.tb k y ao) (hob:Ob X H z cont Ch Stop cu S0 K0 v0 Mo0 σ κ (.turn 1 0 (16,[(k:Int),y]))) (N:Now X z cont Ch S0 K0 v0 Mo0 (boxO pb) σ κ S v w t) :
 GoesI Tryd.prog (X.h==0) (DT (ScZ z) Ch) Stop (G (gHead a) (oGive ao :: f.stack)) w:=by
 have hs:=C.mine.mem v N.at_.pk
 obtain ⟨cb,hcb,hce⟩:=hs.1.slt.head
 exact give_look (h:=X.h) (i:=X.i) (j:=0) (cb:=cb) hce (by rw[N.at_.tb];exact hA) _ (H (.turn 1 0 (16,[(k:Int),y])) (boxO pb)) (fun g hg=>by
  obtain ⟨a1,hA1,hg⟩:=hg
  rw[N.at_.tb] at hg
  rw[N.at_.tb] at hA1
  exact C.sit N hcb hg (.s16 hk hA1 hO)) N.at_.rel N.at_.noRow N.at_.mem N.at_.thr (N.cell hcb).1 (by rw[N.at_.tb];exact N.at_.z) (by rw[N.at_.tb,N.at_.gc];exact N.at_.cont) (D6 hob N)
theorem po17 (C:PoC n X c s sb rb pb f cu H v0 Mo0) {x y:Int}{k:Nat}{a ao:Act}(hk:k<n) (hx:fstI x≤n) (hA:FG s X.tb k a) (hO:FOv c X.tb k y ao) (hob:Ob X H z cont Ch Stop cu S0 K0 v0 Mo0 σ κ (.turn 2 (nxJ k) (17,[(k:Int),y,x]))) (N:Now X z cont Ch S0 K0 v0 Mo0 (boxO pb) σ κ S v w t) :
 GoesI Tryd.prog (X.h==0) (DT (ScZ z) Ch) Stop (G (gSeen a (I x)) (oGive ao :: f.stack)) w:=by
 have hs:=C.mine.mem v N.at_.pk
 obtain ⟨cb,hcb,hce⟩:=hs.1.slt.next k hk
 exact give_next (h:=X.h) (i:=X.i) (j:=nxJ k) (cb:=cb) hk hs.2 hs.1.slt.row hce (by rw[N.at_.tb];exact hA) _ (H (.turn 2 (nxJ k) (17,[(k:Int),y,x])) (boxO pb)) (fun g hg=>by
  obtain ⟨a1,hA1,hg⟩:=hg
  rw[N.at_.tb] at hg
  rw[N.at_.tb] at hA1
  exact C.sit N hcb hg (.s17 hk hx hA1 hO)) N.at_.rel N.at_.noRow N.at_.mem N.at_.thr (N.cell hcb).1 (by rw[N.at_.tb];exact N.at_.z) (by rw[N.at_.tb,N.at_.gc];exact N.at_.cont) (D6 hob N)
theorem po18 (C:PoC n X c s sb rb pb f cu H v0 Mo0) {x y:Int}{k:Nat}{a ao:Act}(hk:k<n) (hA:FG7 s X.tb k x a) (hO:FOv c X.tb k y ao) (r:Value) (hob:Ob X H z cont Ch Stop cu S0 K0 v0 Mo0 σ κ (.turn 4 0 (18,[(k:Int),y,x]))) (N:Now X z cont Ch S0 K0 v0 Mo0 (boxO pb) σ κ S v w t) :
 GoesI Tryd.prog (X.h==0) (DT (ScZ z) Ch) Stop (G (gStored a r) (oGive ao :: f.stack)) w:=by
 have hs:=C.mine.mem v N.at_.pk
 obtain ⟨cb,hcb,hce⟩:=hs.1.slt.head
 refine give_try (by have:=hs.1.n1;omega) r hA _ (fun a1 code hc hA1=>?_)
 rw[←N.at_.tb]
 exact ch46_go (h:=X.h) (i:=X.i) (cb:=cb) x ((k:Int)+1) hs.2 hce _ (H (.turn 4 0 (18,[(k:Int),y,x])) (boxO pb)) (fun g hg=>by
  obtain ⟨a2,hA2,hg⟩:=hg
  rw[N.at_.tb] at hg
  exact C.sit N hcb hg (.s18 hk hA1 hO hA2)) N.at_.rel N.at_.noRow N.at_.mem N.at_.thr (N.cell hcb).1 (by rw[N.at_.tb];exact N.at_.z) (by rw[N.at_.tb,N.at_.gc];exact N.at_.cont) (D6 hob N) code hc
end
end Go.Proofs.YtbbhahigofeacaaDoor.Gen
