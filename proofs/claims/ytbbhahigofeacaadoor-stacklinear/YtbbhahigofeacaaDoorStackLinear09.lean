/- StackLinear, part 9 of 32: GRun20b, GRun20c, GRun20d, Lift29, Lift30, GLone, GNew, GPlay, GLit, GWp, GObj, GMeas. -/
import Derived.Test.YtbbhahigofeacaaDoorStackLinear01
import Derived.Test.YtbbhahigofeacaaDoorStackLinear03
import Derived.Test.YtbbhahigofeacaaDoorStackLinear04
import Derived.Test.YtbbhahigofeacaaDoorStackLinear06
import Derived.Test.YtbbhahigofeacaaDoorStackLinear08
import Derived.Deep.RegionLaw
import Derived.Deep.LoopGhost
set_option linter.unusedSimpArgs false
set_option linter.unusedVariables false
set_option maxHeartbeats 4000000
set_option maxRecDepth 100000
noncomputable section
namespace Go.Proofs.YtbbhahigofeacaaDoor.Gen
open Go Go.Lift Go.Conc Go.RowKit
variable {S:TS} {K:List (Nat×Int)} {u:World}
theorem a200_any (v:World) (wb n:Nat) (p:Option Addr) (cap:Nat) (fid:FuncId) (bn fr:Array Value):
 a200.wp Tryd.prog (λe a w'=>e=.normal∧a={ tmps:=#[Pt wb 0,.slice p n cap,.func (.func fid) bn fr,undef,undef,Pt v.heap.size 0,.slice none 0 0]++Array.replicate 32 undef,defers:=[] }∧w'.heap=v.heap.push (.cells #[.func (.func fid) bn fr] 85)∧w'.os=v.os∧w'.output=v.output)
  { tmps:=#[Pt wb 0,.slice p n cap,.func (.func fid) bn fr]++Array.replicate 36 undef,defers:=[] } v:=by
 show Code.wp Tryd.prog (seq1 (Tryd.f37.body.getD .skip)) _ _ _;unfold Tryd.f37 seq1;simp only[Qa,Sy];go_wp2_with fail;exact ⟨rfl,rfl,rfl⟩
structure Set20 (v:World) (fid:FuncId) (bn fr:Array Value) (n:Nat) (pc:Nat->Option Addr) (ln cp:Nat->Nat) (u:World):Prop where
 size:u.heap.size=v.heap.size+4+3*n
 p2:u.heap[v.heap.size]? = some (.cells #[.func (.func fid) bn fr] 85)
 rrow:u.rowIs (v.heap.size+1) 46 n (λj=>.slice (some ⟨v.heap.size+4+3*j+2,0,none⟩) (ln j) (ln j))
 p3:u.heap[v.heap.size+2]? = some (.cells #[.slice (some ⟨v.heap.size+1,0,none⟩) n n] 31)
 brow:u.rowIs (v.heap.size+3) 113 n (λj=>.func (.func 59) #[] #[Pt (v.heap.size+4+3*j+1) 0,Pt v.heap.size 0,Pt (v.heap.size+2) 0,Pt (v.heap.size+4+3*j) 0])
 blk:∀ j,j<n->u.heap[v.heap.size+4+3*j]? = some (.cells #[I j] 3)∧u.heap[v.heap.size+4+3*j+1]? = some (.cells #[.slice (pc j) (ln j) (cp j)] 45)∧u.heap[v.heap.size+4+3*j+2]? = some (.cells (madeCells #[I 0,I 0] (ln j*2)) 48)
 old:∀ b,b<v.heap.size->u.heap[b]? = v.heap[b]?
 os:u.os=v.os
 out:u.output=v.output
def R20:Code:=seq2 (seq2 (seq2 (seq2 B20)))
theorem eB20:B20=.seq a200 (.seq a201 (.seq a202 (.seq a203 R20))):=by kernel_rfl
theorem run20_in {Ch:Nat->Prop}{Stop:Goroutine->World->Prop}{main:Bool}{v w:World}(fid:FuncId) (bn fr:Array Value) (wb sb so n cap:Nat) (hn8:n<=8) (pc:Nat->Option Addr) (ln cp:Nat->Nat) (hln:∀ k,k<n->ln k<=64) (hs:∀ k,k<n->v.cell? ⟨sb,so+k,none⟩=some (.slice (pc k) (ln k) (cp k))) (cs:List Frame) {bc:Frame}{ac:Act}{ops:Array Oper}{q:Nat}{rest:List Nat}{oc:Oper}{k:List Item}(hoc:ops[q]? = some oc)
 (hsb:sb<v.heap.size) (hvw:Rel zn v w) (hn:Ai Ch v)
 (hk:∀ v' w' (bd:Frame) (ad:Act) (od:Array Oper) (qd:Nat) (rd:List Nat) (oe:Oper) (kd:List Item),Rel zn v' w'->Ai Ch v'->Set20 v fid bn fr n pc ln cp v'->od[qd]? = some oe ->
   (∀ (Ch:Nat->Prop) (Stop:Goroutine->World->Prop) (w:World) (x:Value),w.cell? ⟨v.heap.size+2,0,none⟩=some x->(∀ d,GoT zn main Ch Stop (G (bc.at (ac.put oc.dst x) (.inRegion ops rest :: k)) cs) (w.at d))->GoT zn main Ch Stop (G (bd.at (ad.put oe.dst (.tuple #[])) (.inRegion od rd :: kd)) (bc.at ac (.inRegion ops (q :: rest) :: k) :: cs)) w) ->
   GoT zn main Ch Stop (G ((base 61).at { tmps:=#[Pt wb 0,.slice (some ⟨v.heap.size+3,0,none⟩) n n]++Array.replicate 60 undef,defers:=[] } [.code B35]) (bd.at ad (.inRegion od (qd :: rd):: kd):: bc.at ac (.inRegion ops (q :: rest):: k):: cs)) w'):
 GoT zn main Ch Stop (G ((base 37).at { tmps:=#[Pt wb 0,.slice (some ⟨sb,so,none⟩) n cap,.func (.func fid) bn fr]++Array.replicate 36 undef,defers:=[] } [.code B20]) (bc.at ac (.inRegion ops (q :: rest) :: k) :: cs)) w:=by
 rw[eB20];refine Ab ?_;refine Ba (z:=zn) (wr:=true) (L:=LT) (I:=Ai Ch) hE Dn Az (λv v' w w' es hi hr ho he=>B0 v v' w w' es hi hr ho he) hvw fine200 rfl (by simp[base]) hn
  (Q:=λa w'=>a={ tmps:=#[Pt wb 0,.slice (some ⟨sb,so,none⟩) n cap,.func (.func fid) bn fr,undef,undef,Pt v.heap.size 0,.slice none 0 0]++Array.replicate 32 undef,defers:=[] }∧w'.heap=v.heap.push (.cells #[.func (.func fid) bn fr] 85)∧w'.os=v.os∧w'.output=v.output) (λτ=>a200_any (Ap v τ 0) wb n (some ⟨sb,so,none⟩) cap fid bn fr) ?_
 rintro a1 v1 w1 ⟨rfl,e1,o1,u1⟩ hr1 hn1 -;have s1:v1.heap.size=v.heap.size+1:=by rw[e1];simp
 refine Ab ?_;refine Ba (z:=zn) (wr:=true) (L:=LT) (I:=Ai Ch) hE Dn Az (λv v' w w' es hi hr ho he=>B0 v v' w w' es hi hr ho he) hr1 fine201 rfl (by simp[base]) hn1
  (Q:=λa w'=>a={ tmps:=#[Pt wb 0,.slice (some ⟨sb,so,none⟩) n cap,.func (.func fid) bn fr,undef,undef,Pt v.heap.size 0,.slice none 0 0,Pt (v1.heap.size+1) 0,undef,undef,undef,.slice (some ⟨sb,so,none⟩) n cap,I n,.slice (some ⟨v1.heap.size,0,none⟩) n n]++Array.replicate 25 undef,defers:=[] }∧w'.heap=(v1.heap.push (.cells (madeCells #[.slice none 0 0] n) 46)).push (.cells #[.slice (some ⟨v1.heap.size,0,none⟩) n n] 31)∧w'.os=v1.os∧w'.output=v1.output) (λτ=>a201_wp (Ap v1 τ 0) wb v.heap.size n (some ⟨sb,so,none⟩) cap _ hn8) ?_
 rintro a2 v2 w2 ⟨rfl,e2,o2,u2⟩ hr2 hn2 -;have s2:v2.heap.size=v.heap.size+3:=by rw[e2];simp;omega
 refine Ab ?_;refine Ba (z:=zn) (wr:=true) (L:=LT) (I:=Ai Ch) hE Dn Az (λv v' w w' es hi hr ho he=>B0 v v' w w' es hi hr ho he) hr2 fine202 rfl (by simp[base]) hn2
  (Q:=λa w'=>a={ tmps:=#[Pt wb 0,.slice (some ⟨sb,so,none⟩) n cap,.func (.func fid) bn fr,undef,undef,Pt v.heap.size 0,.slice none 0 0,Pt (v1.heap.size+1) 0,.slice (some ⟨v2.heap.size,0,none⟩) n n,undef,undef,.slice (some ⟨sb,so,none⟩) n cap,I n,.slice (some ⟨v1.heap.size,0,none⟩) n n,.slice (some ⟨sb,so,none⟩) n cap,I n,.slice (some ⟨v2.heap.size,0,none⟩) n n]++Array.replicate 22 undef,defers:=[] }∧w'.heap=v2.heap.push (.cells (madeCells #[.nilFunc] n) 113)∧w'.os=v2.os∧w'.output=v2.output) (λτ=>a202_wp (Ap v2 τ 0) wb v.heap.size (v1.heap.size+1) v1.heap.size n (some ⟨sb,so,none⟩) cap _ hn8) ?_
 rintro a3 v3 w3 ⟨rfl,e3,o3,u3⟩ hr3 hn3 -;have s3:v3.heap.size=v.heap.size+4:=by rw[e3];simp;omega
 have k1:∀ b,b<v.heap.size->v1.heap[b]? = v.heap[b]?:=λb hb=>by rw[e1,Qg,if_neg (by omega)]
 have k2:∀ b,b<v.heap.size+1->v2.heap[b]? = v1.heap[b]?:=λb hb=>by rw[e2,Qg,if_neg (by simp;omega),Qg,if_neg (by omega)]
 have k3:∀ b,b<v.heap.size+3->v3.heap[b]? = v2.heap[b]?:=λb hb=>by rw[e3,Qg,if_neg (by omega)]
 have f0:v3.heap[v.heap.size]? = some (.cells #[.func (.func fid) bn fr] 85):=by rw[k3 _ (by omega),k2 _ (by omega),e1];exact Qo
 have f1:v3.heap[v.heap.size+1]? = some (.cells (madeCells #[.slice none 0 0] n) 46):=by rw[k3 _ (by omega),e2,Qg,if_neg (by simp;omega),Qg,if_pos (by omega)]
 have f2:v3.heap[v.heap.size+2]? = some (.cells #[.slice (some ⟨v.heap.size+1,0,none⟩) n n] 31):=by rw[k3 _ (by omega),e2,Qg,if_pos (by simp;omega),s1]
 have f3:v3.heap[v.heap.size+3]? = some (.cells (madeCells #[.nilFunc] n) 113):=by rw[e3,Qg,if_pos (by omega)]
 have ko:∀ b,b<v.heap.size->v3.heap[b]? = v.heap[b]?:=λb hb=>by rw[k3 b (by omega),k2 b (by omega),k1 b hb]
 refine Ab ?_;rw[s1,s2];refine Ba (z:=zn) (wr:=true) (L:=LT) (I:=Ai Ch) hE Dn Az (λv v' w w' es hi hr ho he=>B0 v v' w w' es hi hr ho he) hr3 fine203 rfl (by simp[base]) hn3
  (Q:=λa w'=>(∃ u:Nat->Value,a={ tmps:=#[Pt wb 0,.slice (some ⟨sb,so,none⟩) n cap,.func (.func fid) bn fr,undef,undef,Pt v.heap.size 0,.slice none 0 0,Pt (v.heap.size+1+1) 0,.slice (some ⟨v.heap.size+3,0,none⟩) n n,u 9,u 10,u 11,u 12,u 13,u 14,u 15,u 16,u 17,u 18,u 19,u 20,u 21,u 22,u 23,u 24,u 25,u 26,u 27,u 28,u 29,u 30,u 31,u 32,u 33,u 34,u 35,u 36,u 37,u 38],defers:=[] })∧Laid v3 n v.heap.size (v.heap.size+1+1) (v.heap.size+1) (v.heap.size+3) pc ln cp n w') (λτ=>?_) ?_
 .refine wp_mono (a203_wp (Ap v3 τ 0) wb v.heap.size (v.heap.size+1+1) (v.heap.size+1) (v.heap.size+3) sb so n cap _ hn8 pc ln cp hln (λk hk=>?_) ?_ ?_ ?_ ⟨by omega,by omega,by omega,by omega,by omega⟩) (λe a w' hq=>⟨hq.1,hq.2.1,?_⟩)
  .show v3.cell? _=_
   rw[World.cell?_of_block (w:=v) (w':=v3) (ko sb hsb)];exact hs k hk
  exact ⟨_,f1,size_madeCells _ _,λi hi=>by simp[madeCells,hi,Nat.mod_one]⟩;exact ⟨_,f3,size_madeCells _ _,λi hi=>by simp[madeCells,hi,Nat.mod_one]⟩
  .show v3.cell? _=_
   unfold World.cell?;rw[show (⟨v.heap.size+1+1,0,none⟩:Addr).block=v.heap.size+2 from rfl,f2];rfl
  .have:=hq.2.2
   exact ⟨this.size,this.rrow,this.brow,this.blk,this.old,this.os,this.out⟩
 rintro a4 v4 w4 ⟨⟨u,rfl⟩,hL⟩ hr4 hn4 -;have hset:Set20 v fid bn fr n pc ln cp v4:=by refine ⟨by rw[hL.size,s3],by rw[hL.old _ (by omega) (by omega) (by omega)];exact f0,hL.rrow.congr λi hi=>by rw[if_pos hi,s3],by rw[hL.old _ (by omega) (by omega) (by omega)];exact f2,hL.brow.congr λi hi=>by rw[if_pos hi,s3],λj hj=>by have:=hL.blk j hj;rw[s3] at this;exact this,λb hb=>by rw[hL.old b (by omega) (by omega) (by omega)];exact ko b hb,by rw[hL.os,o3,o2,o1],by rw[hL.out,u3,u2,u1]⟩
 clear hL hr1 hr2 hr3 hn1 hn2 hn3 e1 e2 e3 o1 o2 o3 u1 u2 u3 k1 k2 k3 f0 f1 f2 f3 ko hvw hn hs hln s1 s2 s3;unfold R20 B20 Tryd.f37 seq2;simp only[Qa];refine Ab ?_;refine Ac ?_;simp only[Sz,Sr,Nat.reduceAdd];iterate 2
  (refine Ad rfl rfl (by decide) rfl λd K hK=>?_
   go_simp;refine hK _ ?_;clear hK K)
 refine Ao (f:=61) (fn:=Tryd.f61) (args:=#[Pt wb 0,.slice (some ⟨v.heap.size+3,0,none⟩) n n]) (Ag _ _) rfl rfl (by decide) rfl (by simp[Act.eval]) Tryd.func61 (by decide) rfl ?_;refine hk v4 w4 _ _ _ _ _ _ _ hr4 hn4 hset rfl (λCh Stop w x hx hg=>?_);clear hk hset hr4 hn4;refine Aa ?_;refine Ab ?_;refine Ac ?_;simp only[Sz,Sr,Nat.reduceAdd];have hx':w.cell? ⟨v.heap.size+1+1,0,none⟩=some x:=hx;iterate 2
  (refine Ad rfl rfl (by decide) rfl λd K hK=>?_
   go_simp;refine hK _ ?_;clear hK K)
 refine Aa ?_;refine GoesI.ctl rfl (λ_=>stepG_ret') (Ag _ _) ?_;refine Dc (b:=base 37) (fn:=Tryd.f37) (v:=x) rfl rfl Tryd.func37 (λw=>?_) (λw=>by simp[results,go_sem,Tryd.f37]) hoc (Ag _ _) ?_
 .rw[results_tmp (t:=6) rfl]
  simp
 .have:=hg w.drawn
  exact this
variable {mc:Mc}{fid:FuncId}{P:Pkg mc fid}
structure Told (v:World) (S:TS) (K:List (Nat×Int)) (pk:Nat->Option Obj) (n:Nat) (pc:Nat->Option Addr) (ln cp rb:Nat->Nat) (cl:Nat->List Cl):Prop where
 hpk:Has pk v
 po:∀ b,pk b≠none->¬ Own S K b∧b≠S.bk
 row:∀ b o,pk b=some o->∃ c e f,o=.cells c e f
 len:∀ j,j<n->(cl j).length=ln j∧ln j<=64
 pq:∀ j,j<n->0<ln j->pc j=some ⟨rb j,roOf (pc j),none⟩∧¬ Own S K (rb j)
 call:∀ j,j<n->∀ (k:Nat) (c:Cl),(cl j)[k]? = some c->v.cell? ⟨rb j,roOf (pc j)+k*4,none⟩=some (I c.po)∧v.cell? ⟨rb j,roOf (pc j)+k*4+1,none⟩=some (I c.ca)∧v.cell? ⟨rb j,roOf (pc j)+k*4+2,none⟩=some (I c.cb)∧v.cell? ⟨rb j,roOf (pc j)+k*4+3,none⟩=some (I c.cc)
 ca:∀ j,j<n->∀ c∈cl j,-9223372036854775808<=c.ca∧c.ca<9223372036854775808
def allM (S:TS) (K:List (Nat×Int)) (u:World):Nat->Option Obj:=λb=>open Classical in if Own S K b∨b=S.bk then none else u.heap[b]?
theorem Ko {b:Nat}(h1:¬ Own S K b) (h2:b≠S.bk):allM S K u b=u.heap[b]?:=by unfold allM;rw[if_neg (λh=>h.elim h1 h2)]
theorem allM_own {b:Nat}(h:allM S K u b≠none):¬ Own S K b∧b≠S.bk:=by constructor<;>intro e<;>apply h<;>unfold allM;rw[if_pos (.inl e)];rw[if_pos (.inr e)]
theorem allM_has :Has (allM S K u) u:=λb o h=>by have:=allM_own (b:=b) (by rw[h];simp);rw[Ko this.1 this.2] at h;exact h
def scrOf (mc:Mc) (fid:FuncId) (caps:Array Value) (pk:Nat->Option Obj) (N n:Nat) (kb:List Nat) (pc:Nat->Option Addr) (ln cp rb:Nat->Nat) (cl:Nat->List Cl) (j:Nat):Scr mc :=
 { calls:=cl j,ans:=List.replicate (ln j) (0,0)
   X:=λh tb gc b0=>{ h:=h,i:=j,tb:=tb,gc:=gc,bb:=b0,calls:=cl j,pc:=pc j,rb:=if ln j=0 then b0 else rb j,cap:=cp j,asl:=.slice (some ⟨N+4+3*j+2,0,none⟩) (ln j) (ln j),ab:=if ln j=0 then b0 else N+4+3*j+2,cap2:=ln j,aty:=48,fid:=fid,caps:=caps,pk:=pk,kb:=kb }
   p1:=N+4+3*j+1,p2:=N,p3:=N+2,p4:=N+4+3*j,rr:=N+1,m:=n,cp:=n,ix:=j,csl:=.slice (pc j) (cl j).length (cp j),asl:=.slice (some ⟨N+4+3*j+2,0,none⟩) (ln j) (ln j),caps:=caps }
theorem made_arow (n:Nat):(.cells (madeCells #[I 0,I 0] (n*2)) 48:Obj)=.cells (arow (List.replicate n (0,0))).toArray 48 (0,0):=by
 have:madeCells #[I 0,I 0] (n*2)=(arow (List.replicate n (0,0))).toArray:=by
  apply Array.ext_getElem?;intro i;rw[show (arow (List.replicate n (0,0))).toArray[i]? = (arow (List.replicate n (0,0)))[i]? by simp];by_cases hi:i<n*2
  .have e1:(madeCells #[I 0,I 0] (n*2))[i]? = some (I 0):=by
    have:i % 2=0∨i % 2=1:=by omega
    rcases this with h|h<;>simp[madeCells,hi,h]
   rw[e1];have h2:i / 2<n:=by omega
   have h3:=arow_get (List.replicate n (0,0)) (i / 2) (0,0) (by simp[List.getElem?_replicate,h2]);have:i=i / 2*2∨i=i / 2*2+1:=by omega
   rcases this with h|h;rw[h];exact h3.1.symm;rw[h];exact h3.2.symm
  rw[Array.getElem?_eq_none (by simp[madeCells];omega),List.getElem?_eq_none (by rw[arow_len];simp;omega)]
 rw[this]
section
variable {v u:World}{S:TS}{K:List (Nat×Int)}{caps:Array Value}{pk:Nat->Option Obj}{n:Nat}{pc:Nat->Option Addr}{ln cp rb:Nat->Nat}{cl:Nat->List Cl}
def futOf (N n:Nat) (ln:Nat->Nat) (j b:Nat):Prop:=∃ i,j<=i∧i<n∧0<ln i∧b=N+4+3*i+2
theorem script_of (hmine:∀ X:Fix mc,X.fid=fid->X.caps=caps->X.pk=pk->X.kb=K.map (·.1)->P.Mine X) (hm:Mem zn S K v) (hb:Open v S.bk) (t:Told v S K pk n pc ln cp rb cl) (s:Set20 v fid (mc.bn caps) (mc.fr caps) n pc ln cp u) {j:Nat}(hj:j<n) {Mm:Nat->Option Obj}{Fut:Nat->Prop}(hM:∀ b,(∀ i,i<j->b≠v.heap.size+4+3*i+2)->Mm b=allM S K u b) (hF:∀ b,Fut b↔futOf v.heap.size n ln j b):
 Script P Mm Fut j (v.heap.size+3) (K.map (·.1)) (scrOf mc fid caps pk v.heap.size n (K.map (·.1)) pc ln cp rb cl j):=by
 have hbk:S.bk<v.heap.size:=by obtain ⟨c,m,h⟩:=hb;exact (Qb h).1
 have hOw:∀ b,v.heap.size<=b->¬ Own S K b∧b≠S.bk:=λb hb=>⟨λh=>by have:=hm.lt h;omega,by omega⟩
 have cbk:∀ (a:Addr) (x:Value),v.cell? a=some x->a.block≠S.bk:=λa x ha e=>by obtain ⟨c,m,h⟩:=hb;unfold World.cell? at ha;rw[e,h] at ha;cases ha
 have clt:∀ (a:Addr) (x:Value),v.cell? a=some x->a.block<v.heap.size:=λa x ha=>World.block_lt_of_cell? _ _ ha;have hnew:∀ b,v.heap.size<=b->(∀ i,i<j->b≠v.heap.size+4+3*i+2)->Mm b=u.heap[b]?:=λb h1 h2=>by rw[hM b h2,Ko (hOw b h1).1 (hOw b h1).2]
 have hold:∀ (a:Addr) (x:Value),v.cell? a=some x->¬ Own S K a.block->Mm a.block=v.heap[a.block]?:=λa x ha ho=>by rw[hM a.block (λi _=>by have:=clt a x ha;omega),Ko ho (cbk a x ha),s.old _ (clt a x ha)]
 have some_of:∀ (a:Addr) (x:Value),v.cell? a=some x->∃ o,v.heap[a.block]? = some o:=λa x ha=>⟨_,Qm (clt a x ha)⟩
 have holdc:∀ (w:World),Has Mm w->∀ (a:Addr) (x:Value),v.cell? a=some x->¬ Own S K a.block->w.cell? a=some x:=λw hw a x ha ho=>by obtain ⟨o,e⟩:=some_of a x ha;have:=hw a.block o (by rw[hold a x ha ho,e]);rw[World.cell?_of_block (w:=v) (w':=w) (by rw[this,e])];exact ha
 have newc:∀ (w:World),Has Mm w->∀ (a:Addr) (x:Value),v.heap.size<=a.block->(∀ i,i<j->a.block≠v.heap.size+4+3*i+2)->u.cell? a=some x->w.cell? a=some x:=λw hw a x h1 h2 ha=>by have hl:=World.block_lt_of_cell? _ _ ha;have e:u.heap[a.block]? = some u.heap[a.block]:=Qm hl;have:=hw a.block _ (by rw[hnew a.block h1 h2,e]);rw[World.cell?_of_block (w:=u) (w':=w) (by rw[this,e])];exact ha
 have pklt:∀ b,pk b≠none->b<v.heap.size:=λb hb=>by obtain ⟨o,ho⟩:=Option.ne_none_iff_exists'.1 hb;exact (Qb (t.hpk b o ho)).1
 have pknone:∀ b,v.heap.size<=b->pk b=none:=λb hb=>by
  cases h9:pk b with
  |none=>rfl
  |some o=>have:=pklt b (by rw[h9];simp);omega
 have pkM:∀ b,pk b≠none->Mm b=pk b:=λb hb=>by have hl:=pklt b hb;rw[hM b (λi _=>by omega),Ko (t.po b hb).1 (t.po b hb).2,s.old b hl];obtain ⟨o,ho⟩:=Option.ne_none_iff_exists'.1 hb;rw[ho];exact t.hpk b o ho
 have hb3:=s.blk j hj;have hln:=t.len j hj;have c1:∀ {b:Nat} {x:Value} {ty:TypeId},u.heap[b]? = some (.cells #[x] ty)->u.cell? ⟨b,0,none⟩=some x:=λ{b x ty} h=>by unfold World.cell?;rw[h];rfl
 have hab:0<ln j->Mm (v.heap.size+4+3*j+2)≠none:=λ_=>by rw[hnew _ (by omega) (λi hi=>by omega),hb3.2.2];simp
 refine ⟨hj,λw hw=>⟨?_,?_,?_,?_,?_,?_⟩,λh tb gc b0 hh hb0=>⟨⟨hh,?_,t.ca j hj,λh0=>?_,λh0=>?_,λh0=>?_,λh0=>?_,t.row⟩,rfl,rfl,rfl,rfl,rfl,rfl,rfl,rfl,rfl,⟨rfl,rfl,hmine _ rfl rfl rfl rfl⟩,λw hw hbx=>⟨hbx,λk c hk=>?_,λh0=>?_,?_,λb o hb=>?_⟩,λb hp=>?_,λb hp hf=>?_,?_⟩⟩;exact newc w hw ⟨v.heap.size+3,j,none⟩ _ (by show _<=v.heap.size+3;omega) (λi hi=>by show v.heap.size+3≠_;omega) (s.brow.cell hj);exact newc w hw ⟨_,0,none⟩ _ (by show _<=v.heap.size+4+3*j+1;omega) (λi hi=>by show v.heap.size+4+3*j+1≠_;omega) (by show u.cell? ⟨v.heap.size+4+3*j+1,0,none⟩=some (.slice (pc j) (cl j).length (cp j));rw[hln.1];exact c1 hb3.2.1);exact newc w hw ⟨_,0,none⟩ _ (by show _<=v.heap.size;omega) (λi hi=>by show v.heap.size≠_;omega) (c1 s.p2);exact newc w hw ⟨_,0,none⟩ _ (by show _<=v.heap.size+2;omega) (λi hi=>by show v.heap.size+2≠_;omega) (c1 s.p3);exact newc w hw ⟨_,0,none⟩ _ (by show _<=v.heap.size+4+3*j;omega) (λi hi=>by show v.heap.size+4+3*j≠_;omega) (c1 hb3.1);exact newc w hw ⟨v.heap.size+1,j,none⟩ _ (by show _<=v.heap.size+1;omega) (λi hi=>by show v.heap.size+1≠_;omega) (s.rrow.cell hj)
 .show ((cl j).length:Int)<_
  rw[hln.1];omega
 .have h0':0<ln j:=by rw[<-hln.1];exact h0
  show pc j=some ⟨if ln j=0 then b0 else rb j,roOf (pc j),none⟩;rw[if_neg (by omega)];exact (t.pq j hj h0').1
 .have h0':0<ln j:=by rw[<-hln.1];exact h0
  show Value.slice (some ⟨v.heap.size+4+3*j+2,0,none⟩) (ln j) (ln j)=.slice (some ⟨if ln j=0 then b0 else v.heap.size+4+3*j+2,0,none⟩) (cl j).length (ln j);rw[if_neg (by omega),hln.1]
 .have h0':ln j=0:=by rw[<-hln.1];exact h0
  show (if ln j=0 then b0 else rb j)=b0∧(if ln j=0 then b0 else v.heap.size+4+3*j+2)=b0;rw[if_pos h0',if_pos h0'];exact ⟨rfl,rfl⟩
 .have h0':0<ln j:=by rw[<-hln.1];exact h0
  show (if ln j=0 then b0 else v.heap.size+4+3*j+2)≠b0∧(if ln j=0 then b0 else v.heap.size+4+3*j+2)≠(if ln j=0 then b0 else rb j)∧pk (if ln j=0 then b0 else v.heap.size+4+3*j+2)=none;rw[if_neg (by omega),if_neg (by omega)];obtain ⟨c,hc⟩:∃ c,(cl j)[0]? = some c:=⟨_,Qf h0⟩
  have hcl:=clt _ _ (t.call j hj 0 c hc).1;simp only at hcl;exact ⟨hb0 _ (hab h0'),by omega,pknone _ (by omega)⟩
 .have hk':(cl j)[k]? = some c:=hk
  have h0:0<ln j:=by have:=(Qc hk').1;omega
  have ho:=(t.pq j hj h0).2;have h4:=t.call j hj k c hk';show w.cell? ⟨if ln j=0 then b0 else rb j,_,none⟩=_∧w.cell? ⟨if ln j=0 then b0 else rb j,_,none⟩=_∧w.cell? ⟨if ln j=0 then b0 else rb j,_,none⟩=_∧w.cell? ⟨if ln j=0 then b0 else rb j,_,none⟩=_;rw[if_neg (by omega)];exact ⟨holdc w hw _ _ h4.1 ho,holdc w hw _ _ h4.2.1 ho,holdc w hw _ _ h4.2.2.1 ho,holdc w hw _ _ h4.2.2.2 ho⟩
 .have h0':0<ln j:=by rw[<-hln.1];exact h0
  show w.heap[if ln j=0 then b0 else v.heap.size+4+3*j+2]? = some (.cells (arow (List.replicate (ln j) (0,0))).toArray 48 (0,0));rw[if_neg (by omega),<-made_arow];exact hw _ _ (by rw[hnew _ (by omega) (λi hi=>by omega)];exact hb3.2.2)
 .show (List.replicate (ln j) ((0:Int),(0:Int))).length=(cl j).length
  rw[List.length_replicate,hln.1]
 exact hw b o (by rw[pkM b (by have hb':pk b=some o:=hb;rw[hb'];simp)];exact hb)
 .have mm:∀ (a:Addr) (x:Value),v.cell? a=some x->¬ Own S K a.block->Mm a.block≠none:=λa x ha ho=>by obtain ⟨o,e⟩:=some_of a x ha;rw[hold a x ha ho,e];simp
  by_cases h0:ln j=0
  .simp only[Fix.Pr,scrOf,if_pos h0] at hp
   rcases hp with h|h|h|h;exact .inl h;exact .inl h;exact .inl h;exact .inr (by rw[pkM b h];exact h)
  .simp only[Fix.Pr,scrOf,if_neg h0] at hp
   rcases hp with h|h|h|h;exact .inl h
   .subst h
    obtain ⟨c,hc⟩:∃ c,(cl j)[0]? = some c:=⟨_,Qf (by omega)⟩
    exact .inr (mm _ _ (t.call j hj 0 c hc).1 (t.pq j hj (by omega)).2)
   subst h;exact .inr (hab (by omega));exact .inr (by rw[pkM b h];exact h)
 .obtain ⟨i,h1,h2,h3,rfl⟩:=(hF b).1 hf
  have hn0:v.heap.size+4+3*i+2≠b0:=hb0 _ (by rw[hnew _ (by omega) (λi' hi'=>by omega),(s.blk i h2).2.2];simp)
  by_cases h0:ln j=0
  .simp only[Fix.Pr,scrOf,if_pos h0] at hp ⊢
   rcases hp with h|h|h|h<;>first|exact absurd h hn0|omega|exact absurd (pknone _ (by omega)) h
  .simp only[Fix.Pr,scrOf,if_neg h0] at hp ⊢
   obtain ⟨c,hc⟩:∃ c,(cl j)[0]? = some c:=⟨_,Qf (by omega)⟩
   have hcl:=clt _ _ (t.call j hj 0 c hc).1;simp only at hcl;rcases hp with h|h|h|h<;>first|exact absurd h hn0|omega|exact absurd (pknone _ (by omega)) h
 .show (if ln j=0 then b0 else v.heap.size+4+3*j+2)=b0∨Fut (if ln j=0 then b0 else v.heap.size+4+3*j+2)
  by_cases h0:ln j=0;rw[if_pos h0];exact .inl rfl;rw[if_neg h0];exact .inr ((hF _).2 ⟨j,Qi _,hj,by omega,rfl⟩)
theorem scripts_of (hmine:∀ X:Fix mc,X.fid=fid->X.caps=caps->X.pk=pk->X.kb=K.map (·.1)->P.Mine X) (hm:Mem zn S K v) (hb:Open v S.bk) (t:Told v S K pk n pc ln cp rb cl) (s:Set20 v fid (mc.bn caps) (mc.fr caps) n pc ln cp u):∀ (m j:Nat),j+m=n->∀ (Mm:Nat->Option Obj) (Fut:Nat->Prop),(∀ b,(∀ i,i<j->b≠v.heap.size+4+3*i+2)->Mm b=allM S K u b)->(∀ b,Fut b↔futOf v.heap.size n ln j b) ->
 Scripts P (v.heap.size+3) (K.map (·.1)) j Mm Fut ((List.range' j m).map (scrOf mc fid caps pk v.heap.size n (K.map (·.1)) pc ln cp rb cl))
 |0,j,hjm,Mm,Fut,hM,hF=>.nil
 |m+1,j,hjm,Mm,Fut,hM,hF=>by
  have hj:j<n:=by omega
  have hbk:S.bk<v.heap.size:=by obtain ⟨c,m,h⟩:=hb;exact (Qb h).1
  have hOw:∀ b,v.heap.size<=b->¬ Own S K b∧b≠S.bk:=λb hb=>⟨λh=>by have:=hm.lt h;omega,by omega⟩
  rw[List.range'_succ,List.map_cons];refine .cons (script_of hmine hm hb t s hj hM hF) (λh tb gc b0 hb0=>?_);refine scripts_of hmine hm hb t s m (j+1) (by omega) _ _ (λb hbi=>?_) (λb=>?_)
  .show (if b=(if ln j=0 then b0 else v.heap.size+4+3*j+2) then none else Mm b)=_
   by_cases h0:ln j=0
   .rw[if_pos h0]
    by_cases e:b=b0
    .rw[if_pos e,<-hM b (λi hi=>hbi i (by omega))]
     cases h9:Mm b with
     |none=>rfl
     |some o=>exact absurd e (hb0 b (by rw[h9];simp))
    .rw[if_neg e]
     exact hM b (λi hi=>hbi i (by omega))
   .rw[if_neg h0,if_neg (hbi j (by omega))]
    exact hM b (λi hi=>hbi i (by omega))
  .show Fut b∧b≠(if ln j=0 then b0 else v.heap.size+4+3*j+2)↔_
   rw[hF b];constructor
   .rintro ⟨⟨i,h1,h2,h3,rfl⟩,hne⟩
    refine ⟨i,?_,h2,h3,rfl⟩;rcases Nat.lt_or_ge j i with h4|h4;omega
    .have:i=j:=by omega
     subst this;rw[if_neg (by omega)] at hne;exact absurd rfl hne
   .rintro ⟨i,h1,h2,h3,rfl⟩
    refine ⟨⟨i,by omega,h2,h3,rfl⟩,?_⟩;by_cases h0:ln j=0
    .rw[if_pos h0]
     refine hb0 _ ?_;rw[hM _ (λi' hi'=>by omega),Ko (hOw _ (by omega)).1 (hOw _ (by omega)).2,(s.blk i h2).2.2];simp
    rw[if_neg h0];omega
end
variable {mc:Mc}{fid:FuncId}{P:Pkg mc fid}
section
variable {S:TS}{K:List (Nat×Int)}{caps:Array Value}{pk:Nat->Option Obj}{n:Nat}{pc:Nat->Option Addr}{ln cp rb:Nat->Nat}{cl:Nat->List Cl}
abbrev scrs (mc:Mc) (fid:FuncId) (caps:Array Value) (pk:Nat->Option Obj) (N n:Nat) (K:List (Nat×Int)) (pc:Nat->Option Addr) (ln cp rb:Nat->Nat) (cl:Nat->List Cl):List (Scr mc):=(List.range' 0 n).map (scrOf mc fid caps pk N n (K.map (·.1)) pc ln cp rb cl)
structure Out20 (w:World) (S:TS) (K:List (Nat×Int)) (n:Nat) (ln:Nat->Nat) (S':TS) (K':List (Nat×Int)) (l:Nat->Ph) (w':World):Prop where
 mem:Mem zn S' K' w'
 size:w.heap.size<=w'.heap.size
 old:∀ b,b<w.heap.size->¬ Own S K b->b≠S.bk->w'.heap[b]? = w.heap[b]?∧¬ Own S' K' b
 rows:∀ j,j<n->w'.cell? ⟨w.heap.size+1,j,none⟩=some (.slice (some ⟨w.heap.size+4+3*j+2,0,none⟩) (ln j) (ln j))
 ans:∀ j,j<n->(l j).ans.length=ln j∧(0<ln j->w'.heap[w.heap.size+4+3*j+2]? = some (.cells (arow (l j).ans).toArray 48 (0,0)))∧∃ a,l j=.done a
 os:w'.os=w.os
 out:w'.output=w.output
theorem run20_all (P:Pkg mc fid) (hmine:∀ X:Fix mc,X.fid=fid->X.caps=caps->X.pk=pk->X.kb=K.map (·.1)->P.Mine X) (hkk:KOk mc K) {sb so cap:Nat}{cs:List Frame}{bc:Frame}{ac:Act}{ops:Array Oper}{q0:Nat}{rest:List Nat}{oc:Oper}{k0:List Item}(hoc:ops[q0]? = some oc) {w:World}{T:Trace}{gs:Array Goroutine}{q:Nat->Nat}(sl:Option (Nat×Nat)) (NT:Nat) (A:Alone gs w T q)
 (hg:gs[0]? = some (G ((base 37).at { tmps:=#[Pt S.wb 0,.slice (some ⟨sb,so,none⟩) n cap,.func (.func fid) (mc.bn caps) (mc.fr caps)]++Array.replicate 36 undef,defers:=[] } [.code B20]) (bc.at ac (.inRegion ops (q0 :: rest) :: k0) :: cs)))
 (hm:Mem zn S K w) (hthr:S.thr=[]) (hran:S.ran=false) (hbk:Open w S.bk) (t:Told w S K pk n pc ln cp rb cl) (hs:∀ k,k<n->w.cell? ⟨sb,so+k,none⟩=some (.slice (pc k) (ln k) (cp k))) (hsb:sb<w.heap.size) (hn8:n<=8)
 (hlen:S.n+2*lens (scrs mc fid caps pk w.heap.size n K pc ln cp rb cl)<=1000000) (hsl:S.sched.length<=4611686018427387904) (hsc:∀ x∈S.sched,-9223372036854775808<=x∧x<9223372036854775808) (l0:Nat->Ph)
 (hturn:∀ S1 l1,Hires mc 0 (scrs mc fid caps pk w.heap.size n K pc ln cp rb cl) (nv { S with ran:=true }) l0 S1 l1->∃ m p',m<=NT∧Turns mc m ⟨S1,K,l1⟩ p'∧p'.S.n*40<=140737488355328):
 ∃ (N':Nat) (gs':Array Goroutine) (w':World) (sl':Option (Nat×Nat)) (T':Trace) (q':Nat->Nat) (S':TS) (S1:TS) (l1:Nat->Ph) (m:Nat) (p':PSt),
   runNT Tryd.prog N' (crowd gs w sl) T=(.next (crowd gs' w' sl'),T')∧gs'.size=gs.size+n∧gs'[0]? = some (G (bc.at (ac.put oc.dst (.slice (some ⟨w.heap.size+1,0,none⟩) n n)) (.inRegion ops rest :: k0)) cs) ∧
   Alone gs' w' T' q'∧nv S'=p'.S∧Hires mc 0 (scrs mc fid caps pk w.heap.size n K pc ln cp rb cl) (nv { S with ran:=true }) l0 S1 l1∧Turns mc m ⟨S1,K,l1⟩ p'∧Out20 w S K n ln S' p'.K p'.l w':=by
 have hG:GoesI Tryd.prog true (DT (ScZ zn) (λ_=>False)) (λg w'=>∃ (bd:Frame) (ad:Act) (od:Array Oper) (qd:Nat) (rd:List Nat) (oe:Oper) (kd:List Item),Set20 w fid (mc.bn caps) (mc.fr caps) n pc ln cp w'∧od[qd]? = some oe ∧
  (∀ (Ch:Nat->Prop) (Stop:Goroutine->World->Prop) (w1:World) (x:Value),w1.cell? ⟨w.heap.size+2,0,none⟩=some x->(∀ d,GoT zn true Ch Stop (G (bc.at (ac.put oc.dst x) (.inRegion ops rest :: k0)) cs) (w1.at d))->GoT zn true Ch Stop (G (bd.at (ad.put oe.dst (.tuple #[])) (.inRegion od rd :: kd)) (bc.at ac (.inRegion ops (q0 :: rest) :: k0) :: cs)) w1) ∧
  g=G ((base 61).at { tmps:=#[Pt S.wb 0,.slice (some ⟨w.heap.size+3,0,none⟩) n n]++Array.replicate 60 undef,defers:=[] } [.code B35]) (bd.at ad (.inRegion od (qd :: rd) :: kd) :: bc.at ac (.inRegion ops (q0 :: rest) :: k0) :: cs)) (G ((base 37).at { tmps:=#[Pt S.wb 0,.slice (some ⟨sb,so,none⟩) n cap,.func (.func fid) (mc.bn caps) (mc.fr caps)]++Array.replicate 36 undef,defers:=[] } [.code B20]) (bc.at ac (.inRegion ops (q0 :: rest) :: k0) :: cs)) w:=by
  refine run20_in fid (mc.bn caps) (mc.fr caps) S.wb sb so n cap hn8 pc ln cp (λk hk=>(t.len k hk).2) hs cs hoc hsb (Rel.refl w) (λc hc=>hc.elim) (λv' w' bd ad od qd rd oe kd hr hn hset ho hback=>GoesI.stop λd=>⟨bd,ad,od,qd,rd,oe,kd,?_,ho,hback,rfl⟩);have e:(w'.at d).heap=v'.heap:=hr.eq;exact ⟨by rw[e];exact hset.size,by rw[e];exact hset.p2,hset.rrow.of_block (by rw[e]),by rw[e];exact hset.p3,hset.brow.of_block (by rw[e]),λj hj=>by rw[e];exact hset.blk j hj,λb hb=>by rw[e];exact hset.old b hb,hr.os.trans hset.os,hr.output.trans hset.out⟩
 obtain ⟨N1,gs1,a1,w1,sl1,T1,q1,r1,z1,h1,⟨bd,ad,od,qd,rd,oe,kd,hset,hoe,hback,rfl⟩,A1⟩:=Ef A hg sl hG;have hbkl:S.bk<w.heap.size:=by obtain ⟨c,m,h⟩:=hbk;exact (Qb h).1
 have hm1:Mem zn S K w1:=(hm.grows ⟨by rw[hset.size];omega,hset.old,hset.os,hset.out⟩).mem;have hbk1:Open w1 S.bk:=by obtain ⟨c,m,h⟩:=hbk;exact ⟨c,m,by rw[hset.old _ hbkl];exact h⟩
 obtain ⟨B1,hB1,hP1⟩:=A1.past;have sc:=scripts_of hmine hm hbk t hset n 0 (by omega) (allM S K w1) (futOf w.heap.size n ln 0) (λb _=>rfl) (λb=>Iff.rfl);obtain ⟨N2,gs2,w2,sl2,T2,q2,B2,S2,X2,Mm2,S1,l1,m,p',r2,z2,h2,hL2,hP2,hB2,hm2,hnv,hH,hT,hHas,hMo,hio,hXs,hPM,hMa,hMb⟩:=run35_all P hkk hoe (S:=S) (w:=w1) sl1 (Mm:=⟨allM S K w1,w1.os,w1.output⟩) (Fut:=futOf w.heap.size n ln 0) (ss:=scrs mc fid caps pk w.heap.size n K pc ln cp rb cl) NT A1.left hP1 hB1 h1 hm1 hthr hran hbk1 allM_has (λb hb=>(allM_own hb).1) (by
  show allM S K w1 S.bk=none;unfold allM;rw[if_pos (.inr rfl)]) ⟨rfl,rfl⟩ (λb ⟨i,_,hi,h0,e⟩=>by
  subst e;show allM S K w1 _≠none;rw[Ko (λh=>by have:=hm.lt h;omega) (by omega),(hset.blk i hi).2.2];simp) sc (by simp) hn8 hlen hsl hsc l0 hturn
 have hXj:∀ j,j<n->∃ h tb gc b0,X2 j=(scrOf mc fid caps pk w.heap.size n (K.map (·.1)) pc ln cp rb cl j).X h tb gc b0:=λj hj=>by have:=hXs j (scrOf mc fid caps pk w.heap.size n (K.map (·.1)) pc ln cp rb cl j) (by simp[scrs,hj]);rw[Nat.zero_add] at this;exact this
 have hab:∀ j,j<n->0<ln j->(X2 j).ab=w.heap.size+4+3*j+2:=λj hj h0=>by obtain ⟨h,tb,gc,b0,e⟩:=hXj j hj;rw[e];show (if ln j=0 then b0 else _)=_;rw[if_neg (by omega)]
 have hkeep:∀ b o,allM S K w1 b=some o->(∀ j,j<n->b≠w.heap.size+4+3*j+2)->w2.heap[b]? = some o∧¬ Own S2 p'.K b:=λb o hb hne=>by
  have h9:Mm2.M b=some o:=by
   rcases hMb b o hb with h|⟨j,hj,h3,h4⟩
   exact h
   .exfalso
    by_cases h0:0<ln j;exact hne j hj (h3.trans (hab j hj h0))
    .obtain ⟨h,tb,gc,b0,e⟩:=hXj j hj
     rw[e] at h3 h4;apply h4;rw[h3];show (if ln j=0 then b0 else _)=b0;rw[if_pos (by omega)]
  exact ⟨hHas b o h9,hMo b (by rw[h9];simp)⟩
 have hnew:∀ b o,w.heap.size<=b->w1.heap[b]? = some o->(∀ j,j<n->b≠w.heap.size+4+3*j+2)->w2.heap[b]? = some o:=λb o hb h hne=>(hkeep b o (by rw[Ko (λh=>by have:=hm.lt h;omega) (by omega)];exact h) hne).1;have c2:w2.cell? ⟨w.heap.size+2,0,none⟩=some (.slice (some ⟨w.heap.size+1,0,none⟩) n n):=by unfold World.cell?;rw[hnew _ _ (by show _<=w.heap.size+2;omega) hset.p3 (λj hj=>by show w.heap.size+2≠_;omega)];rfl
 have A2:Alone gs2 w2 T2 q2:=⟨hL2,B2,hB2,hP2⟩
 obtain ⟨N3,gs3,a3,w3,sl3,T3,q3,r3,z3,h3,⟨rfl,d3,rfl⟩,A3⟩:=Ef A2 h2 sl2 (hback (λ_=>False) (λg w'=>g=G (bc.at (ac.put oc.dst (.slice (some ⟨w.heap.size+1,0,none⟩) n n)) (.inRegion ops rest :: k0)) cs∧∃ d,w'=w2.at d) w2 _ c2 (λd=>GoesI.stop λd'=>⟨rfl,d',rfl⟩));refine ⟨N1+N2+N3,gs3,w2.at d3,sl3,T3,q3,S2,S1,l1,m,p',runNT_then (runNT_then r1 r2) r3,by omega,h3,A3,hnv,hH,hT,⟨?_,?_,λb hb ho hk=>?_,λj hj=>?_,λj hj=>?_,?_,?_⟩⟩;exact (hm2.grows (v':=w2.at d3) ⟨Qi _,λ_ _=>rfl,rfl,rfl⟩).mem
 .show w.heap.size<=w2.heap.size
  have:=(Qb (hnew _ _ (by omega:w.heap.size<=w.heap.size+2) hset.p3 (λj hj=>by omega))).1;omega
 .have e:w.heap[b]? = some w.heap[b]:=Qm hb
  have:=hkeep b _ (by rw[Ko ho hk,hset.old b hb];exact e) (λj hj=>by omega);exact ⟨this.1.trans e.symm,this.2⟩
 .have hl:=hset.rrow.lt
  have e:w1.heap[w.heap.size+1]? = some w1.heap[w.heap.size+1]:=Qm hl;have h9:=hnew _ _ (by omega) e (λj hj=>by omega);show w2.cell? _=_;rw[World.cell?_of_block (w:=w1) (w':=w2) (by show w2.heap[w.heap.size+1]? = w1.heap[w.heap.size+1]?;rw[h9,e])];exact hset.rrow.cell hj
 .obtain ⟨hpm,hd⟩:=hPM j hj
  obtain ⟨h,tb,gc,b0,e⟩:=hXj j hj;have hc:(X2 j).calls.length=ln j:=by rw[e];exact (t.len j hj).1
  refine ⟨hpm.len.trans hc,λh0=>?_,hd⟩;have:=hpm.row (by rw[hc];exact h0);rw[hab j hj h0] at this;rw[e] at this;exact this
 exact hio.1.trans hset.os;exact hio.2.trans hset.out
end
end Go.Proofs.YtbbhahigofeacaaDoor.Gen
namespace Go.Lift
open Go.Conc
variable {t:TypeId} {o:Oper}
section
variable {P:Program}{wr:Bool}
theorem Jm {α σ:Type}{f:α->σ->Sem (ForInStep σ)}:∀ (l:List α) (s:σ),(∀ a∈l,∀ s,calm P wr (f a s))->calm P wr (forIn l s f)
 | [],s,_=>by rw[List.forIn_nil];exact Aj _
 |a :: l,s,h=>by
  rw[List.forIn_cons];refine Af (h a (List.mem_cons_self ..) s) λx=>?_;cases x with
  |done b=>exact Aj _
  |yield b=>exact Jm l b (λa' ha=>h a' (List.mem_cons_of_mem _ ha))
theorem I0 {α σ:Type}{f:α->σ->Sem (ForInStep σ)}(l:Array α) (s:σ) (h:∀ a∈l,∀ s,calm P wr (f a s)):calm P wr (forIn l s f):=by rw[<-Array.forIn_toList];exact Jm _ _ (λa ha=>h a (by simpa using ha))
theorem J5 (ht:flatT P t=true) (d:Nat) (x y:Value):calm P wr (Op.equalIn (d+1) t x y):=by
 unfold Op.equalIn;refine Lh λd hd=>?_;unfold flatT at ht;rw[hd] at ht;split
 all_goals first|(exfalso;revert ht;simp;done)|repeat' (first|with_reducible (first|exact Ik _|exact Hz _|exact Ku _ _|exact Ec _|exact calm_noView _|exact Gy _|exact calm_partAt _ _ _|exact Iq _ _|exact calm_typeStr _|exact calm_alloc _|exact calm_box _ _|exact calm_build _ _|exact Ir _ _ _|exact calm_loadAt _ _|exact calm_fieldAt _ _ _|exact calm_indexAt _ _ _|exact Ip _ _ _|exact Fo _ _ _ _ _ _|exact calm_slice _ _ _ _ _|exact calm_sliceAt _ _ _ _ _|exact Kt _ _|exact Jk _ _ _|exact calm_field _ _ _|exact calm_index _ _ _|exact calm_extract _ _|exact calm_len _ _ _|exact calm_cap _ _ _|exact calm_lenOf _|exact F6 _ _ _|exact calm_holdsCells _ _|exact H5 _ _ _ _|exact calm_intDiv _ _ _ _|exact I4 _ _ _ _|exact calm_intCmp _ _ _|exact calm_shift _ _ _ _ _|exact Kr _ _ _|exact F5 _ _ _ _|exact H6 _ _ _ _|exact G8 _ _|exact calm_addrSub _ _ _|exact calm_addrCmp _ _ _|exact calm_addrMod _ _ _|exact G7 _ _ _|exact Ht _ _ _|exact G9 _ _ _|exact calm_unary _ _|exact Hf _ _ _|exact Aj _|exact Am _|exact An _|exact He _|exact B8 _|exact En _ _ _ _|exact Dl|exact Gh _|exact Gx _|exact Il _|exact Es _|exact Lj _ _|exact I5 _|exact Cm _|exact A8 _|exact D5 _|exact B9 _|exact calm_isAgg _|exact J6 _|exact Gw _ _|exact Gu _ _|exact Fp _|exact Gi _|exact J7 _|exact calm_asAgg _|exact E9 _|exact Ee _|exact Ha _ _|exact I3 _ _|exact Ey _ _ _|exact Ks|exact calm_markExtern _|(refine calm_arrayForIn (λ_ _=>?_) _ _)|(refine calm_rangeForIn (λ_ _=>?_) _ _)|apply calm_map|refine Af ?_ (λ_=>?_))|split|dsimp only)
theorem calm_equal_struct {fields:Array Field}(ht:P.underlying t=some (.struct fields)) (hf:∀ f∈fields,flatT P f.type=true) (x y:Value):calm P wr (Op.equal t x y):=by
 show calm P wr (Op.equalIn (9998+1+1) t x y);unfold Op.equalIn;refine Lh λd hd=>?_;rw[ht] at hd;cases hd;cases x<;>try exact Am _
 cases y<;>try exact Am _
 rename_i xs ys;simp only;refine Af Dl λp=>?_;split
 .refine Af (An _) λ_=>?_
  refine Af (I0 _ _ λf hff s=>?_) λs=>?_
  .split
   .refine Af (Ey _ _ _) λa=>Af (Ey _ _ _) λb=>Af (J5 (hf f hff) 9998 a b) λc=>?_
    split<;>exact Aj _
   exact Aj _
  .split<;>exact Aj _
 .skip
  refine Af (I0 _ _ λf hff s=>?_) λs=>?_
  .split
   .refine Af (Ey _ _ _) λa=>Af (Ey _ _ _) λb=>Af (J5 (hf f hff) 9998 a b) λc=>?_
    split<;>exact Aj _
   exact Aj _
  .split<;>exact Aj _
end
section
variable {P:Program}{wr:Bool}{L:FuncId->Prop}
def flatS (P:Program) (t:TypeId):Bool:=match P.underlying t with
 |some (.struct fs)=>fs.all (λf=>flatT P f.type)
 |_=>false
def askEq (P:Program):Op->Bool
 |.binOp .eql t _ _ _=>flatS P t
 |.binOp .neq t _ _ _=>flatS P t
 |_=>false
theorem calm_flatS (h:flatS P t=true) (x y:Value):calm P wr (Op.equal t x y):=by
 unfold flatS at h;split at h
 .rename_i fs e
  exact calm_equal_struct e (λf hf=>(Array.all_eq_true_iff_forall_mem.1 h) f hf) x y
 cases h
theorem fineOp_eq (h:askEq P o.op=true):Ek P wr L o:=by
 obtain ⟨dst,op,type,pos,after,guard⟩:=o;unfold askEq at h;simp only at h;split at h
 .rename_i t x y t'
  refine λa=>?_;have he:execOp a.eval { dst:=dst,op:=.binOp .eql t x y t',type:=type,pos:=pos,after:=after,guard:=guard }=(do eqGuard .eql t x y (a.eval x) (a.eval y);binOp .eql t (a.eval x) (a.eval y):Sem Value).bind λv=>Sem.pure (Next.value v):=rfl;rw[he];exact ⟨Dw (Af (calm_eqGuard _ _ _ _ _ _) λ_=>calm_binOp _ _ _ _ (λ_=>calm_flatS h _ _)) λ_=>trivial,λw x w' h=>.inl (val_out h)⟩
 .rename_i t x y t'
  refine λa=>?_;have he:execOp a.eval { dst:=dst,op:=.binOp .neq t x y t',type:=type,pos:=pos,after:=after,guard:=guard }=(do eqGuard .neq t x y (a.eval x) (a.eval y);binOp .neq t (a.eval x) (a.eval y):Sem Value).bind λv=>Sem.pure (Next.value v):=rfl;rw[he];exact ⟨Dw (Af (calm_eqGuard _ _ _ _ _ _) λ_=>calm_binOp _ _ _ _ (λ_=>calm_flatS h _ _)) λ_=>trivial,λw x w' h=>.inl (val_out h)⟩
 cases h
def askMax:Op->Bool
 |.call { callee:=.builtin .max,args:=ar,.. }=>match ar.toList with
  | [_,.const (.int _ _)]=>true
  |_=>false
 |_=>false
theorem calm_max2 (x:Value) (k:IntKind) (y:Int):calm P wr (Builtin.max2 x (.int k y)):=by
 cases x<;>first|exact Aj _|exact Am _|(rename_i p;cases p<;>first|exact Am _|exact An _)
theorem fineOp_max (h:askMax o.op=true):Ek P wr L o:=by
 obtain ⟨dst,op,type,pos,after,guard⟩:=o;unfold askMax at h;simp only at h;split at h
 .rename_i ar ats
  split at h
  .rename_i x k y e
   refine λa=>?_;have he:execOp a.eval { dst:=dst,op:=.call { callee:=.builtin .max,args:=ar,argTypes:=ats },type:=type,pos:=pos,after:=after,guard:=guard }=(Builtin.max_ ats type (ar.map a.eval)).bind λv=>Sem.pure (Next.value v):=rfl;rw[he];refine ⟨Dw ?_ λ_=>trivial,λw x w' h=>.inl (val_out h)⟩;unfold Builtin.max_;have e2:(ar.map a.eval).toList=[a.eval x,.int k y]:=by rw[Array.toList_map,e];rfl
   rw[e2];show calm P wr ([Value.int k y].foldlM Builtin.max2 (a.eval x));rw[List.foldlM_cons];exact Af (calm_max2 _ _ _) λ_=>Aj _
  cases h
 cases h
def askMin:Op->Bool
 |.call { callee:=.builtin .min,args:=ar,.. }=>match ar.toList with
  | [_,.const (.int _ _)]=>true
  |_=>false
 |_=>false
theorem calm_min2 (x:Value) (k:IntKind) (y:Int):calm P wr (Builtin.min2 x (.int k y)):=by
 cases x<;>first|exact Aj _|exact Am _|(rename_i p;cases p<;>first|exact Am _|exact An _)
theorem fineOp_min (h:askMin o.op=true):Ek P wr L o:=by
 obtain ⟨dst,op,type,pos,after,guard⟩:=o;unfold askMin at h;simp only at h;split at h
 .rename_i ar ats
  split at h
  .rename_i x k y e
   refine λa=>?_;have he:execOp a.eval { dst:=dst,op:=.call { callee:=.builtin .min,args:=ar,argTypes:=ats },type:=type,pos:=pos,after:=after,guard:=guard }=(Builtin.min_ ats type (ar.map a.eval)).bind λv=>Sem.pure (Next.value v):=rfl;rw[he];refine ⟨Dw ?_ λ_=>trivial,λw x w' h=>.inl (val_out h)⟩;unfold Builtin.min_;have e2:(ar.map a.eval).toList=[a.eval x,.int k y]:=by rw[Array.toList_map,e];rfl
   rw[e2];show calm P wr ([Value.int k y].foldlM Builtin.min2 (a.eval x));rw[List.foldlM_cons];exact Af (calm_min2 _ _ _) λ_=>Aj _
  cases h
 cases h
def Eu (P:Program) (wr:Bool) (fs:List FuncId) (xs:List (FuncId×Nat)):Code->Bool
 |.skip|.ret|.label _|.exit _=>true
 |.seq a b=>Eu P wr fs xs a&&Eu P wr fs xs b
 |.cond _ a b=>Eu P wr fs xs a&&Eu P wr fs xs b
 |.block _ c=>Eu P wr fs xs c
 |.loop c=>Eu P wr fs xs c
 |.region _ ops _=>ops.all λo=>(E5 P wr o.op||H8 fs xs o.op)||(askEq P o.op||(askMax o.op||askMin o.op))
 |_=>false
theorem Cc {fs:List FuncId}{xs:List (FuncId×Nat)}(hfs:∀ f∈fs,Eo P L f) (hxs:∀ x∈xs,ExtOk P wr x.1 x.2):∀ {c:Code},Eu P wr fs xs c=true->A7 P wr L c:=by
 intro c;induction c with
 |seq a b iha ihb=>intro h;simp only[Eu,Bool.and_eq_true] at h;exact ⟨iha h.1,ihb h.2⟩
 |cond o a b iha ihb=>intro h;simp only[Eu,Bool.and_eq_true] at h;exact ⟨iha h.1,ihb h.2⟩
 |block id c ih=>intro h;exact ih h
 |loop c ih=>intro h;exact ih h
 |region id ops d =>
  intro h;simp only[Eu,Array.all_eq_true_iff_forall_mem] at h;intro o ho;rcases Bool.or_eq_true_iff.1 (h o ho) with h|h;exact Bh hfs hxs h
  .rcases Bool.or_eq_true_iff.1 h with h|h
   exact fineOp_eq h
   .rcases Bool.or_eq_true_iff.1 h with h|h
    exact fineOp_max h;exact fineOp_min h
 |skip=>intro _;trivial
 |ret=>intro _;trivial
 |label l=>intro _;trivial
 |exit id=>intro _;trivial
 |_=>intro h;simp[Eu] at h
theorem Ah {fs:List FuncId}{xs:List (FuncId×Nat)}(hfs:∀ f∈fs,Eo P L f) (hxs:∀ x∈xs,ExtOk P wr x.1 x.2) {f:FuncId}{fn:Func}{c:Code}(hf:P.funcs[f]? = some fn) (hb:fn.body=some c) (h:Eu P wr fs xs c=true):Em P wr L f :=
 ⟨fn,c,hf,hb,Cc hfs hxs h,I2 fn⟩
end
end Go.Lift
namespace Go.Proofs.YtbbhahigofeacaaDoor
open Go Go.Lift Go.Conc Go.RowKit
def plainV:List FuncId:=[65,69,72,68,90,79,117,45,70,71,66,42,43,92,39,14,16,41,23,36,57,64,58,17,24,49,29,30,31,32,33]
def LV (f:FuncId):Prop:=f∈plainV
theorem Cb:∀ f∈plainV,Eo Tryd.prog LV f:=by
 intro f hf;have hf':=hf;simp only[plainV,List.mem_cons,List.not_mem_nil,or_false] at hf;rcases hf with rfl|rfl|rfl|rfl|rfl|rfl|rfl|rfl|rfl|rfl|rfl|rfl|rfl|rfl|rfl|rfl|rfl|rfl|rfl|rfl|rfl|rfl|rfl|rfl|rfl|rfl|rfl|rfl|rfl|rfl|rfl;exact ⟨hf',Tryd.f65,Tryd.func65,by kernel_rfl,by kernel_rfl⟩;exact ⟨hf',Tryd.f69,Tryd.func69,by kernel_rfl,by kernel_rfl⟩;exact ⟨hf',Tryd.f72,Tryd.func72,by kernel_rfl,by kernel_rfl⟩;exact ⟨hf',Tryd.f68,Tryd.func68,by kernel_rfl,by kernel_rfl⟩;exact ⟨hf',Tryd.f90,Tryd.func90,by kernel_rfl,by kernel_rfl⟩;exact ⟨hf',Tryd.f79,Tryd.func79,by kernel_rfl,by kernel_rfl⟩;exact ⟨hf',Tryd.f117,Tryd.func117,by kernel_rfl,by kernel_rfl⟩;exact ⟨hf',Tryd.f45,Tryd.func45,by kernel_rfl,by kernel_rfl⟩;exact ⟨hf',Tryd.f70,Tryd.func70,by kernel_rfl,by kernel_rfl⟩;exact ⟨hf',Tryd.f71,Tryd.func71,by kernel_rfl,by kernel_rfl⟩;exact ⟨hf',Tryd.f66,Tryd.func66,by kernel_rfl,by kernel_rfl⟩;exact ⟨hf',Tryd.f42,Tryd.func42,by kernel_rfl,by kernel_rfl⟩;exact ⟨hf',Tryd.f43,Tryd.func43,by kernel_rfl,by kernel_rfl⟩;exact ⟨hf',Tryd.f92,Tryd.func92,by kernel_rfl,by kernel_rfl⟩;exact ⟨hf',Tryd.f39,Tryd.func39,by kernel_rfl,by kernel_rfl⟩;exact ⟨hf',Tryd.f14,Tryd.func14,by kernel_rfl,by kernel_rfl⟩;exact ⟨hf',Tryd.f16,Tryd.func16,by kernel_rfl,by kernel_rfl⟩;exact ⟨hf',Tryd.f41,Tryd.func41,by kernel_rfl,by kernel_rfl⟩;exact ⟨hf',Tryd.f23,Tryd.func23,by kernel_rfl,by kernel_rfl⟩;exact ⟨hf',Tryd.f36,Tryd.func36,by kernel_rfl,by kernel_rfl⟩
 exact ⟨hf',Tryd.f57,Tryd.func57,by kernel_rfl,by kernel_rfl⟩;exact ⟨hf',Tryd.f64,Tryd.func64,by kernel_rfl,by kernel_rfl⟩;exact ⟨hf',Tryd.f58,Tryd.func58,by kernel_rfl,by kernel_rfl⟩;exact ⟨hf',Tryd.f17,Tryd.func17,by kernel_rfl,by kernel_rfl⟩;exact ⟨hf',Tryd.f24,Tryd.func24,by kernel_rfl,by kernel_rfl⟩;exact ⟨hf',Tryd.f49,Tryd.func49,by kernel_rfl,by kernel_rfl⟩;exact ⟨hf',Tryd.f29,Tryd.func29,by kernel_rfl,by kernel_rfl⟩;exact ⟨hf',Tryd.f30,Tryd.func30,by kernel_rfl,by kernel_rfl⟩;exact ⟨hf',Tryd.f31,Tryd.func31,by kernel_rfl,by kernel_rfl⟩;exact ⟨hf',Tryd.f32,Tryd.func32,by kernel_rfl,by kernel_rfl⟩;exact ⟨hf',Tryd.f33,Tryd.func33,by kernel_rfl,by kernel_rfl⟩
theorem G5:∀ f,LV f->Em Tryd.prog true LV f:=by
 intro f hf;simp only[LV,plainV,List.mem_cons,List.not_mem_nil,or_false] at hf;rcases hf with rfl|rfl|rfl|rfl|rfl|rfl|rfl|rfl|rfl|rfl|rfl|rfl|rfl|rfl|rfl|rfl|rfl|rfl|rfl|rfl|rfl|rfl|rfl|rfl|rfl|rfl|rfl|rfl|rfl|rfl|rfl;exact Ah Cb extT Tryd.func65 (c:=Tryd.f65.body.getD .skip) (by rfl) (by kernel_rfl);exact Ah Cb extT Tryd.func69 (c:=Tryd.f69.body.getD .skip) (by rfl) (by kernel_rfl);exact Ah Cb extT Tryd.func72 (c:=Tryd.f72.body.getD .skip) (by rfl) (by kernel_rfl);exact Ah Cb extT Tryd.func68 (c:=Tryd.f68.body.getD .skip) (by rfl) (by kernel_rfl);exact Ah Cb extT Tryd.func90 (c:=Tryd.f90.body.getD .skip) (by rfl) (by kernel_rfl);exact Ah Cb extT Tryd.func79 (c:=Tryd.f79.body.getD .skip) (by rfl) (by kernel_rfl);exact Ah Cb extT Tryd.func117 (c:=Tryd.f117.body.getD .skip) (by rfl) (by kernel_rfl);exact Ah Cb extT Tryd.func45 (c:=Tryd.f45.body.getD .skip) (by rfl) (by kernel_rfl);exact Ah Cb extT Tryd.func70 (c:=Tryd.f70.body.getD .skip) (by rfl) (by kernel_rfl);exact Ah Cb extT Tryd.func71 (c:=Tryd.f71.body.getD .skip) (by rfl) (by kernel_rfl);exact Ah Cb extT Tryd.func66 (c:=Tryd.f66.body.getD .skip) (by rfl) (by kernel_rfl);exact Ah Cb extT Tryd.func42 (c:=Tryd.f42.body.getD .skip) (by rfl) (by kernel_rfl);exact Ah Cb extT Tryd.func43 (c:=Tryd.f43.body.getD .skip) (by rfl) (by kernel_rfl);exact Ah Cb extT Tryd.func92 (c:=Tryd.f92.body.getD .skip) (by rfl) (by kernel_rfl);exact Ah Cb extT Tryd.func39 (c:=Tryd.f39.body.getD .skip) (by rfl) (by kernel_rfl)
 exact Ah Cb extT Tryd.func14 (c:=Tryd.f14.body.getD .skip) (by rfl) (by kernel_rfl);exact Ah Cb extT Tryd.func16 (c:=Tryd.f16.body.getD .skip) (by rfl) (by kernel_rfl);exact Ah Cb extT Tryd.func41 (c:=Tryd.f41.body.getD .skip) (by rfl) (by kernel_rfl);exact Ah Cb extT Tryd.func23 (c:=Tryd.f23.body.getD .skip) (by rfl) (by kernel_rfl);exact Ah Cb extT Tryd.func36 (c:=Tryd.f36.body.getD .skip) (by rfl) (by kernel_rfl);exact Ah Cb extT Tryd.func57 (c:=Tryd.f57.body.getD .skip) (by rfl) (by kernel_rfl);exact Ah Cb extT Tryd.func64 (c:=Tryd.f64.body.getD .skip) (by rfl) (by kernel_rfl);exact Ah Cb extT Tryd.func58 (c:=Tryd.f58.body.getD .skip) (by rfl) (by kernel_rfl);exact Ah Cb extT Tryd.func17 (c:=Tryd.f17.body.getD .skip) (by rfl) (by kernel_rfl);exact Ah Cb extT Tryd.func24 (c:=Tryd.f24.body.getD .skip) (by rfl) (by kernel_rfl);exact Ah Cb extT Tryd.func49 (c:=Tryd.f49.body.getD .skip) (by rfl) (by kernel_rfl);exact Ah Cb extT Tryd.func29 (c:=Tryd.f29.body.getD .skip) (by rfl) (by kernel_rfl);exact Ah Cb extT Tryd.func30 (c:=Tryd.f30.body.getD .skip) (by rfl) (by kernel_rfl);exact Ah Cb extT Tryd.func31 (c:=Tryd.f31.body.getD .skip) (by rfl) (by kernel_rfl);exact Ah Cb extT Tryd.func32 (c:=Tryd.f32.body.getD .skip) (by rfl) (by kernel_rfl);exact Ah Cb extT Tryd.func33 (c:=Tryd.f33.body.getD .skip) (by rfl) (by kernel_rfl)
end Go.Proofs.YtbbhahigofeacaaDoor
namespace Go.Proofs.YtbbhahigofeacaaDoor.Gen
open Go Go.Lift Go.Conc Go.RowKit
variable {u v:World} {z:Nat->Option Nat} {S:TS} {n:Nat} {a:Act} {l:List (Nat×Value)}
def newS (wb bk base:Nat) (sc:Value) (xs:List Int):TS :=
 { wb:=wb,bk:=bk,base:=base,us:=0,n:=0,la:=-1,sc:=sc,cv:=.slice none 0 0,ths:=.slice none 0 0,tv:=.slice none 0 0,sched:=xs,chg:=[],tr:=[],stk:=false,ran:=false,thr:=[] }
structure IsNew (v:World) (xs:List Int) (wb bk:Nat) (sc:Value) (v':World):Prop where
 mem:Mem zn (newS wb bk v.heap.size sc xs) [] v'
 opn:Open v' bk
 new:∀ b,Own (newS wb bk v.heap.size sc xs) [] b∨b=bk->v.heap.size<=b
 old:Grows v v'
abbrev rowNew (sc:Value) (bk:Nat):Array Value:=#[sc,I 0,I (-1),.slice none 0 0,.slice none 0 0,.slice none 0 0,.bool false,.bool false,.chan (some bk)]
theorem new_rep {v':World}{xs:List Int}{g cap bk m:Nat}(hg:Grows v u) (hown:u.ownsRow v.heap.size 3 1 (.slice (some ⟨g,0,none⟩) m cap) m (xs.map I)) (hl:xs.length=m) (hbk:u.heap[bk]? = some (.chan 0 #[] false 0 0 false)) (hb:v.heap.size<=bk)
 (hh:v'.heap=u.heap.push (.cells (rowNew (.slice (some ⟨g,0,none⟩) m cap) bk) 77)) (ho:v'.os=u.os) (hu:v'.output=u.output):IsNew v xs u.heap.size bk (.slice (some ⟨g,0,none⟩) m cap) v':=by
 have hold:∀ b,b<u.heap.size->v'.heap[b]? = u.heap[b]?:=λb hb=>by rw[hh,Qg,if_neg (by omega)]
 have hs':v'.heap.size=u.heap.size+1:=by rw[hh];simp
 have hgl:=own_lt hown g rfl;have hsz:=hg.size;have hblk:∀ k b,blk (newS u.heap.size bk v.heap.size (.slice (some ⟨g,0,none⟩) m cap) xs) k=some b->(k=0∧b=u.heap.size)∨(k=4∧b=g):=λk b hk=>by
  match k,hk with
  |0,hk=>cases hk;exact .inl ⟨rfl,rfl⟩
  |1,hk=>cases hk
  |2,hk=>cases hk
  |3,hk=>cases hk
  |4,hk=>cases hk;exact .inr ⟨rfl,rfl⟩
  |k+5,hk=>simp[blk,newS] at hk
 have hnil:v'.ownsRow v.heap.size 3 1 (.slice none 0 0) 0 []:=World.ownsRow_nil _ _ _ _;refine ⟨⟨⟨?_,λi t ht=>by simp[newS] at ht,World.ownsRow_nil _ _ _ _,World.ownsRow_nil _ _ _ _,World.ownsRow_nil _ _ _ _,?_,by show v.heap.size<=_;omega,λj k b hj hk=>?_,λb n h=>by cases h⟩,λj c hc=>by simp at hc,λj c hc=>by simp at hc,λi j c d hc=>by simp at hc,rfl⟩,⟨0,0,?_⟩,λb hb'=>?_,⟨by omega,λb hb'=>by rw[hold b (by omega),hg.old b hb'],ho.trans hg.os,hu.trans hg.output⟩⟩
 .show v'.heap[u.heap.size]? = _
  rw[hh];exact Qo
 .show v'.ownsRow v.heap.size 3 1 _ xs.length (xs.map I)
  rw[hl];exact Au (λb hb=>hold b (own_lt hown b hb).2) hown
 .rcases hblk j b hj with ⟨rfl,e1⟩|⟨rfl,e1⟩<;>rcases hblk k b hk with ⟨rfl,e2⟩|⟨rfl,e2⟩<;>first|rfl|omega
 rw[hold bk (Qb hbk).1];exact hbk
 .rcases hb' with (⟨k,hk⟩|⟨j,c,hc,_⟩)|rfl
  .rcases hblk k b hk with ⟨_,rfl⟩|⟨_,rfl⟩
   exact hsz;exact hgl.1
  simp at hc;exact hb
theorem body7 (vb vo cap:Nat) (xs:List Int) (hx0:0<xs.length) (hx1:xs.length<=17592186043904) (hv:∀ k x,xs[k]? = some x->v.cell? ⟨vb,vo+k,none⟩=some (I x)):
 Body Tryd.f14 #[.slice (some ⟨vb,vo,none⟩) xs.length cap] v (λr v'=>∃ wb bk sc,r=Pt wb 0∧IsNew v xs wb bk sc v'):=by
 intro code hb;obtain rfl:=Qd hb;clear hb;obtain ⟨x0,hx00⟩:∃ x,xs[0]? = some x:=⟨_,Qf hx0⟩
 have hvl:vb<v.heap.size:=World.block_lt_of_cell? _ _ (hv 0 x0 hx00);have hnews:∀ u:World,u.heap[vb]? = v.heap[vb]?->∀ j y,(xs.map I)[j]? = some y->u.cell? ((⟨vb,vo,none⟩:Addr).add j)=some y:=λu hu j y hj=>by
  have hadd:(⟨vb,vo,none⟩:Addr).add j=⟨vb,vo+j,none⟩:=by unfold Addr.add;split<;>simp_all
  rw[hadd,World.cell?_of_block (w:=v) (w':=u) hu];rw[List.getElem?_map] at hj;cases hk:xs[j]? with
  |none=>rw[hk] at hj;cases hj
  |some x =>rw[hk] at hj;cases hj;exact hv j x hk
 have h1:∀ u∈xs.map I,u.oneCell'=true:=λu hu=>by simp only[List.mem_map] at hu;obtain ⟨x,_,rfl⟩:=hu;rfl
 have HW:Hid (∀ u:World,u.heap[vb]? = v.heap[vb]?->∀ j y,(xs.map I)[j]? = some y->u.cell? ((⟨vb,vo,none⟩:Addr).add j)=some y):=⟨hnews⟩
 have H1:Hid (∀ u∈xs.map I,u.oneCell'=true):=⟨h1⟩
 have HX:Hid (0<xs.length∧xs.length<=17592186043904∧vb<v.heap.size):=⟨⟨hx0,hx1,hvl⟩⟩
 clear hv hnews h1 hx00 hx0 hx1 hvl;have hmk:=run_mk;obtain ⟨j0,hj,hj0,hj1,hj2⟩:=info_parts info3;simp only[Tryd.ntmps14,Sz,Nat.reduceAdd,Nat.reduceSub,Sy];go_wp2_with fail
 go_region_law
  (refine step_append_lies _ rfl (.const (.slice none 0 0)) (.tmp 3) 25 rfl v.heap.size 3 j0 _ 1 8 Tryd.underlying25 hj hj0 hj1 hj2 rfl (by decide) (.slice none 0 0) 0 [] rfl (World.ownsRow_nil _ _ _ _) ⟨vb,vo,none⟩ xs.length cap (xs.map I) rfl (by simp) (HW.out _ (by first|rfl|(show (v.heap.push _)[vb]? = _;rw[Qg,if_neg (by have:=HX.out;omega)]))) H1.out HX.out.1 (by have:=HX.out;unfold maxLen;omega) (by have:=HX.out;omega) (by simp) _ rfl ?_
   intro g cpg w6 hown6 hgrow6 hat6 hlt6)
 .have g6:Grows v (w6.alloc (.chan 0 #[] false 0 0 false)):=by have hs:v.heap.size<=w6.heap.size:=hgrow6.size;refine ⟨by show _<=(w6.heap.push _).size;simp;omega,λb hb=>?_,hgrow6.os,hgrow6.output⟩;show (w6.heap.push _)[b]? = _;rw[Qg,if_neg (by omega)];exact hgrow6.block b hb (λe=>by cases e)
  have hN:IsNew v xs (w6.heap.size+1) w6.heap.size (.slice (some ⟨g,0,none⟩) xs.length cpg) ((w6.alloc (.chan 0 #[] false 0 0 false)).alloc (.cells (rowNew (.slice (some ⟨g,0,none⟩) xs.length cpg) w6.heap.size) 77)):=by
   have:=new_rep (v:=v) (u:=w6.alloc (.chan 0 #[] false 0 0 false)) (v':=(w6.alloc (.chan 0 #[] false 0 0 false)).alloc (.cells (rowNew (.slice (some ⟨g,0,none⟩) xs.length cpg) w6.heap.size) 77)) (xs:=xs) (g:=g) (cap:=cpg) (bk:=w6.heap.size) (m:=xs.length) g6 (Au (λb hb=>?_) (by rw[Nat.zero_add,List.nil_append] at hown6;exact hown6)) rfl Qo hgrow6.size rfl rfl rfl
   .rw[show (w6.alloc (.chan 0 #[] false 0 0 false)).heap.size=w6.heap.size+1 by show (w6.heap.push _).size=_;simp] at this
    exact this
   .cases hb
    show (w6.heap.push _)[g]? = _;rw[Qg,if_neg (by omega)]
  have HN:Hid _:=⟨hN⟩
  clear hN g6 hgrow6 hown6 hat6 hlt6
  go_wp2
  go_ret;exact ⟨_,rfl,w6.heap.size+1,w6.heap.size,_,rfl,HN.out⟩
 .have hb0:∀ b,b<v.heap.size+1->w6.heap[b]? = (v.alloc (.chan 0 #[] false 0 0 false)).heap[b]?:=λb hb=>hgrow6.block b (by show b<(v.heap.push _).size;simp;omega) (λe=>by cases e)
  have hs:v.heap.size+1<=w6.heap.size:=by
   have:=hgrow6.size;have e:(v.alloc (.chan 0 #[] false 0 0 false)).drew.heap.size=v.heap.size+1:=by show (v.heap.push _).size=_;simp
   omega
  have g6:Grows v w6:=by refine ⟨by omega,λb hb=>?_,hgrow6.os,hgrow6.output⟩;rw[hb0 b (by omega)];show (v.heap.push _)[b]? = _;rw[Qg,if_neg (by omega)]
  have hN:IsNew v xs w6.heap.size v.heap.size (.slice (some ⟨g,0,none⟩) xs.length cpg) (w6.alloc (.cells (rowNew (.slice (some ⟨g,0,none⟩) xs.length cpg) v.heap.size) 77)) :=
   new_rep (v:=v) (u:=w6) (xs:=xs) (g:=g) (cap:=cpg) (bk:=v.heap.size) (m:=xs.length) g6 (by rw[Nat.zero_add,List.nil_append] at hown6;exact hown6) rfl (by rw[hb0 _ (by omega)];exact Qo) (Qi _) rfl rfl rfl
  have HN:Hid _:=⟨hN⟩
  clear hN g6 hgrow6 hown6 hat6 hlt6 hb0 hs
  go_wp2
  go_ret;exact ⟨_,rfl,w6.heap.size,v.heap.size,_,rfl,HN.out⟩
theorem body9 (h:Rep z S v) (h0:0<S.n) (hn:S.n*40<=140737488355328) (h1:∀ u∈S.tr,u.oneCell'=true):
 Body Tryd.f16 #[Pt S.wb 0] v (λr v'=>∃ g cap,r=.slice (some ⟨g,0,none⟩) S.n cap∧v'.ownsRow v.heap.size 38 5 (.slice (some ⟨g,0,none⟩) S.n cap) S.n S.tr∧Grows v v'∧v.heap.size<=g):=by
 intro code hb;obtain rfl:=Qd hb;clear hb;have c5:=h.wcell.2.2.2.2.2.1;obtain ⟨g0,cap0,e0,_,hg0⟩:=h.own.form h0;rw[e0] at c5;have hcs:=h.own.cells (g:=g0) (by rw[e0];rfl);have hln:S.tr.length=S.n*5:=h.own.1;have HH:Hid ((∀ j u,S.tr[j]? = some u->v.cell? ((⟨g0,0,none⟩:Addr).add j)=some u)∧(∀ u∈S.tr,u.oneCell'=true)∧0<S.n∧S.n*40<=140737488355328∧S.tr.length=S.n*5):=⟨⟨hcs,h1,h0,hn,hln⟩⟩
 clear hcs h1 h0 hn hln h e0;obtain ⟨j0,hj,hj0,hj1,hj2⟩:=info_parts info34;simp only[Tryd.ntmps16,Sz,Nat.reduceAdd,Nat.reduceSub,Sy]
 go_wp2_with (first
  |(refine wpList_append_lies _ rfl (.const (.slice none 0 0)) (.tmp 8) 34 rfl v.heap.size 38 j0 _ 5 40 Tryd.underlying34 hj hj0 hj1 hj2 rfl (by decide) (.slice none 0 0) 0 [] rfl (World.ownsRow_nil _ _ _ _) ⟨g0,0,none⟩ S.n cap0 S.tr rfl HH.out.2.2.2.2 HH.out.1 HH.out.2.1 HH.out.2.2.1 (by have:=HH.out.2.2.2.1;unfold maxLen;omega) (by have:=HH.out.2.2.2.1;omega) (Qi _) _ rfl ?_
    intro g cpg w6 hown6 hgrow6 hat6 hlt6))
 go_ret;refine ⟨_,rfl,g,cpg,rfl,?_,⟨hgrow6.size,λb hb=>hgrow6.block b hb (λe=>by cases e),hgrow6.os,hgrow6.output⟩,?_⟩
 .rw[Nat.zero_add,List.nil_append] at hown6
  exact hown6
 .rcases hat6 with h|h
  cases h;omega
def Refused (n:Nat) (ln:Nat->Nat) (E:Int):Prop:=((∃ k,k<n∧64<ln k)∧E=2)∨((∀ k,k<n->ln k<=64)∧(n=0∨8<n)∧E=1)
theorem new_rep0 {v':World}{bk:Nat}(hg:Grows v u) (hbk:u.heap[bk]? = some (.chan 0 #[] false 0 0 false)) (hb:v.heap.size<=bk)
 (hh:v'.heap=u.heap.push (.cells (rowNew (.slice none 0 0) bk) 77)) (ho:v'.os=u.os) (hu:v'.output=u.output):IsNew v [] u.heap.size bk (.slice none 0 0) v':=by
 have hold:∀ b,b<u.heap.size->v'.heap[b]? = u.heap[b]?:=λb hb=>by rw[hh,Qg,if_neg (by omega)]
 have hs':v'.heap.size=u.heap.size+1:=by rw[hh];simp
 have hsz:=hg.size;have hblk:∀ k b,blk (newS u.heap.size bk v.heap.size (.slice none 0 0) []) k=some b->k=0∧b=u.heap.size:=λk b hk=>by
  match k,hk with
  |0,hk=>cases hk;exact ⟨rfl,rfl⟩
  |1,hk=>cases hk
  |2,hk=>cases hk
  |3,hk=>cases hk
  |4,hk=>cases hk
  |k+5,hk=>simp[blk,newS] at hk
 refine ⟨⟨⟨?_,λi t ht=>by simp[newS] at ht,World.ownsRow_nil _ _ _ _,World.ownsRow_nil _ _ _ _,World.ownsRow_nil _ _ _ _,World.ownsRow_nil _ _ _ _,by show v.heap.size<=_;omega,λj k b hj hk=>?_,λb n h=>by cases h⟩,λj c hc=>by simp at hc,λj c hc=>by simp at hc,λi j c d hc=>by simp at hc,rfl⟩,⟨0,0,?_⟩,λb hb'=>?_,⟨by omega,λb hb'=>by rw[hold b (by omega),hg.old b hb'],ho.trans hg.os,hu.trans hg.output⟩⟩
 .show v'.heap[u.heap.size]? = _
  rw[hh];exact Qo
 rw[(hblk j b hj).1,(hblk k b hk).1];rw[hold bk (Qb hbk).1];exact hbk
 .rcases hb' with (⟨k,hk⟩|⟨j,c,hc,_⟩)|rfl
  rw[(hblk k b hk).2];exact hsz;simp at hc;exact hb
theorem body70 (p:Option Addr) (cap:Nat):Body Tryd.f14 #[.slice p 0 cap] v (λr v'=>∃ wb bk sc,r=Pt wb 0∧IsNew v [] wb bk sc v'):=by
 intro code hb;obtain rfl:=Qd hb;clear hb;have hmk:=run_mk;obtain ⟨j0,hj,hj0,hj1,hj2⟩:=info_parts info3;have HN:∀ v':World,v'.heap=(v.heap.push (.chan 0 #[] false 0 0 false)).push (.cells (rowNew (.slice none 0 0) v.heap.size) 77)->v'.os=v.os->v'.output=v.output->IsNew v [] (v.heap.size+1) v.heap.size (.slice none 0 0) v':=λv' h4 h5 h6=>by have:=new_rep0 (v:=v) (u:=v.alloc (.chan 0 #[] false 0 0 false)) (v':=v') (bk:=v.heap.size) ⟨by show _<=(v.heap.push _).size;simp,λb hb=>by show (v.heap.push _)[b]? = _;rw[Qg,if_neg (by omega)],rfl,rfl⟩ Qo (Qi _) h4 h5 h6;rw[show (v.alloc (.chan 0 #[] false 0 0 false)).heap.size=v.heap.size+1 by show (v.heap.push _).size=_;simp] at this;exact this
 have HN:Hid _:=⟨HN⟩
 cases p;all_goals
  simp only[Tryd.ntmps14,Sz,Nat.reduceAdd,Nat.reduceSub,Sy];go_wp2_with fail
  go_region_law fail
  all_goals
   go_wp2
   go_ret;exact ⟨_,rfl,v.heap.size+1,v.heap.size,_,rfl,HN.out _ rfl rfl rfl⟩
theorem body7A (p:Option Addr) (vb vo cap:Nat) (xs:List Int) (hp:0<xs.length->p=some ⟨vb,vo,none⟩) (hx1:xs.length<=17592186043904) (hv:∀ k x,xs[k]? = some x->v.cell? ⟨vb,vo+k,none⟩=some (I x)):
 Body Tryd.f14 #[.slice p xs.length cap] v (λr v'=>∃ wb bk sc,r=Pt wb 0∧IsNew v xs wb bk sc v'):=by
 rcases Nat.eq_zero_or_pos xs.length with h0|h0
 .obtain rfl:=List.length_eq_zero_iff.1 h0
  exact body70 p cap
 .rw[hp h0]
  exact body7 vb vo cap xs h0 hx1 hv
theorem body90 (h:Rep z S v) (h0:S.n=0):Body Tryd.f16 #[Pt S.wb 0] v (λr v'=>r=.slice none 0 0∧v'=v):=by
 intro code hb;obtain rfl:=Qd hb;clear hb;have c5:=h.wcell.2.2.2.2.2.1;obtain ⟨p0,cap0,e0⟩:∃ p cap,S.tv=.slice p 0 cap:=by obtain ⟨p,cap,e⟩:=Fz h.own;rw[h0] at e;exact ⟨p,cap,e⟩
 rw[e0] at c5;clear h e0;obtain ⟨j0,hj,hj0,hj1,hj2⟩:=info_parts info34;cases p0;all_goals
  simp only[Tryd.ntmps16,Sz,Nat.reduceAdd,Nat.reduceSub,Sy]
  go_wp2
  go_ret;exact ⟨_,rfl,rfl,rfl⟩
theorem body9A (h:Rep z S v) (hn:S.n*40<=140737488355328) (h1:∀ u∈S.tr,u.oneCell'=true):
 Body Tryd.f16 #[Pt S.wb 0] v (λr v'=>∃ p g cap,r=.slice p S.n cap∧(0<S.n->p=some ⟨g,0,none⟩∧v.heap.size<=g)∧(∀ j u,S.tr[j]? = some u->v'.cell? ⟨g,j,none⟩=some u)∧Grows v v'):=by
 rcases Nat.eq_zero_or_pos S.n with h0|h0
 .intro code hb
  refine wp_mono (body90 h h0 code hb) (Dm λr u hq=>?_);obtain ⟨rfl,rfl⟩:=hq;have hl:S.tr=[]:=by have:=h.own.1;rw[h0] at this;exact List.length_eq_zero_iff.1 (by omega)
  refine ⟨none,0,0,by rw[h0],(λh=>by omega),(λj x hj=>?_),⟨Qi _,λ_ _=>rfl,rfl,rfl⟩⟩;rw[hl] at hj;simp at hj
 .intro code hb
  refine wp_mono (body9 h h0 hn h1 code hb) (Dm λr u hq=>?_);obtain ⟨g,cap,rfl,hown,hgr,hle⟩:=hq;refine ⟨_,g,cap,rfl,λ_=>⟨rfl,hle⟩,λj x hj=>?_,hgr⟩;have:=hown.cells (g:=g) rfl j x hj;rw[show (⟨g,0,none⟩:Addr).add j=⟨g,j,none⟩ by unfold Addr.add;split<;>simp_all] at this;exact this
def Kp (S:TS) (cv:Value) (k:Nat):TS:={ S with cv:=cv,chg:=List.replicate k 0 }
structure Cel (z:Nat->Option Nat) (S:TS) (K:List (Nat×Int)) (v:World) (S':TS) (K':List (Nat×Int)) (v':World):Prop where
 mem:Mem z S' K' v'
 fr:Fr (Own S K) v v'
 own:∀ b,Own S' K' b->Own S K b∨v.heap.size<=b
section
variable {z:Nat->Option Nat}{S S1 S2:TS}{K K1 K2:List (Nat×Int)}{v v1 v2:World}
theorem Cel.refl (h:Mem z S K v):Cel z S K v S K v:=⟨h,Fr.refl _ _,λb h=>.inl h⟩
theorem Cel.trans (h:Cel z S K v S1 K1 v1) (k:Cel z S1 K1 v1 S2 K2 v2):Cel z S K v S2 K2 v2:=by
 refine ⟨k.mem,⟨k.fr.os.trans h.fr.os,k.fr.output.trans h.fr.output,Qk h.fr.size k.fr.size,λb hb hs=>?_⟩,λb hb=>?_⟩;rw[k.fr.block b (Qp hb h.fr.size) (λe=>(h.own b e).elim hs (λe=>by omega)),h.fr.block b hb hs]
 .rcases k.own b hb with e|e
  exact h.own b e;exact .inr (Qk h.fr.size e)
theorem Cel.push (h:Cel z S K v S1 K1 v1) {o:Obj}(e:v2.heap=v1.heap.push o) (e1:v2.os=v1.os) (e2:v2.output=v1.output):Cel z S K v S1 K1 v2:=by
 have g:Grows v1 v2:=⟨by rw[e];simp,λb hb=>by rw[e,Qg,if_neg (by omega)],e1,e2⟩
 exact h.trans ⟨(h.mem.grows g).mem,⟨e1,e2,g.size,λb hb _=>g.old b hb⟩,λb hb=>.inl hb⟩
theorem Cel.same (h:Cel z S K v S1 K1 v1) (e:v2.heap=v1.heap) (e1:v2.os=v1.os) (e2:v2.output=v1.output):Cel z S K v S1 K1 v2:=by
 have g:Grows v1 v2:=⟨by rw[e];exact Qi _,λb hb=>by rw[e],e1,e2⟩
 exact h.trans ⟨(h.mem.grows g).mem,⟨e1,e2,g.size,λb hb _=>g.old b hb⟩,λb hb=>.inl hb⟩
theorem Cel.from (h:Cel z S K v1 S1 K1 v2) (e:v1.heap=v.heap) (e1:v1.os=v.os) (e2:v1.output=v.output):Cel z S K v S1 K1 v2 :=
 ⟨h.mem,⟨h.fr.os.trans e1,h.fr.output.trans e2,by rw[<-e];exact h.fr.size,λb hb hs=>by rw[h.fr.block b (by rw[e];exact hb) hs,e]⟩,λb hb=>by rw[<-e];exact h.own b hb⟩
end
structure Asked (v:World) (S:TS) (n sb so:Nat) (pc:Nat->Option Addr) (ln cp rb:Nat->Nat) (cl:Nat->List Cl):Prop where
 len:∀ j,j<n->(cl j).length=ln j∧ln j<=64
 row:∀ k,k<n->v.cell? ⟨sb,so+k,none⟩=some (.slice (pc k) (ln k) (cp k))
 far:¬ Own S [] sb
 pq:∀ j,j<n->0<ln j->pc j=some ⟨rb j,roOf (pc j),none⟩∧¬ Own S [] (rb j)
 call:∀ j,j<n->∀ (k:Nat) (c:Cl),(cl j)[k]? = some c->v.cell? ⟨rb j,roOf (pc j)+k*4,none⟩=some (I c.po)∧v.cell? ⟨rb j,roOf (pc j)+k*4+1,none⟩=some (I c.ca)∧v.cell? ⟨rb j,roOf (pc j)+k*4+2,none⟩=some (I c.cb)∧v.cell? ⟨rb j,roOf (pc j)+k*4+3,none⟩=some (I c.cc)
 ca:∀ j,j<n->∀ c∈cl j,-9223372036854775808<=c.ca∧c.ca<9223372036854775808
structure Objs (v:World) (S:TS) (xs:List Int) (pk:Nat->Option Obj) (S1:TS) (K:List (Nat×Int)) (u:World):Prop where
 cel:Cel zn S [] v S1 K u
 vals:K.map (·.2)=xs
 st:∃ cv,S1=Kp S cv xs.length
 has:Has pk u
 new:∀ b,pk b≠none->(v.heap.size<=b∨b≠S.bk)∧¬ Own S1 K b
 row:∀ b o,pk b=some o->∃ c e f,o=.cells c e f
theorem Objs.same {xs:List Int}{pk:Nat->Option Obj}{S1:TS}{K:List (Nat×Int)}{u':World}(h:Objs v S xs pk S1 K u) (e:u'.heap=u.heap) (e1:u'.os=u.os) (e2:u'.output=u.output):Objs v S xs pk S1 K u' :=
 ⟨h.cel.same e e1 e2,h.vals,h.st,λb o hb=>by rw[e];exact h.has b o hb,h.new,h.row⟩
section
variable {v u:World}{S S1:TS}{K:List (Nat×Int)}{n sb so:Nat}{pc:Nat->Option Addr}{ln cp rb:Nat->Nat}{cl:Nat->List Cl}{xs:List Int}{pk:Nat->Option Obj}
theorem told_of (hm:Mem zn S [] v) (hb:Open v S.bk) (t:Asked v S n sb so pc ln cp rb cl) (o:Objs v S xs pk S1 K u):
 Told u S1 K pk n pc ln cp rb cl∧(∀ k,k<n->u.cell? ⟨sb,so+k,none⟩=some (.slice (pc k) (ln k) (cp k)))∧Open u S.bk∧v.heap.size<=u.heap.size ∧
  ∀ b,b<v.heap.size->¬ Own S [] b->u.heap[b]? = v.heap[b]?∧¬ Own S1 K b:=by
 have no:∀ b,b<v.heap.size->¬ Own S [] b->¬ Own S1 K b:=λb hb ho h=>(o.cel.own b h).elim ho (λh=>by omega);have same:∀ b,b<v.heap.size->¬ Own S [] b->u.heap[b]? = v.heap[b]?:=λb hb ho=>o.cel.fr.block b hb ho;have hcell:∀ (a:Addr) (x:Value),¬ Own S [] a.block->v.cell? a=some x->u.cell? a=some x:=λa x ho ha=>by rw[World.cell?_of_block (w:=v) (w':=u) (same a.block (World.block_lt_of_cell? _ _ ha) ho)];exact ha
 have hbkl:S.bk<v.heap.size:=by obtain ⟨c,m,h⟩:=hb;exact (Qb h).1
 have hbk:¬ Own S [] S.bk:=λh=>by obtain ⟨c,m,hh⟩:=hb;obtain ⟨x,e,f,h1⟩:=hm.row h;rw[h1] at hh;cases hh
 have hO:Open u S.bk:=by obtain ⟨c,m,hh⟩:=hb;exact ⟨c,m,by rw[same _ hbkl hbk];exact hh⟩
 have e1:S1.bk=S.bk:=by obtain ⟨cv,rfl⟩:=o.st;rfl
 refine ⟨⟨o.has,λb hb=>⟨(o.new b hb).2,by have:=(o.new b hb).1;rw[e1];rcases this with h|h;omega;exact h⟩,o.row,t.len,λj hj h0=>?_,λj hj k c hc=>?_,t.ca⟩,λk hk=>hcell _ _ t.far (t.row k hk),hO,o.cel.fr.size,λb hb ho=>⟨same b hb ho,no b hb ho⟩⟩
 .have h1:=t.pq j hj h0
  obtain ⟨c,hc⟩:∃ c,(cl j)[0]? = some c:=⟨_,Qf (by have:=t.len j hj;omega)⟩
  have hl:=World.block_lt_of_cell? _ _ (t.call j hj 0 c hc).1;exact ⟨h1.1,no _ hl h1.2⟩
 .have h0:0<ln j:=by have:=(Qc hc).1;have:=t.len j hj;omega
  have ho:=(t.pq j hj h0).2;have h4:=t.call j hj k c hc;exact ⟨hcell _ _ ho h4.1,hcell _ _ ho h4.2.1,hcell _ _ ho h4.2.2.1,hcell _ _ ho h4.2.2.2⟩
end
structure GOut (w:World) (S:TS) (n:Nat) (ln:Nat->Nat) (N:Nat) (S':TS) (K':List (Nat×Int)) (l:Nat->Ph) (w':World):Prop where
 mem:Mem zn S' K' w'
 size:w.heap.size<=w'.heap.size
 low:w.heap.size<=N
 old:∀ b,b<w.heap.size->¬ Own S [] b->b≠S.bk->w'.heap[b]? = w.heap[b]?∧¬ Own S' K' b
 rows:∀ j,j<n->w'.cell? ⟨N+1,j,none⟩=some (.slice (some ⟨N+4+3*j+2,0,none⟩) (ln j) (ln j))
 ans:∀ j,j<n->(l j).ans.length=ln j∧(0<ln j->w'.heap[N+4+3*j+2]? = some (.cells (arow (l j).ans).toArray 48 (0,0)))∧∃ a,l j=.done a
 os:w'.os=w.os
 out:w'.output=w.output
section
variable {mc:Mc}{fid:FuncId}{S:TS}{n sb so:Nat}{pc:Nat->Option Addr}{ln cp rb:Nat->Nat}{cl:Nat->List Cl}{xs:List Int}
theorem gplay_all (P:Pkg mc fid) {Q:Array Value->(Nat->Option Obj)->List (Nat×Int)->Prop}(hQ:∀ caps pk K,Q caps pk K->∀ X:Fix mc,X.fid=fid->X.caps=caps->X.pk=pk->X.kb=K.map (·.1)->P.Mine X) (hQk:∀ caps pk K,Q caps pk K->KOk mc K)
 {cap:Nat} {cs:List Frame} {bc:Frame} {ac:Act} {ops:Array Oper} {q0:Nat} {rest:List Nat} {oc:Oper} {k0:List Item} {w:World} {T:Trace} {gs:Array Goroutine} {q:Nat->Nat} (sl:Option (Nat×Nat)) (NT:Nat) (A:Alone gs w T q) {g0:Goroutine} (hg:gs[0]? = some g0)
 (hG:GoesI Tryd.prog true (DT (ScZ zn) (λ_=>False)) (λg w'=>∃ (bd:Frame) (ad:Act) (od:Array Oper) (qd:Nat) (rd:List Nat) (oe:Oper) (kd:List Item) (caps:Array Value) (pk:Nat->Option Obj) (S1:TS) (K:List (Nat×Int)),Objs w S xs pk S1 K w'∧Q caps pk K∧od[qd]? = some oe ∧
   (∀ (Ch:Nat->Prop) (Stop:Goroutine->World->Prop) (w1:World) (x:Value),(∀ d,GoT zn true Ch Stop (G (bc.at (ac.put oc.dst (.tuple #[x,I 0])) (.inRegion ops rest :: k0)) cs) (w1.at d))->GoT zn true Ch Stop (G (bd.at (ad.put oe.dst x) (.inRegion od rd :: kd)) (bc.at ac (.inRegion ops (q0 :: rest) :: k0) :: cs)) w1) ∧
   g=G ((base 37).at { tmps:=#[Pt S.wb 0,.slice (some ⟨sb,so,none⟩) n cap,.func (.func fid) (mc.bn caps) (mc.fr caps)]++Array.replicate 36 undef,defers:=[] } [.code B20]) (bd.at ad (.inRegion od (qd :: rd) :: kd) :: bc.at ac (.inRegion ops (q0 :: rest) :: k0) :: cs)) g0 w)
 (hm:Mem zn S [] w) (hthr:S.thr=[]) (hran:S.ran=false) (hbk:Open w S.bk) (t:Asked w S n sb so pc ln cp rb cl) (hn8:0<n∧n<=8)
 (hlen:∀ caps pk N K,S.n+2*lens (scrs mc fid caps pk N n K pc ln cp rb cl)<=1000000) (hsl:S.sched.length<=4611686018427387904) (hsc:∀ x∈S.sched,-9223372036854775808<=x∧x<9223372036854775808) (l0:Nat->Ph)
 (hturn:∀ (caps:Array Value) (pk:Nat->Option Obj) (N:Nat) (cv:Value) (K:List (Nat×Int)),K.map (·.2)=xs->∀ S1 l1,Hires mc 0 (scrs mc fid caps pk N n K pc ln cp rb cl) (nv { Kp S cv xs.length with ran:=true }) l0 S1 l1->∃ m p',m<=NT∧Turns mc m ⟨S1,K,l1⟩ p'∧p'.S.n*40<=140737488355328):
 ∃ (N':Nat) (gs':Array Goroutine) (w':World) (sl':Option (Nat×Nat)) (T':Trace) (q':Nat->Nat) (caps:Array Value) (pk:Nat->Option Obj) (N:Nat) (cv:Value) (K:List (Nat×Int)) (S':TS) (S1:TS) (l1:Nat->Ph) (m:Nat) (p':PSt),
   runNT Tryd.prog N' (crowd gs w sl) T=(.next (crowd gs' w' sl'),T')∧gs'.size=gs.size+n∧gs'[0]? = some (G (bc.at (ac.put oc.dst (.tuple #[.slice (some ⟨N+1,0,none⟩) n n,I 0])) (.inRegion ops rest :: k0)) cs) ∧
   Alone gs' w' T' q'∧K.map (·.2)=xs∧nv S'=p'.S∧Hires mc 0 (scrs mc fid caps pk N n K pc ln cp rb cl) (nv { Kp S cv xs.length with ran:=true }) l0 S1 l1∧Turns mc m ⟨S1,K,l1⟩ p'∧GOut w S n ln N S' p'.K p'.l w':=by
 obtain ⟨N1,gs1,a1,w1,sl1,T1,q1,r1,z1,h1,⟨bd,ad,od,qd,rd,oe,kd,caps,pk,S1,K,ho,hq,hoe,hback,rfl⟩,A1⟩:=Ef A hg sl hG;obtain ⟨t1,hs1,hbk1,hsz1,hold1⟩:=told_of hm hbk t ho;obtain ⟨cv,rfl⟩:=ho.st;have hsb:sb<w1.heap.size:=World.block_lt_of_cell? _ _ (hs1 0 hn8.1);obtain ⟨N2,gs2,w2,sl2,T2,q2,S2,S3,l1,m,p',r2,z2,h2,A2,hnv,hH,hT,O⟩:=run20_all P (hQ caps pk K hq) (hQk caps pk K hq) (S:=Kp S cv xs.length) (K:=K) hoe sl1 NT A1 h1 ho.cel.mem hthr hran hbk1 t1 hs1 hsb hn8.2 (hlen _ _ _ _) hsl hsc l0 (hturn _ _ _ cv K ho.vals);obtain ⟨N3,gs3,a3,w3,sl3,T3,q3,r3,z3,h3,⟨rfl,d3,rfl⟩,A3⟩:=Ef A2 h2 sl2 (hback (λ_=>False) (λg w'=>g=G (bc.at (ac.put oc.dst (.tuple #[.slice (some ⟨w1.heap.size+1,0,none⟩) n n,I 0])) (.inRegion ops rest :: k0)) cs∧∃ d,w'=w2.at d) w2 _ (λd=>GoesI.stop λd'=>⟨rfl,d',rfl⟩));refine ⟨N1+N2+N3,gs3,w2.at d3,sl3,T3,q3,caps,pk,w1.heap.size,cv,K,S2,S3,l1,m,p',runNT_then (runNT_then r1 r2) r3,by omega,h3,A3,ho.vals,hnv,hH,hT,⟨(O.mem.grows (v':=w2.at d3) ⟨Qi _,λ_ _=>rfl,rfl,rfl⟩).mem,Qk hsz1 O.size,hsz1,λb hb hob hk=>?_,O.rows,O.ans,O.os.trans ho.cel.fr.os,O.out.trans ho.cel.fr.output⟩⟩;have h5:=hold1 b hb hob;have h6:=O.old b (by omega) h5.2 hk;exact ⟨h6.1.trans h5.1,h6.2⟩
end
def lits (u:Nat->Value):Nat->Nat->List Value
 |_,0=>[]
 |s,n+1=>u s :: lits u (s+1) n
theorem lits_get (u:Nat->Value):∀ (n s i:Nat),(lits u s n)[i]? = if i<n then some (u (s+i)) else none
 |0,s,i=>by simp[lits]
 |n+1,s,0=>by simp[lits]
 |n+1,s,i+1=>by have:=lits_get u n (s+1) i;simp only[lits,List.getElem?_cons_succ,this,Nat.add_lt_add_iff_right];rw[show s+1+i=s+(i+1) by omega]
theorem litN (h:a.tmps.size=n) (hd:a.defers=[]):∃ u:Nat->Value,a={ tmps:=(lits u 0 n).toArray,defers:=[] }∧∀ i,a.tmps.getD i undef=u i:=by
 obtain ⟨⟨l⟩,ds⟩:=a;simp only at hd h;subst hd;refine ⟨λi=>(Array.mk l).getD i undef,?_,λi=>rfl⟩;have e:l=lits (λi=>(Array.mk l).getD i undef) 0 n:=by
  apply List.ext_getElem?;intro i;rw[lits_get];have hl:l.length=n:=h;by_cases hi:i<n
  .rw[if_pos hi,Qf (by omega)]
   simp[Array.getD,hl,hi]
  rw[if_neg hi,List.getElem?_eq_none (by omega)]
 exact congrArg (λx=>({ tmps:=x.toArray,defers:=[] }:Act)) e
def Fl (n:Nat) (l:List (Nat×Value)) (a:Act):Prop:=a.tmps.size=n∧a.defers=[]∧∀ p∈l,a.tmps.getD p.1 undef=p.2
theorem Fl.sub {l':List (Nat×Value)}(h:Fl n l a) (hs:∀ p∈l',p∈l):Fl n l' a:=⟨h.1,h.2.1,λp hp=>h.2.2 p (hs p hp)⟩
theorem Fl.at (h:Fl n l a) (k:Nat) (v:Value) (hs:(k,v)∈l):a.eval (.tmp k)=v:=h.2.2 (k,v) hs
def Fls (u:Nat->Value):List (Nat×Value)->Prop
 | []=>True
 | [p]=>u p.1=p.2
 |p :: q :: l=>u p.1=p.2∧Fls u (q :: l)
theorem fls_of {u:Nat->Value}:∀ {l:List (Nat×Value)},(∀ p∈l,u p.1=p.2)->Fls u l
 | [],_=>trivial
 | [p],h=>h p (.head _)
 |p :: q :: l,h=>⟨h p (.head _),fls_of (l:=q :: l) λr hr=>h r (.tail _ hr)⟩
theorem litF (h:Fl n l a):∃ u:Nat->Value,a={ tmps:=(lits u 0 n).toArray,defers:=[] }∧Fls u l:=by obtain ⟨u,e,hg⟩:=litN h.1 h.2.1;exact ⟨u,e,fls_of λp hp=>(hg p.1).symm.trans (h.2.2 p hp)⟩
section
variable {P:Program}{Q:Exit->Act->World->Prop}{a:Act}{w:World}{x y c:Code}{R:Act->World->Prop}
theorem Eh (h:x.wp P (λe a' w'=>e=.normal∧R a' w') a w) (k:∀ a' w',R a' w'->y.wp P Q a' w'):(Code.seq x y).wp P Q a w :=
 wp_seq (wp_mono h (λe a w h=>by obtain ⟨rfl,hr⟩:=h;exact k a w hr))
theorem wp_last (h:x.wp P (λe a' w'=>e=.normal∧R a' w') a w) (k:∀ a' w',R a' w'->Q .normal a' w'):x.wp P Q a w :=
 wp_mono h (λe a w h=>by obtain ⟨rfl,hr⟩:=h;exact k a w hr)
theorem wp_while {id:Nat}{hd body:Code}{t:Nat}(I:Nat->Act->World->Prop) (n:Nat) (h0:I n a w)
 (head:∀ n a w,I n a w->∃ (J:Act->World->Prop),hd.wp P (λe a' w'=>e=.normal∧J a' w') a w ∧
   ∀ a' w',J a' w'->(a'.eval (.tmp t)=.bool false∧Q .normal a' w')∨(a'.eval (.tmp t)=.bool true∧body.wp P (Exit.then (λa'' w''=>∃ n',n'<n∧I n' a'' w'') (Exit.inBlock id Q)) a' w')):
 (Code.block id (.loop (.seq (.seq hd (.cond (.tmp t) .skip (.exit id))) body))).wp P Q a w:=by
 refine wp_block (wp_loop_ghost I n h0 λn a w hI=>?_);obtain ⟨J,h1,h2⟩:=head n a w hI;refine wp_seq (Eh h1 λa' w' hJ=>?_);rcases h2 a' w' hJ with ⟨e,hq⟩|⟨e,hb⟩
 .refine wp_cond_false e (wp_exit ?_)
  show if id=id then Q .normal a' w' else _
  rw[if_pos rfl];exact hq
 exact wp_cond_true e (wp_skip hb)
end
def padd (pk:Nat->Option Obj) (b:Nat) (o:Obj):Nat->Option Obj:=λx=>if x=b then some o else pk x
theorem B7 (pk:Nat->Option Obj) (b:Nat) (o:Obj):padd pk b o b=some o:=by unfold padd;rw[if_pos rfl]
theorem Av {pk:Nat->Option Obj}{b x:Nat}{o:Obj}(h:x≠b):padd pk b o x=pk x:=by unfold padd;rw[if_neg h]
theorem cell_of {b j:Nat}{c:Array Value}{t:TypeId}{f:Nat×Nat}{x:Value}(h:v.heap[b]? = some (.cells c t f)) (hj:c[j]? = some x):v.cell? ⟨b,j,none⟩=some x:=by unfold World.cell?;rw[h];exact hj
section
variable {v u u':World}{S S1:TS}{K:List (Nat×Int)}{xs:List Int}{pk:Nat->Option Obj}
theorem Objs.startG (hm:Mem zn S [] v) (hch:S.chg=[]) (hpk:Has pk v) (hf:∀ b,pk b≠none->¬ Own S [] b∧b≠S.bk) (hr:∀ b o,pk b=some o->∃ c e f,o=.cells c e f):Objs v S [] pk S [] v :=
 ⟨Cel.refl hm,rfl,⟨S.cv,by unfold Kp;rw[List.length_nil,List.replicate_zero,<-hch]⟩,hpk,λb h=>⟨.inr (hf b h).2,(hf b h).1⟩,hr⟩
theorem Objs.push (h:Objs v S xs pk S1 K u) {c:Array Value}{t:TypeId}(e:u'.heap=u.heap.push (.cells c t)) (e1:u'.os=u.os) (e2:u'.output=u.output):Objs v S xs (padd pk u.heap.size (.cells c t)) S1 K u':=by
 refine ⟨h.cel.push e e1 e2,h.vals,h.st,λb o hb=>?_,λb hb=>?_,λb o hb=>?_⟩
 .by_cases hbu:b=u.heap.size
  .subst hbu
   rw[B7] at hb;cases hb;rw[e];exact Qo
  .rw[Av hbu] at hb
   have:=h.has b o hb;have hl:=(Qb this).1;rw[e,Qg,if_neg (by omega)];exact this
 .by_cases hbu:b=u.heap.size
  .subst hbu
   exact ⟨.inl h.cel.fr.size,λho=>by have:=h.cel.mem.lt ho;omega⟩
  .rw[Av hbu] at hb
   exact h.new b hb
 .by_cases hbu:b=u.heap.size
  .subst hbu
   rw[B7] at hb;cases hb;exact ⟨_,_,_,rfl⟩
  .rw[Av hbu] at hb
   exact h.row b o hb
theorem Objs.more (h:Objs v S xs pk S1 K u) {S2:TS}{K2:List (Nat×Int)}{ys:List Int}(c:Cel zn S1 K u S2 K2 u') (hv:K2.map (·.2)=ys) (hs:∃ cv,S2=Kp S cv ys.length):Objs v S ys pk S2 K2 u':=by
 have hl:∀ b o,pk b=some o->b<u.heap.size:=λb o hb=>(Qb (h.has b o hb)).1;refine ⟨h.cel.trans c,hv,hs,λb o hb=>?_,λb hb=>?_,h.row⟩
 .rw[c.fr.block b (hl b o hb) (h.new b (by rw[hb];simp)).2]
  exact h.has b o hb
 .obtain ⟨o,ho⟩:=Option.ne_none_iff_exists'.1 hb
  refine ⟨(h.new b hb).1,λho'=>?_⟩;rcases c.own b ho' with e|e;exact (h.new b hb).2 e;have:=hl b o ho;omega
theorem Objs.cell (h:Objs v S xs pk S1 K u) (x:Int) (hl:xs.length<=1000000):Calls Tryd.prog 41 #[Pt S.wb 0,I x] u (λe w'=>∃ cb,e=.returned (Pt cb 0)∧u.heap.size<=w'.heap.size∧∃ S2,Objs v S (xs++[x]) pk S2 (K++[(cb,x)]) w'):=by obtain ⟨cv,rfl⟩:=h.st;have h10:=(body10 h.cel.mem x (by show (List.replicate xs.length (0:Int)).length<=_;simp;omega)).calls Tryd.func41 rfl;refine h10.mono ?_;rintro e w' ⟨r,rfl,cb,cv',rfl,hm1,hf1,hn1⟩;refine ⟨cb,rfl,hf1.size,_,h.more ⟨hm1,hf1,hn1⟩ (by rw[List.map_append,h.vals];rfl) ⟨cv',?_⟩⟩;unfold Fj Kp;simp only[Qj,List.length_cons,List.length_nil,Nat.zero_add,List.replicate_succ']
end
end Go.Proofs.YtbbhahigofeacaaDoor.Gen
namespace Go.Proofs.YtbbhahigofeacaaDoor.Gen
open Go Go.Lift Go.Conc Go.RowKit
open Go.ConcN (upd upd_same upd_ne)
variable {S:TS} {i:Nat} {t:Thr}
section
variable {mc:Mc}
theorem sum_le (f g:Nat->Nat) (e:Nat):∀ k,(∀ j,j<k->g j<=f j+e)->((List.range k).map g).sum<=((List.range k).map f).sum+e*k
 |0,_=>by simp
 |k+1,h=>by have:=sum_le f g e k (λj hj=>h j (by omega));have h1:=h k (by omega);rw[List.range_succ,List.map_append,List.map_append,List.sum_append,List.sum_append,Nat.mul_succ];simp only[List.map_cons,List.map_nil,List.sum_cons,List.sum_nil];omega
theorem sum_drop (f g:Nat->Nat) (e d i:Nat):∀ k,i<k->(∀ j,j<k->j≠i->g j<=f j+e)->g i+d<=f i->((List.range k).map g).sum+d<=((List.range k).map f).sum+e*k
 |k+1,hi,h,hd=>by
  rw[List.range_succ,List.map_append,List.map_append,List.sum_append,List.sum_append,Nat.mul_succ];simp only[List.map_cons,List.map_nil,List.sum_cons,List.sum_nil];by_cases hk:i=k
  .subst hk
   have:=sum_le f g e i (λj hj=>h j (by omega) (by omega));omega
  .have:=sum_drop f g e d i k (by omega) (λj hj hn=>h j (by omega) hn) hd
   have h1:=h k (by omega) (λe=>hk e.symm);omega
theorem did_n (S:TS) (tv:Value) (i:Nat) (t:Thr) (b a:Int):(didS S tv i t b a).n=S.n+1:=by unfold didS;split<;>rfl
theorem nextI_in (h:Aq S S.thr.length≠[]):∃ t,S.thr[D6 S]? = some t∧rdy S t=true:=by
 have h0:0<(Aq S S.thr.length).length:=List.length_pos_iff.2 h;have h1:=pickAt_lt S h0;have h2:D6 S∈Aq S S.thr.length:=by unfold D6;rw[Qf h1];exact List.getElem_mem h1
 unfold Aq at h2;rw[List.mem_filter] at h2;cases h3:S.thr[D6 S]? with
 |none=>rw[h3] at h2;cases h2.2
 |some t=>rw[h3] at h2;exact ⟨t,rfl,h2.2⟩
theorem going_thr (ht:S.thr[i]? = some t):(going S i t).thr[i]? = some { t with st:=0 }:=by
 have e:(picked S).thr=S.thr:=by unfold picked;split<;>rfl
 show ((picked S).thr.set i _)[i]? = _;rw[e];exact Hu ht
theorem going_oth {j:Nat}(hj:j≠i):(going S i t).thr[j]? = S.thr[j]?:=by
 have e:(picked S).thr=S.thr:=by unfold picked;split<;>rfl
 show ((picked S).thr.set i _)[j]? = _;rw[e,Qq,if_neg (λe=>hj e.symm)]
theorem going_len :(going S i t).thr.length=S.thr.length:=by
 have e:(picked S).thr=S.thr:=by unfold picked;split<;>rfl
 show ((picked S).thr.set i _).length=_;rw[e,List.length_set]
theorem going_keeps :(going S i t).chg=S.chg∧(going S i t).stk=S.stk∧(going S i t).n=S.n∧(going S i t).tr=S.tr:=by
 have e:(picked S).chg=S.chg∧(picked S).stk=S.stk∧(picked S).n=S.n∧(picked S).tr=S.tr:=by unfold picked;split<;>exact ⟨rfl,rfl,rfl,rfl⟩
 exact e
end
end Go.Proofs.YtbbhahigofeacaaDoor.Gen
