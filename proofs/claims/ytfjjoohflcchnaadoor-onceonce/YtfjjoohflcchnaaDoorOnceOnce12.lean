/- OnceOnce, part 12 of 26: GNow, Alone, Run20, Run20b, Cell24, Check, GRun20b, GRun20c, GRun20d, Lift29. -/
import Derived.Test.YtfjjoohflcchnaaDoorOnceOnce01
import Derived.Test.YtfjjoohflcchnaaDoorOnceOnce03
import Derived.Test.YtfjjoohflcchnaaDoorOnceOnce07
import Derived.Test.YtfjjoohflcchnaaDoorOnceOnce08
import Derived.Laws.MakeOwn
import Derived.Deep.OwnRows
set_option linter.unusedSimpArgs false
set_option linter.unusedVariables false
set_option maxHeartbeats 4000000
set_option maxRecDepth 100000
noncomputable section
namespace Go.Proofs.YtfjjoohflcchnaaDoor.Gen
open Go Go.Lift Go.Conc Go.RowKit
variable {j:Nat}
variable {mc:Mc}
structure Now (X:Fix mc) (z:Nat->Option Nat) (cont:Addr->Value) (Ch:Nat->Prop) (S0:TS) (K0:List (Nat×Int)) (v0:World) (Mo0 Mo:Nat->Option Obj) (σ:TS) (κ:List (Nat×Int)) (S:TS) (v w:World) (t:Thr):Prop where
 at_:At X z cont Ch S κ v w t
 evo:EvoP (λb=>Mo0 b≠none) z S0 K0 v0 S κ v
 nv:nv S=σ
 bk:S.bk=S0.bk
 mo:Has Mo v
 far:∀ b,Mo b≠none->¬ Own S κ b
 new:∀ b,Mo b≠none->Mo0 b≠none∨v0.heap.size<=b
 row:∀ b o,Mo b=some o->∃ c e f,o=.cells c e f
section
variable {X:Fix mc}{z:Nat->Option Nat}{cont:Addr->Value}{Ch:Nat->Prop}{Stop:Goroutine->World->Prop}{cu:Value->Goroutine}{S0:TS}{K0:List (Nat×Int)}{v0:World}{Mo0 Mo:Nat->Option Obj}{σ:TS}{κ:List (Nat×Int)}{S:TS}{v w:World}{t:Thr}{H:Nx->(Nat->Option Obj)->Goroutine->Prop}
theorem Now.good (N:Now X z cont Ch S0 K0 v0 Mo0 Mo σ κ S v w t) {x:Nx}(hx:∀ e y,x≠.ans e y):Good v0 Mo0 x Mo:=⟨hx,N.new,N.row⟩
theorem Now.on (N:Now X z cont Ch S0 K0 v0 Mo0 Mo σ κ S v w t) {S' σ':TS}{κ':List (Nat×Int)}{v' w':World}{t':Thr}(e:Evo z S κ v S' κ' v') (r:Rel z v' w') (n:NoRow Ch v') (hS:Gen.nv S'=σ') (ht:S'.thr[X.i]? = some t') (htb:t'.tb=X.tb) (hgc:t'.gc=X.gc) (hbk:S'.bk=S.bk) (hok:KOk mc κ'):Now X z cont Ch S0 K0 v0 Mo0 Mo σ' κ' S' v' w' t':=by
 have kp:∀ b,b<v.heap.size->¬ Own S κ b->v'.heap[b]? = v.heap[b]?∧¬ Own S' κ' b:=λb hb ho=>(Evo.toP (Pr:=λ_=>False) e).keeps hb ho (λh=>h);have km:∀ (M:Nat->Option Obj),Has M v->(∀ b,M b≠none->¬ Own S κ b)->Has M v'∧∀ b,M b≠none->¬ Own S' κ' b:=λM hM hf=>by have h1:∀ b o,M b=some o->v'.heap[b]? = v.heap[b]?∧¬ Own S' κ' b:=λb o hb=>kp b (Qb (hM b o hb)).1 (hf b (by rw[hb];simp));refine ⟨λb o hb=>by rw[(h1 b o hb).1];exact hM b o hb,λb hb=>?_⟩;obtain ⟨o,ho⟩:=Option.ne_none_iff_exists'.1 hb;exact (h1 b o ho).2
 have k1:=km X.pk N.at_.pk N.at_.far;have k2:=km Mo N.mo N.far;exact ⟨⟨r,n,e.mem,ht,htb,hgc,⟨e.blks.trans N.at_.kb.1,hok⟩,N.at_.z,N.at_.cont,k1.1,k1.2⟩,N.evo.trans (Evo.toP e),hS,hbk.trans N.bk,k2.1,k2.2,N.new,N.row⟩
theorem Now.same (N:Now X z cont Ch S0 K0 v0 Mo0 Mo σ κ S v w t) {v' w':World}(r:Rel z v' w') (n:NoRow Ch v') (e1:v'.heap=v.heap) (e2:v'.os=v.os) (e3:v'.output=v.output):Now X z cont Ch S0 K0 v0 Mo0 Mo σ κ S v' w' t :=
 N.on (N.at_.mem.grows ⟨by rw[e1];exact Qi _,λb _=>by rw[e1],e2,e3⟩) r n N.nv N.at_.thr N.at_.tb N.at_.gc rfl N.at_.kb.2
theorem Now.here (A:At X z cont Ch S κ v w t) (hm:Has Mo v) (hf:∀ b,Mo b≠none->¬ Own S κ b) (hr:∀ b o,Mo b=some o->∃ c e f,o=.cells c e f):Now X z cont Ch S κ v Mo Mo (Gen.nv S) κ S v w t :=
 ⟨A,Evo.toP (A.mem.grows ⟨Qi _,λ_ _=>rfl,rfl,rfl⟩),rfl,rfl,hm,hf,λb hb=>.inl hb,hr⟩
theorem Now.cell (N:Now X z cont Ch S0 K0 v0 Mo0 Mo σ κ S v w t) {cb:Nat}(h:X.kb[j]? = some cb):κ[j]? = some (cb,(cellAt κ j).2)∧cellAt κ j=(cb,(cellAt κ j).2):=by
 rw[<-N.at_.kb.1,List.getElem?_map,Option.map_eq_some_iff] at h;obtain ⟨p,h1,rfl⟩:=h;have:cellAt κ j=p:=by unfold cellAt;rw[h1];rfl
 rw[this];exact ⟨h1,rfl⟩
theorem ob_turn {op:Int}{q:Q}(hob:Ob X H z cont Ch Stop cu S0 K0 v0 Mo0 σ κ (.turn op j q)) (N:Now X z cont Ch S0 K0 v0 Mo0 Mo σ κ S v w t) (g:Goroutine) (w':World) (hg:GiveT z cont X.h S.bk t.gc (H (.turn op j q) Mo) (Then z Ch S κ v (waiting S X.i t 1 op j) κ) g w'):Stop g w':=by refine hob.seat 1 op j (.inl ⟨⟨q,rfl⟩,rfl⟩) g w' Mo (N.good (λ_ _ h=>by cases h)) ?_;rw[N.at_.gc,N.bk] at hg;refine atGive_mono (λhF=>?_) hg;obtain ⟨v',r,n,e⟩:=hF;have N':=N.on e r n rfl (t':={ t with st:=1,op:=op,ce:=j,se:=_ }) (List.getElem?_set_self (Qc N.at_.thr).1) N.at_.tb N.at_.gc rfl N.at_.kb.2;refine ⟨v',_,r,n,?_,N'.evo,N'.mo,N'.far⟩;rw[<-N.nv,show thrI (Gen.nv S) X.i=t from thrI_of N.at_.thr];rfl
theorem ob_wait {q:Q}(hob:Ob X H z cont Ch Stop cu S0 K0 v0 Mo0 σ κ (.wait j q)) (N:Now X z cont Ch S0 K0 v0 Mo0 Mo σ κ S v w t) (g:Goroutine) (w':World) (hg:GiveT z cont X.h S.bk t.gc (H (.wait j q) Mo) (Then z Ch S κ v (waiting S X.i t 2 6 j) κ) g w'):Stop g w':=by refine hob.seat 2 6 j (.inr ⟨⟨q,rfl⟩,rfl,rfl⟩) g w' Mo (N.good (λ_ _ h=>by cases h)) ?_;rw[N.at_.gc,N.bk] at hg;refine atGive_mono (λhF=>?_) hg;obtain ⟨v',r,n,e⟩:=hF;have N':=N.on e r n rfl (t':={ t with st:=2,op:=6,ce:=j,se:=_ }) (List.getElem?_set_self (Qc N.at_.thr).1) N.at_.tb N.at_.gc rfl N.at_.kb.2;refine ⟨v',_,r,n,?_,N'.evo,N'.mo,N'.far⟩;rw[<-N.nv,show thrI (Gen.nv S) X.i=t from thrI_of N.at_.thr];rfl
end
end Go.Proofs.YtfjjoohflcchnaaDoor.Gen
namespace Go.Proofs.YtfjjoohflcchnaaDoor
open Go Go.Lift Go.Conc Go.RowKit
variable {v w:World} {z:Nat->Option Nat} {S:TS}
structure Alone (gs:Array Goroutine) (w:World) (T:Trace) (q:Nat->Nat):Prop where
 left:Leavers Tryd.prog T gs q
 past:∃ B,B<=w.heap.size∧Past (λ_=>False) B T
theorem alone_goes {gs:Array Goroutine}{T:Trace}{q:Nat->Nat}(A:Alone gs w T q) {a:Goroutine}{Stop:Goroutine->World->Prop}(hg:gs[0]? = some a) (sl:Option (Nat×Nat)) (hG:GoesI Tryd.prog true (DT (ScZ zn) (λ_=>False)) Stop a w):
 ∃ (N':Nat) (gs':Array Goroutine) (a':Goroutine) (w':World) (sl':Option (Nat×Nat)) (T':Trace) (q':Nat->Nat),runNT Tryd.prog N' (crowd gs w sl) T=(.next (crowd gs' w' sl'),T')∧gs'.size=gs.size∧gs'[0]? = some a'∧Stop a' w'∧Alone gs' w' T' q':=by
 obtain ⟨B,hB,hP⟩:=A.past;have hno:∀ a,¬ ScZ zn a:=λa ha=>by have:=ha.2;cases this
 have C0:Ring Tryd.prog (KC (ScZ zn) (λ_=>undef)) (StillC (ScZ zn)) B (λg=>g=0) (λ_=>none) 0 T gs w q:=ring_begin (λx hx=>by obtain ⟨a,_,h⟩:=hx;exact absurd h (hno a)) A.left hP (λa ha=>absurd ha (hno a));obtain ⟨N1,gs1,a1,w1,sl1,T1,q1,B1,r1,z1,h1,hs1,⟨hB1,hB1b,hB1c⟩,C1⟩:=hold_goes (Inb:=λ_=>none) (Mem:=λg=>g=0) (h:=0) (λw d h=>kc_at w d h) (dh_of_dt (λi s c e=>by cases e)) hG gs sl T q B hg C0;obtain ⟨hL,hP'⟩:=ring_end C1 rfl (λ_ _=>rfl);exact ⟨N1,gs1,a1,w1,sl1,T1,q1,r1,z1,h1,hs1,hL,B1,by omega,hP'⟩
def B20:Code:=Tryd.f60.body.getD .skip
def a200:Code:=seq1 B20
def a201:Code:=seq1 (seq2 B20)
def a202:Code:=seq1 (seq2 (seq2 B20))
def a203:Code:=seq1 (seq2 (seq2 (seq2 B20)))
theorem fine200:fineCode Tryd.prog true LT a200:=fineCode_ask callT extT (by kernel_rfl)
theorem fine201:fineCode Tryd.prog true LT a201:=fineCode_ask callT extT (by kernel_rfl)
theorem fine202:fineCode Tryd.prog true LT a202:=fineCode_ask callT extT (by kernel_rfl)
theorem fine203:fineCode Tryd.prog true LT a203:=fineCode_ask callT extT (by kernel_rfl)
theorem info40:(Tryd.prog.info? 31).map (λi=>(i.zero,i.size,i.bytes))=some (some (.slice none 0 0),1,24):=by kernel_rfl
theorem info42:(Tryd.prog.info? 38).map (λi=>(i.zero,i.size,i.bytes))=some (some (.agg #[I 0,I 0]),2,16):=by kernel_rfl
theorem mk27 (n:Nat) (hn:n<=8) (w:World):
 (Instr.makeSlice 27 (.int .i64 (n:Int)) (.int .i64 (n:Int))).run Tryd.prog w=.ok (.slice (some ⟨w.heap.size,0,none⟩) n n) (w.alloc (.cells (madeCells #[.slice none 0 0] n) 31)):=by
 obtain ⟨i,hq,hz,hs,hb⟩:=info_parts info40;have:=run_make (P:=Tryd.prog) w 27 31 i _ Tryd.underlying27 hq hz .i64 .i64 (n:Int) (n:Int) (by omega) (by omega) (by rw[hb];omega) (by omega);rw[hs] at this;rw[this];simp[Value.cells]
theorem mk40 (n:Nat) (hn:n<=64) (w:World):
 (Instr.makeSlice 31 (.int .i64 (n:Int)) (.int .i64 (n:Int))).run Tryd.prog w=.ok (.slice (some ⟨w.heap.size,0,none⟩) n n) (w.alloc (.cells (madeCells #[I 0,I 0] (n*2)) 38)):=by
 obtain ⟨i,hq,hz,hs,hb⟩:=info_parts info42;have:=run_make (P:=Tryd.prog) w 31 38 i _ Tryd.underlying31 hq hz .i64 .i64 (n:Int) (n:Int) (by omega) (by omega) (by rw[hb];omega) (by omega);rw[hs] at this;rw[this];simp[Value.cells]
theorem a201_wp (v:World) (wb p2 n:Nat) (p:Option Addr) (cap:Nat) (F:Value) (hn:n<=8):
 a201.wp Tryd.prog (λe a w'=>e=.normal∧a={ tmps:=#[Pt wb 0,.slice p n cap,F,undef,undef,Pt p2 0,.slice none 0 0,Pt (v.heap.size+1) 0,undef,undef,undef,.slice p n cap,I n,.slice (some ⟨v.heap.size,0,none⟩) n n]++Array.replicate 25 undef,defers:=[] }∧w'.heap=(v.heap.push (.cells (madeCells #[.slice none 0 0] n) 31)).push (.cells #[.slice (some ⟨v.heap.size,0,none⟩) n n] 27)∧w'.os=v.os∧w'.output=v.output)
  { tmps:=#[Pt wb 0,.slice p n cap,F,undef,undef,Pt p2 0,.slice none 0 0]++Array.replicate 32 undef,defers:=[] } v:=by
 have hmk:=mk27 n hn;show Code.wp Tryd.prog (seq1 (seq2 (Tryd.f60.body.getD .skip))) _ _ _;unfold Tryd.f60 seq1 seq2;simp only[Qa,Sy];go_wp2_with fail;exact ⟨rfl,rfl,rfl⟩
theorem info80:(Tryd.prog.info? 143).map (λi=>(i.zero,i.size,i.bytes))=some (some .nilFunc,1,8):=by kernel_rfl
theorem mk78 (n:Nat) (hn:n<=8) (w:World):
 (Instr.makeSlice 141 (.int .i64 (n:Int)) (.int .i64 (n:Int))).run Tryd.prog w=.ok (.slice (some ⟨w.heap.size,0,none⟩) n n) (w.alloc (.cells (madeCells #[.nilFunc] n) 143)):=by
 obtain ⟨i,hq,hz,hs,hb⟩:=info_parts info80;have:=run_make (P:=Tryd.prog) w 141 143 i _ Tryd.underlying141 hq hz .i64 .i64 (n:Int) (n:Int) (by omega) (by omega) (by rw[hb];omega) (by omega);rw[hs] at this;rw[this];simp[Value.cells]
theorem a200_wp (v:World) (wb n:Nat) (p:Option Addr) (cap:Nat) (fx:Nat):
 a200.wp Tryd.prog (λe a w'=>e=.normal∧a={ tmps:=#[Pt wb 0,.slice p n cap,.func (.func 0) #[] #[Pt fx 0],undef,undef,Pt v.heap.size 0,.slice none 0 0]++Array.replicate 32 undef,defers:=[] }∧w'.heap=v.heap.push (.cells #[.func (.func 0) #[] #[Pt fx 0]] 101)∧w'.os=v.os∧w'.output=v.output)
  { tmps:=#[Pt wb 0,.slice p n cap,.func (.func 0) #[] #[Pt fx 0]]++Array.replicate 36 undef,defers:=[] } v:=by
 show Code.wp Tryd.prog (seq1 (Tryd.f60.body.getD .skip)) _ _ _;unfold Tryd.f60 seq1;simp only[Qa,Sy];go_wp2_with fail;exact ⟨rfl,rfl,rfl⟩
theorem a202_wp (v:World) (wb p2 p3 rr n:Nat) (p:Option Addr) (cap:Nat) (F:Value) (hn:n<=8):
 a202.wp Tryd.prog (λe a w'=>e=.normal∧a={ tmps:=#[Pt wb 0,.slice p n cap,F,undef,undef,Pt p2 0,.slice none 0 0,Pt p3 0,.slice (some ⟨v.heap.size,0,none⟩) n n,undef,undef,.slice p n cap,I n,.slice (some ⟨rr,0,none⟩) n n,.slice p n cap,I n,.slice (some ⟨v.heap.size,0,none⟩) n n]++Array.replicate 22 undef,defers:=[] }∧w'.heap=v.heap.push (.cells (madeCells #[.nilFunc] n) 143)∧w'.os=v.os∧w'.output=v.output)
  { tmps:=#[Pt wb 0,.slice p n cap,F,undef,undef,Pt p2 0,.slice none 0 0,Pt p3 0,undef,undef,undef,.slice p n cap,I n,.slice (some ⟨rr,0,none⟩) n n]++Array.replicate 25 undef,defers:=[] } v:=by
 have hmk:=mk78 n hn;show Code.wp Tryd.prog (seq1 (seq2 (seq2 (Tryd.f60.body.getD .skip)))) _ _ _;unfold Tryd.f60 seq1 seq2;simp only[Qa,Sy];go_wp2_with fail;exact ⟨rfl,rfl,rfl⟩
structure Laid (v:World) (n p2 p3 rr bb:Nat) (pc:Nat->Option Addr) (ln cp:Nat->Nat) (k:Nat) (u:World):Prop where
 size:u.heap.size=v.heap.size+3*k
 rrow:u.rowIs rr 31 n (λj=>if j<k then .slice (some ⟨v.heap.size+3*j+2,0,none⟩) (ln j) (ln j) else .slice none 0 0)
 brow:u.rowIs bb 143 n (λj=>if j<k then .func (.func 93) #[] #[Pt (v.heap.size+3*j+1) 0,Pt p2 0,Pt p3 0,Pt (v.heap.size+3*j) 0] else .nilFunc)
 blk:∀ j,j<k->u.heap[v.heap.size+3*j]? = some (.cells #[I j] 3)∧u.heap[v.heap.size+3*j+1]? = some (.cells #[.slice (pc j) (ln j) (cp j)] 33)∧u.heap[v.heap.size+3*j+2]? = some (.cells (madeCells #[I 0,I 0] (ln j*2)) 38)
 old:∀ b,b<v.heap.size->b≠rr->b≠bb->u.heap[b]? = v.heap[b]?
 os:u.os=v.os
 out:u.output=v.output
theorem laid_next {wr W U:World}{n p2 p3 rr bb k:Nat}{pc:Nat->Option Addr}{ln cp:Nat->Nat}(h:Laid v n p2 p3 rr bb pc ln cp k wr) (hk:k<n) (hne:rr≠bb) (hW:W.heap=(wr.heap.push (.cells #[I k] 3)).push (.cells #[.slice (pc k) (ln k) (cp k)] 33)) (ho:W.os=wr.os) (hu:W.output=wr.output)
 (hU:U.heap=((((W.alloc (.cells (madeCells #[I 0,I 0] (ln k*2)) 38)).setCell ⟨rr,k,none⟩ (.slice (some ⟨W.heap.size,0,none⟩) (ln k) (ln k)))).setCell ⟨bb,k,none⟩ (.func (.func 93) #[] #[Pt (wr.heap.size+1) 0,Pt p2 0,Pt p3 0,Pt wr.heap.size 0])).heap) (hUo:U.os=W.os) (hUu:U.output=W.output):Laid v n p2 p3 rr bb pc ln cp (k+1) U:=by
 have hs:=h.size;have lr:=h.rrow.lt;have lb:=h.brow.lt;have hWs:W.heap.size=wr.heap.size+2:=by rw[hW];simp
 have hold:∀ b,b<wr.heap.size->W.heap[b]? = wr.heap[b]?:=λb hb=>by rw[hW,Qg,if_neg (by simp;omega),Qg,if_neg (by omega)]
 have hA:∀ b,b<W.heap.size->(W.alloc (.cells (madeCells #[I 0,I 0] (ln k*2)) 38)).heap[b]? = W.heap[b]?:=λb hb=>by show (W.heap.push _)[b]? = _;rw[Qg,if_neg (by omega)]
 have hUb:∀ b,b≠rr->b≠bb->U.heap[b]? = (W.alloc (.cells (madeCells #[I 0,I 0] (ln k*2)) 38)).heap[b]?:=λb h1 h2=>by rw[hU,Below.heap_setCell _ _ _ _ h2,Below.heap_setCell _ _ _ _ h1]
 refine ⟨?_,?_,?_,λj hj=>?_,λb hb h1 h2=>?_,hUo.trans (ho.trans h.os),hUu.trans (hu.trans h.out)⟩
 .rw[hU]
  show ((((W.alloc (.cells (madeCells #[I 0,I 0] (ln k*2)) 38)).setCell _ _).setCell _ _).heap).size=_;simp only[World.setCell,Array.size_modify];show (W.heap.push _).size=_;rw[Array.size_push];omega
 .have r1:=((h.rrow.of_block (w':=(W.alloc (.cells (madeCells #[I 0,I 0] (ln k*2)) 38))) (by rw[hA rr (by omega),hold rr lr])).set k (.slice (some ⟨W.heap.size,0,none⟩) (ln k) (ln k))).setOther (a:=⟨bb,k,none⟩) hne (.func (.func 93) #[] #[Pt (wr.heap.size+1) 0,Pt p2 0,Pt p3 0,Pt wr.heap.size 0])
  refine (r1.of_block (by rw[hU])).congr λi hi=>?_;by_cases e:i=k
  .subst e
   rw[if_pos rfl,if_pos (by omega),show v.heap.size+3*i+2=W.heap.size by omega]
  .rw[if_neg e]
   by_cases hlt:i<k;rw[if_pos hlt,if_pos (by omega)];rw[if_neg hlt,if_neg (by omega)]
 .have r1:=((h.brow.of_block (w':=(W.alloc (.cells (madeCells #[I 0,I 0] (ln k*2)) 38))) (by rw[hA bb (by omega),hold bb lb])).setOther (a:=⟨rr,k,none⟩) (Ne.symm hne) (.slice (some ⟨W.heap.size,0,none⟩) (ln k) (ln k))).set k (.func (.func 93) #[] #[Pt (wr.heap.size+1) 0,Pt p2 0,Pt p3 0,Pt wr.heap.size 0])
  refine (r1.of_block (by rw[hU])).congr λi hi=>?_;by_cases e:i=k
  .subst e
   rw[if_pos rfl,if_pos (by omega),hs]
  .rw[if_neg e]
   by_cases hlt:i<k;rw[if_pos hlt,if_pos (by omega)];rw[if_neg hlt,if_neg (by omega)]
 .by_cases e:j=k
  .subst e
   rw[<-hs];refine ⟨?_,?_,?_⟩;rw[hUb _ (by omega) (by omega),hA _ (by omega),hW,Qg,if_neg (by simp),Qg,if_pos rfl];rw[hUb _ (by omega) (by omega),hA _ (by omega),hW,Qg,if_pos (by simp)]
   .rw[hUb _ (by omega) (by omega)]
    show (W.heap.push _)[wr.heap.size+2]? = _;rw[<-hWs];exact Qo
  .have hj':j<k:=by omega
   obtain ⟨q1,q2,q3⟩:=h.blk j hj';have hne1:∀ b x,wr.heap[b]? = some x->(∃ c,x=.cells c 3 (0,0))∨(∃ c,x=.cells c 33 (0,0))∨(∃ c,x=.cells c 38 (0,0))->b≠rr∧b≠bb:=λb x hb hx=>by obtain ⟨c1,r1,_⟩:=h.rrow;obtain ⟨c2,r2,_⟩:=h.brow;refine ⟨λe=>?_,λe=>?_⟩<;>subst e;rw[r1] at hb;cases hb;rcases hx with ⟨c,hx⟩|⟨c,hx⟩|⟨c,hx⟩<;>cases hx;rw[r2] at hb;cases hb;rcases hx with ⟨c,hx⟩|⟨c,hx⟩|⟨c,hx⟩<;>cases hx
   have n1:=hne1 _ _ q1 (.inl ⟨_,rfl⟩);have n2:=hne1 _ _ q2 (.inr (.inl ⟨_,rfl⟩));have n3:=hne1 _ _ q3 (.inr (.inr ⟨_,rfl⟩));refine ⟨?_,?_,?_⟩;rw[hUb _ n1.1 n1.2,hA _ (by omega),hold _ (by omega)];exact q1;rw[hUb _ n2.1 n2.2,hA _ (by omega),hold _ (by omega)];exact q2;rw[hUb _ n3.1 n3.2,hA _ (by omega),hold _ (by omega)];exact q3
 .rw[hUb b h1 h2,hA b (by omega),hold b (by omega)]
  exact h.old b hb h1 h2
theorem a203_wp (v:World) (wb p2 p3 rr bb sb so n:Nat) (cap:Nat) (F:Value) (hn:n<=8) (pc:Nat->Option Addr) (ln cp:Nat->Nat) (hln:∀ k,k<n->ln k<=64) (hs:∀ k,k<n->v.cell? ⟨sb,so+k,none⟩=some (.slice (pc k) (ln k) (cp k)))
 (hrr:v.rowIs rr 31 n (λ_=>.slice none 0 0)) (hbb:v.rowIs bb 143 n (λ_=>.nilFunc)) (h3:v.cell? ⟨p3,0,none⟩=some (.slice (some ⟨rr,0,none⟩) n n)) (hne:rr≠bb∧rr≠sb∧bb≠sb∧p3≠rr∧p3≠bb):
 a203.wp Tryd.prog (λe a w'=>e=.normal∧(∃ u:Nat->Value,a={ tmps:=#[Pt wb 0,.slice (some ⟨sb,so,none⟩) n cap,F,undef,undef,Pt p2 0,.slice none 0 0,Pt p3 0,.slice (some ⟨bb,0,none⟩) n n,u 9,u 10,u 11,u 12,u 13,u 14,u 15,u 16,u 17,u 18,u 19,u 20,u 21,u 22,u 23,u 24,u 25,u 26,u 27,u 28,u 29,u 30,u 31,u 32,u 33,u 34,u 35,u 36,u 37,u 38],defers:=[] })∧Laid v n p2 p3 rr bb pc ln cp n w')
  { tmps:=#[Pt wb 0,.slice (some ⟨sb,so,none⟩) n cap,F,undef,undef,Pt p2 0,.slice none 0 0,Pt p3 0,.slice (some ⟨bb,0,none⟩) n n,undef,undef,.slice (some ⟨sb,so,none⟩) n cap,I n,.slice (some ⟨rr,0,none⟩) n n,.slice (some ⟨sb,so,none⟩) n cap,I n,.slice (some ⟨bb,0,none⟩) n n]++Array.replicate 22 undef,defers:=[] } v:=by
 show Code.wp Tryd.prog (seq1 (seq2 (seq2 (seq2 (Tryd.f60.body.getD .skip))))) _ _ _;unfold Tryd.f60 seq1 seq2;simp only[Qa,Sy];have HS:Hid (∀ k,k<n->v.cell? ⟨sb,so+k,none⟩=some (.slice (pc k) (ln k) (cp k))):=⟨hs⟩
 have HLn:Hid (∀ k,k<n->ln k<=64):=⟨hln⟩
 have H0:Hid (Laid v n p2 p3 rr bb pc ln cp 0 v):=⟨⟨rfl,hrr.congr λi _=>by simp,hbb.congr λi _=>by simp,λj hj=>by omega,λ_ _ _ _=>rfl,rfl,rfl⟩⟩
 have H3:Hid (v.cell? ⟨p3,0,none⟩=some (.slice (some ⟨rr,0,none⟩) n n)):=⟨h3⟩
 clear hs hln hrr hbb h3;go_wp2_with fail
 go_loopw [19] (λi u=>∃ k:Nat,k<=n∧i=.int .i64 k∧Laid v n p2 p3 rr bb pc ln cp k u) (λi _=>n - (intOf i).toNat)
 case atStart=>exact ⟨0,Nat.zero_le _,rfl,H0.out⟩
 case round =>
  obtain ⟨k,hk,rfl,hL⟩:=hrel;have HL:Hid (Laid v n p2 p3 rr bb pc ln cp k wr):=⟨hL⟩
  by_cases hlt:k<n
  .have hsk:wr.cell? ⟨sb,so+k,none⟩=some (.slice (pc k) (ln k) (cp k)):=by have:=HS.out k hlt;rw[World.cell?_of_block (hL.old sb (World.block_lt_of_cell? _ _ this) (Ne.symm hne.2.1) (Ne.symm hne.2.2.1))];exact this
   have h3k:wr.cell? ⟨p3,0,none⟩=some (.slice (some ⟨rr,0,none⟩) n n):=by rw[World.cell?_of_block (hL.old p3 (World.block_lt_of_cell? _ _ H3.out) hne.2.2.2.1 hne.2.2.2.2)];exact H3.out
   have hmk:=mk40 (ln k) (HLn.out k hlt);have hlt':(k:Int)<(n:Int):=by omega
   have r0:wr.cell? ⟨rr,k,none⟩=some (.slice none 0 0):=by rw[hL.rrow.cell hlt];simp
   have r1:wr.frozen? ⟨rr,k,none⟩=false:=hL.rrow.frozen k;have b0:wr.cell? ⟨bb,k,none⟩=some .nilFunc:=by rw[hL.brow.cell hlt];simp
   have b1:wr.frozen? ⟨bb,k,none⟩=false:=hL.brow.frozen k;have lr:=hL.rrow.lt;have lb:=hL.brow.lt;have l3:p3<wr.heap.size:=World.block_lt_of_cell? _ _ h3k;have HW:Hid ((λW:World=>W.heap=(wr.heap.push (.cells #[I k] 3)).push (.cells #[.slice (pc k) (ln k) (cp k)] 33)∧W.os=wr.os∧W.output=wr.output∧W.cell? ⟨p3,0,none⟩=some (.slice (some ⟨rr,0,none⟩) n n)∧W.cell? ⟨wr.heap.size,0,none⟩=some (I k)∧W.cell? ⟨wr.heap.size+1,0,none⟩=some (.slice (pc k) (ln k) (cp k))∧W.cell? ⟨rr,k,none⟩=some (.slice none 0 0)∧W.frozen? ⟨rr,k,none⟩=false∧W.cell? ⟨bb,k,none⟩=some .nilFunc∧W.frozen? ⟨bb,k,none⟩=false∧W.heap.size=wr.heap.size+2) ((wr.alloc (.cells #[I k] 3)).alloc (.cells #[.slice (pc k) (ln k) (cp k)] 33))):=⟨by
    have ho:∀ b,b<wr.heap.size->((wr.alloc (.cells #[I k] 3)).alloc (.cells #[.slice (pc k) (ln k) (cp k)] 33)).heap[b]? = wr.heap[b]?:=λb hb=>by show ((wr.heap.push _).push _)[b]? = _;rw[Qg,if_neg (by simp;omega),Qg,if_neg (by omega)]
    have hN:((wr.alloc (.cells #[I k] 3)).alloc (.cells #[.slice (pc k) (ln k) (cp k)] 33)).heap[wr.heap.size]? = some (.cells #[I k] 3):=by show ((wr.heap.push _).push _)[wr.heap.size]? = _;rw[Qg,if_neg (by simp),Qg,if_pos rfl]
    have hN1:((wr.alloc (.cells #[I k] 3)).alloc (.cells #[.slice (pc k) (ln k) (cp k)] 33)).heap[wr.heap.size+1]? = some (.cells #[.slice (pc k) (ln k) (cp k)] 33):=by show ((wr.heap.push _).push _)[wr.heap.size+1]? = _;rw[Qg,if_pos (by simp)]
    refine ⟨rfl,rfl,rfl,?_,by unfold World.cell?;rw[hN];rfl,by unfold World.cell?;rw[hN1];rfl,?_,?_,?_,?_,by show ((wr.heap.push _).push _).size=_;simp⟩;rw[World.cell?_of_block (ho p3 l3)];exact h3k;rw[World.cell?_of_block (ho rr lr)];exact r0;rw[World.frozen?_of_block (ho rr lr)];exact r1;rw[World.cell?_of_block (ho bb lb)];exact b0;rw[World.frozen?_of_block (ho bb lb)];exact b1⟩
   have e9:rr≠bb:=hne.1;have e10:bb≠rr:=λe=>hne.1 e.symm;have Hl:Hid (rr<wr.heap.size∧bb<wr.heap.size∧p3<wr.heap.size):=⟨⟨lr,lb,l3⟩⟩
   clear hL lr lb l3 r0 r1 b0 b1 h3k;go_wp2_with fail;refine (show ∀ W:World,(W.heap=(wr.heap.push (.cells #[I k] 3)).push (.cells #[.slice (pc k) (ln k) (cp k)] 33)∧W.os=wr.os∧W.output=wr.output∧W.cell? ⟨p3,0,none⟩=some (.slice (some ⟨rr,0,none⟩) n n)∧W.cell? ⟨wr.heap.size,0,none⟩=some (I k)∧W.cell? ⟨wr.heap.size+1,0,none⟩=some (.slice (pc k) (ln k) (cp k))∧W.cell? ⟨rr,k,none⟩=some (.slice none 0 0)∧W.frozen? ⟨rr,k,none⟩=false∧W.cell? ⟨bb,k,none⟩=some .nilFunc∧W.frozen? ⟨bb,k,none⟩=false∧W.heap.size=wr.heap.size+2)->Code.wp Tryd.prog _ _ _ W from λW hW=>?_) _ HW.out;clear hsk;obtain ⟨hWh,hWo,hWu,g3,g0,g1,gr,gf,gb,gbf,hWs⟩:=hW;have HH:Hid (W.heap=(wr.heap.push (.cells #[I k] 3)).push (.cells #[.slice (pc k) (ln k) (cp k)] 33)∧W.os=wr.os∧W.output=wr.output∧W.heap.size=wr.heap.size+2):=⟨⟨hWh,hWo,hWu,hWs⟩⟩
   have x1:p3≠W.heap.size:=by have:=Hl.out;omega
   have x2:rr≠W.heap.size:=by have:=Hl.out;omega
   have x3:bb≠W.heap.size:=by have:=Hl.out;omega
   have x4:wr.heap.size≠W.heap.size:=by omega
   have x5:wr.heap.size+1≠W.heap.size:=by omega
   have hA:∀ b,b<W.heap.size->(W.alloc (.cells (madeCells #[I 0,I 0] (ln k*2)) 38)).heap[b]? = W.heap[b]?:=λb hb=>by show (W.heap.push _)[b]? = _;rw[Qg,if_neg (by omega)]
   have lA:p3<W.heap.size∧rr<W.heap.size∧bb<W.heap.size:=by have:=Hl.out;omega
   have a3:(W.alloc (.cells (madeCells #[I 0,I 0] (ln k*2)) 38)).cell? ⟨p3,0,none⟩=some (.slice (some ⟨rr,0,none⟩) n n):=by rw[World.cell?_of_block (hA p3 lA.1)];exact g3
   have a0:(W.alloc (.cells (madeCells #[I 0,I 0] (ln k*2)) 38)).cell? ⟨wr.heap.size,0,none⟩=some (I k):=by rw[World.cell?_of_block (hA wr.heap.size (by omega))];exact g0
   have a1:(W.alloc (.cells (madeCells #[I 0,I 0] (ln k*2)) 38)).cell? ⟨wr.heap.size+1,0,none⟩=some (.slice (pc k) (ln k) (cp k)):=by rw[World.cell?_of_block (hA (wr.heap.size+1) (by omega))];exact g1
   have ar:(W.alloc (.cells (madeCells #[I 0,I 0] (ln k*2)) 38)).cell? ⟨rr,k,none⟩=some (.slice none 0 0):=by rw[World.cell?_of_block (hA rr lA.2.1)];exact gr
   have af:(W.alloc (.cells (madeCells #[I 0,I 0] (ln k*2)) 38)).frozen? ⟨rr,k,none⟩=false:=by rw[World.frozen?_of_block (hA rr lA.2.1)];exact gf
   have hZ:∀ b,b<W.heap.size->b≠rr->((W.alloc (.cells (madeCells #[I 0,I 0] (ln k*2)) 38)).setCell ⟨rr,k,none⟩ (.slice (some ⟨W.heap.size,0,none⟩) (ln k) (ln k))).heap[b]? = W.heap[b]?:=λb hb hb2=>by rw[Below.heap_setCell _ _ _ _ hb2,hA b hb]
   have z0:((W.alloc (.cells (madeCells #[I 0,I 0] (ln k*2)) 38)).setCell ⟨rr,k,none⟩ (.slice (some ⟨W.heap.size,0,none⟩) (ln k) (ln k))).cell? ⟨wr.heap.size,0,none⟩=some (I k):=by rw[World.cell?_of_block (hZ wr.heap.size (by omega) (by have:=Hl.out;omega))];exact g0
   have zb:((W.alloc (.cells (madeCells #[I 0,I 0] (ln k*2)) 38)).setCell ⟨rr,k,none⟩ (.slice (some ⟨W.heap.size,0,none⟩) (ln k) (ln k))).cell? ⟨bb,k,none⟩=some .nilFunc:=by rw[World.cell?_of_block (hZ bb lA.2.2 e10)];exact gb
   have zf:((W.alloc (.cells (madeCells #[I 0,I 0] (ln k*2)) 38)).setCell ⟨rr,k,none⟩ (.slice (some ⟨W.heap.size,0,none⟩) (ln k) (ln k))).frozen? ⟨bb,k,none⟩=false:=by rw[World.frozen?_of_block (hZ bb lA.2.2 e10)];exact gbf
   have hst:(store ⟨bb,k,none⟩ (.func (.func 93) #[] #[Pt (wr.heap.size+1) 0,Pt p2 0,Pt p3 0,Pt wr.heap.size 0])).run Tryd.prog ((W.alloc (.cells (madeCells #[I 0,I 0] (ln k*2)) 38)).setCell ⟨rr,k,none⟩ (.slice (some ⟨W.heap.size,0,none⟩) (ln k) (ln k))).drew=.ok () (((W.alloc (.cells (madeCells #[I 0,I 0] (ln k*2)) 38)).setCell ⟨rr,k,none⟩ (.slice (some ⟨W.heap.size,0,none⟩) (ln k) (ln k))).setCell ⟨bb,k,none⟩ (.func (.func 93) #[] #[Pt (wr.heap.size+1) 0,Pt p2 0,Pt p3 0,Pt wr.heap.size 0])).drew:=by have zb':((W.alloc (.cells (madeCells #[I 0,I 0] (ln k*2)) 38)).setCell ⟨rr,k,none⟩ (.slice (some ⟨W.heap.size,0,none⟩) (ln k) (ln k))).drew.cell? ⟨bb,k,none⟩=some .nilFunc:=zb;have zf':((W.alloc (.cells (madeCells #[I 0,I 0] (ln k*2)) 38)).setCell ⟨rr,k,none⟩ (.slice (some ⟨W.heap.size,0,none⟩) (ln k) (ln k))).drew.frozen? ⟨bb,k,none⟩=false:=zf;show Sem.run Tryd.prog (Sem.store .plain _ _ (Sem.pure ())) _=_;simp only[Sem.run,zb',zf',Qh,if_false];rfl
   clear hWh hWo hWu hWs hA lA hZ
   go_region
   go_wp2_with fail
   go_roundw
   case rel =>refine ⟨k+1,by omega,by go_num,?_⟩;exact laid_next HL.out hlt e9 HH.out.1 HH.out.2.1 HH.out.2.2.1 rfl rfl rfl
   case measure=>simp[intOf];omega
  .have hkk:k=n:=by omega
   subst hkk;clear hL;go_wp2_with fail;exact ⟨⟨λm=>match m with|9=>u9|10=>u10|11=>.slice (some ⟨sb,so,none⟩) k cap|12=>I k|13=>.slice (some ⟨rr,0,none⟩) k k|14=>.slice (some ⟨sb,so,none⟩) k cap|15=>I k|16=>.slice (some ⟨bb,0,none⟩) k k|17=>.slice (some ⟨sb,so,none⟩) k cap|18=>I k|19=>I k|20=>.bool false|21=>u21|22=>u22|23=>u23|24=>u24|25=>u25|26=>u26|27=>u27|28=>u28|29=>u29|30=>u30|31=>u31|32=>u32|33=>u33|34=>u34|_=>undef,by simp⟩,HL.out⟩
structure Set20 (v:World) (xb n:Nat) (pc:Nat->Option Addr) (ln cp:Nat->Nat) (u:World):Prop where
 size:u.heap.size=v.heap.size+4+3*n
 p2:u.heap[v.heap.size]? = some (.cells #[.func (.func 0) #[] #[Pt xb 0]] 101)
 rrow:u.rowIs (v.heap.size+1) 31 n (λj=>.slice (some ⟨v.heap.size+4+3*j+2,0,none⟩) (ln j) (ln j))
 p3:u.heap[v.heap.size+2]? = some (.cells #[.slice (some ⟨v.heap.size+1,0,none⟩) n n] 27)
 brow:u.rowIs (v.heap.size+3) 143 n (λj=>.func (.func 93) #[] #[Pt (v.heap.size+4+3*j+1) 0,Pt v.heap.size 0,Pt (v.heap.size+2) 0,Pt (v.heap.size+4+3*j) 0])
 blk:∀ j,j<n->u.heap[v.heap.size+4+3*j]? = some (.cells #[I j] 3)∧u.heap[v.heap.size+4+3*j+1]? = some (.cells #[.slice (pc j) (ln j) (cp j)] 33)∧u.heap[v.heap.size+4+3*j+2]? = some (.cells (madeCells #[I 0,I 0] (ln j*2)) 38)
 old:∀ b,b<v.heap.size->u.heap[b]? = v.heap[b]?
 os:u.os=v.os
 out:u.output=v.output
def R20:Code:=seq2 (seq2 (seq2 (seq2 B20)))
theorem eB20:B20=.seq a200 (.seq a201 (.seq a202 (.seq a203 R20))):=by kernel_rfl
theorem run20_in {Ch:Nat->Prop}{Stop:Goroutine->World->Prop}{main:Bool}(wb xb sb so n cap:Nat) (hn8:n<=8) (pc:Nat->Option Addr) (ln cp:Nat->Nat) (hln:∀ k,k<n->ln k<=64) (hs:∀ k,k<n->v.cell? ⟨sb,so+k,none⟩=some (.slice (pc k) (ln k) (cp k))) (cs:List Frame) {bc:Frame}{ac:Act}{ops:Array Oper}{q:Nat}{rest:List Nat}{oc:Oper}{k:List Item}(hoc:ops[q]? = some oc)
 (hsb:sb<v.heap.size) (hvw:Rel zn v w) (hn:NoRow Ch v)
 (hk:∀ v' w' (bd:Frame) (ad:Act) (od:Array Oper) (qd:Nat) (rd:List Nat) (oe:Oper) (kd:List Item),Rel zn v' w'->NoRow Ch v'->Set20 v xb n pc ln cp v'->od[qd]? = some oe ->
   (∀ (Ch:Nat->Prop) (Stop:Goroutine->World->Prop) (w:World) (x:Value),w.cell? ⟨v.heap.size+2,0,none⟩=some x->(∀ d,GoesI Tryd.prog main (DT (ScZ zn) Ch) Stop (G (bc.at (ac.put oc.dst x) (.inRegion ops rest :: k)) cs) (w.at d))->GoesI Tryd.prog main (DT (ScZ zn) Ch) Stop (G (bd.at (ad.put oe.dst (.tuple #[])) (.inRegion od rd :: kd)) (bc.at ac (.inRegion ops (q :: rest) :: k) :: cs)) w) ->
   GoesI Tryd.prog main (DT (ScZ zn) Ch) Stop (G ((base 95).at { tmps:=#[Pt wb 0,.slice (some ⟨v.heap.size+3,0,none⟩) n n]++Array.replicate 60 undef,defers:=[] } [.code B35]) (bd.at ad (.inRegion od (qd :: rd):: kd):: bc.at ac (.inRegion ops (q :: rest):: k):: cs)) w'):
 GoesI Tryd.prog main (DT (ScZ zn) Ch) Stop (G ((base 60).at { tmps:=#[Pt wb 0,.slice (some ⟨sb,so,none⟩) n cap,.func (.func 0) #[] #[Pt xb 0]]++Array.replicate 36 undef,defers:=[] } [.code B20]) (bc.at ac (.inRegion ops (q :: rest) :: k) :: cs)) w:=by
 rw[eB20];refine goesI_seq (dt_idle _ _) ?_;refine goesI_plain (z:=zn) (wr:=true) (L:=LT) (I:=NoRow Ch) hE fineT noRow_keeps (λv v' w w' es hi hr ho he=>dt_of_z v v' w w' es hi hr ho he) hvw fine200 rfl (by simp[base]) hn
  (Q:=λa w'=>a={ tmps:=#[Pt wb 0,.slice (some ⟨sb,so,none⟩) n cap,.func (.func 0) #[] #[Pt xb 0],undef,undef,Pt v.heap.size 0,.slice none 0 0]++Array.replicate 32 undef,defers:=[] }∧w'.heap=v.heap.push (.cells #[.func (.func 0) #[] #[Pt xb 0]] 101)∧w'.os=v.os∧w'.output=v.output) (λτ=>a200_wp (onTape v τ 0) wb n (some ⟨sb,so,none⟩) cap xb) ?_
 rintro a1 v1 w1 ⟨rfl,e1,o1,u1⟩ hr1 hn1 -;have s1:v1.heap.size=v.heap.size+1:=by rw[e1];simp
 refine goesI_seq (dt_idle _ _) ?_;refine goesI_plain (z:=zn) (wr:=true) (L:=LT) (I:=NoRow Ch) hE fineT noRow_keeps (λv v' w w' es hi hr ho he=>dt_of_z v v' w w' es hi hr ho he) hr1 fine201 rfl (by simp[base]) hn1
  (Q:=λa w'=>a={ tmps:=#[Pt wb 0,.slice (some ⟨sb,so,none⟩) n cap,.func (.func 0) #[] #[Pt xb 0],undef,undef,Pt v.heap.size 0,.slice none 0 0,Pt (v1.heap.size+1) 0,undef,undef,undef,.slice (some ⟨sb,so,none⟩) n cap,I n,.slice (some ⟨v1.heap.size,0,none⟩) n n]++Array.replicate 25 undef,defers:=[] }∧w'.heap=(v1.heap.push (.cells (madeCells #[.slice none 0 0] n) 31)).push (.cells #[.slice (some ⟨v1.heap.size,0,none⟩) n n] 27)∧w'.os=v1.os∧w'.output=v1.output) (λτ=>a201_wp (onTape v1 τ 0) wb v.heap.size n (some ⟨sb,so,none⟩) cap _ hn8) ?_
 rintro a2 v2 w2 ⟨rfl,e2,o2,u2⟩ hr2 hn2 -;have s2:v2.heap.size=v.heap.size+3:=by rw[e2];simp;omega
 refine goesI_seq (dt_idle _ _) ?_;refine goesI_plain (z:=zn) (wr:=true) (L:=LT) (I:=NoRow Ch) hE fineT noRow_keeps (λv v' w w' es hi hr ho he=>dt_of_z v v' w w' es hi hr ho he) hr2 fine202 rfl (by simp[base]) hn2
  (Q:=λa w'=>a={ tmps:=#[Pt wb 0,.slice (some ⟨sb,so,none⟩) n cap,.func (.func 0) #[] #[Pt xb 0],undef,undef,Pt v.heap.size 0,.slice none 0 0,Pt (v1.heap.size+1) 0,.slice (some ⟨v2.heap.size,0,none⟩) n n,undef,undef,.slice (some ⟨sb,so,none⟩) n cap,I n,.slice (some ⟨v1.heap.size,0,none⟩) n n,.slice (some ⟨sb,so,none⟩) n cap,I n,.slice (some ⟨v2.heap.size,0,none⟩) n n]++Array.replicate 22 undef,defers:=[] }∧w'.heap=v2.heap.push (.cells (madeCells #[.nilFunc] n) 143)∧w'.os=v2.os∧w'.output=v2.output) (λτ=>a202_wp (onTape v2 τ 0) wb v.heap.size (v1.heap.size+1) v1.heap.size n (some ⟨sb,so,none⟩) cap _ hn8) ?_
 rintro a3 v3 w3 ⟨rfl,e3,o3,u3⟩ hr3 hn3 -;have s3:v3.heap.size=v.heap.size+4:=by rw[e3];simp;omega
 have k1:∀ b,b<v.heap.size->v1.heap[b]? = v.heap[b]?:=λb hb=>by rw[e1,Qg,if_neg (by omega)]
 have k2:∀ b,b<v.heap.size+1->v2.heap[b]? = v1.heap[b]?:=λb hb=>by rw[e2,Qg,if_neg (by simp;omega),Qg,if_neg (by omega)]
 have k3:∀ b,b<v.heap.size+3->v3.heap[b]? = v2.heap[b]?:=λb hb=>by rw[e3,Qg,if_neg (by omega)]
 have f0:v3.heap[v.heap.size]? = some (.cells #[.func (.func 0) #[] #[Pt xb 0]] 101):=by rw[k3 _ (by omega),k2 _ (by omega),e1];exact Qo
 have f1:v3.heap[v.heap.size+1]? = some (.cells (madeCells #[.slice none 0 0] n) 31):=by rw[k3 _ (by omega),e2,Qg,if_neg (by simp;omega),Qg,if_pos (by omega)]
 have f2:v3.heap[v.heap.size+2]? = some (.cells #[.slice (some ⟨v.heap.size+1,0,none⟩) n n] 27):=by rw[k3 _ (by omega),e2,Qg,if_pos (by simp;omega),s1]
 have f3:v3.heap[v.heap.size+3]? = some (.cells (madeCells #[.nilFunc] n) 143):=by rw[e3,Qg,if_pos (by omega)]
 have ko:∀ b,b<v.heap.size->v3.heap[b]? = v.heap[b]?:=λb hb=>by rw[k3 b (by omega),k2 b (by omega),k1 b hb]
 refine goesI_seq (dt_idle _ _) ?_;rw[s1,s2];refine goesI_plain (z:=zn) (wr:=true) (L:=LT) (I:=NoRow Ch) hE fineT noRow_keeps (λv v' w w' es hi hr ho he=>dt_of_z v v' w w' es hi hr ho he) hr3 fine203 rfl (by simp[base]) hn3
  (Q:=λa w'=>(∃ u:Nat->Value,a={ tmps:=#[Pt wb 0,.slice (some ⟨sb,so,none⟩) n cap,.func (.func 0) #[] #[Pt xb 0],undef,undef,Pt v.heap.size 0,.slice none 0 0,Pt (v.heap.size+1+1) 0,.slice (some ⟨v.heap.size+3,0,none⟩) n n,u 9,u 10,u 11,u 12,u 13,u 14,u 15,u 16,u 17,u 18,u 19,u 20,u 21,u 22,u 23,u 24,u 25,u 26,u 27,u 28,u 29,u 30,u 31,u 32,u 33,u 34,u 35,u 36,u 37,u 38],defers:=[] })∧Laid v3 n v.heap.size (v.heap.size+1+1) (v.heap.size+1) (v.heap.size+3) pc ln cp n w') (λτ=>?_) ?_
 .refine wp_mono (a203_wp (onTape v3 τ 0) wb v.heap.size (v.heap.size+1+1) (v.heap.size+1) (v.heap.size+3) sb so n cap _ hn8 pc ln cp hln (λk hk=>?_) ?_ ?_ ?_ ⟨by omega,by omega,by omega,by omega,by omega⟩) (λe a w' hq=>⟨hq.1,hq.2.1,?_⟩)
  .show v3.cell? _=_
   rw[World.cell?_of_block (w:=v) (w':=v3) (ko sb hsb)];exact hs k hk
  exact ⟨_,f1,size_madeCells _ _,λi hi=>by simp[madeCells,hi,Nat.mod_one]⟩;exact ⟨_,f3,size_madeCells _ _,λi hi=>by simp[madeCells,hi,Nat.mod_one]⟩
  .show v3.cell? _=_
   unfold World.cell?;rw[show (⟨v.heap.size+1+1,0,none⟩:Addr).block=v.heap.size+2 from rfl,f2];rfl
  .have:=hq.2.2
   exact ⟨this.size,this.rrow,this.brow,this.blk,this.old,this.os,this.out⟩
 rintro a4 v4 w4 ⟨⟨u,rfl⟩,hL⟩ hr4 hn4 -;have hset:Set20 v xb n pc ln cp v4:=by refine ⟨by rw[hL.size,s3],by rw[hL.old _ (by omega) (by omega) (by omega)];exact f0,hL.rrow.congr λi hi=>by rw[if_pos hi,s3],by rw[hL.old _ (by omega) (by omega) (by omega)];exact f2,hL.brow.congr λi hi=>by rw[if_pos hi,s3],λj hj=>by have:=hL.blk j hj;rw[s3] at this;exact this,λb hb=>by rw[hL.old b (by omega) (by omega) (by omega)];exact ko b hb,by rw[hL.os,o3,o2,o1],by rw[hL.out,u3,u2,u1]⟩
 clear hL hr1 hr2 hr3 hn1 hn2 hn3 e1 e2 e3 o1 o2 o3 u1 u2 u3 k1 k2 k3 f0 f1 f2 f3 ko hvw hn hs hln s1 s2 s3;unfold R20 B20 Tryd.f60 seq2;simp only[Qa];refine goesI_seq (dt_idle _ _) ?_;refine goesI_region (dt_idle _ _) ?_;simp only[Sz,Sr,Nat.reduceAdd];iterate 2
  (refine goesI_oper rfl rfl (by decide) (λd K hK=>?_)
   go_simp;refine hK _ _ ⟨dt_reads (λe he=>?_),GoesI.at ?_ d⟩
   .have hm:=mem_listed he
    simp[go_sem, *] at hm
    try exact ⟨_,_,hm⟩
   clear hK K)
 refine goesI_into (f:=95) (fn:=Tryd.f95) (args:=#[Pt wb 0,.slice (some ⟨v.heap.size+3,0,none⟩) n n]) (dt_idle _ _) rfl rfl (by decide) rfl (by simp[Act.eval]) Tryd.func95 (by decide) rfl ?_;refine hk v4 w4 _ _ _ _ _ _ _ hr4 hn4 hset rfl (λCh Stop w x hx hg=>?_);clear hk hset hr4 hn4;refine goesI_regionEnd (dt_idle _ _) ?_;refine goesI_seq (dt_idle _ _) ?_;refine goesI_region (dt_idle _ _) ?_;simp only[Sz,Sr,Nat.reduceAdd];have hx':w.cell? ⟨v.heap.size+1+1,0,none⟩=some x:=hx;iterate 2
  (refine goesI_oper rfl rfl (by decide) (λd K hK=>?_)
   go_simp;refine hK _ _ ⟨dt_reads (λe he=>?_),GoesI.at ?_ d⟩
   .have hm:=mem_listed he
    simp[go_sem, *] at hm
    try exact ⟨_,_,hm⟩
   clear hK K)
 refine goesI_regionEnd (dt_idle _ _) ?_;refine GoesI.ctl rfl (λ_=>stepG_ret') (dt_idle _ _) ?_;refine goesI_leave (b:=base 60) (fn:=Tryd.f60) (v:=x) rfl rfl Tryd.func60 (λw=>?_) (λw=>by simp[results,go_sem,Tryd.f60]) hoc (dt_idle _ _) ?_
 .rw[results_tmp (t:=6) rfl]
  simp
 .have:=hg w.drawn
  exact this
def Celled (wb:Nat) (tv:Value) (n base:Nat) (xs:List Value) (x:Value) (w w':World):Prop :=
 ∃ g cap,(∀ c t f,w.heap[wb]? = some (.cells c t f)->w'.heap[wb]? = some (.cells (c.setIfInBounds 3 (.slice (some ⟨g,0,none⟩) (n+1) cap)) t f)) ∧
   w'.ownsRow base 3 1 (.slice (some ⟨g,0,none⟩) (n+1) cap) (n+1) (xs++[x])∧(tv.ownBlock=some g∨w.heap.size<=g)∧Fr (λb=>b=wb∨some b=tv.ownBlock) w w'
theorem celled_of {wb:Nat}{tv x:Value}{n base:Nat}{xs:List Value}{u w6:World}{g cap:Nat}(hb:Below w.heap.size w u) (hw:wb<w.heap.size) (hg:u.grownBy w6 tv.ownBlock) (hown:w6.ownsRow base 3 1 (.slice (some ⟨g,0,none⟩) (n+1) cap) (n+1) (xs++[x]))
 (hat:tv.ownBlock=some g∨g=u.heap.size) (hne:tv.ownBlock≠some wb):Celled wb tv n base xs x w (w6.setCell ⟨wb,3,none⟩ (.slice (some ⟨g,0,none⟩) (n+1) cap)):=by
 have hgw:g≠wb:=by rcases hat with h|h;exact λe=>hne (by rw[h,e]);have:=hb.size;omega
 have e6:w6.heap[wb]? = w.heap[wb]?:=(hg.block wb (Qp hw hb.size) (Ne.symm hne)).trans (hb.block wb hw);refine ⟨g,cap,λc t f h=>heap_setCell_same (by rw[e6];exact h) _,own_set hown _ _ (λe=>hgw (Qd e)),?_,?_⟩
 .rcases hat with h|h
  exact .inl h;exact .inr (by have:=hb.size;omega)
 .refine ⟨by show w6.os=_;rw[hg.os,hb.os],by show w6.output=_;rw[hg.output,hb.output],?_,λb hlt hs=>?_⟩
  .have:=hb.size
   have:=hg.size;simp only[World.setCell,Array.size_modify];omega
  rw[Below.heap_setCell _ _ _ _ (λe=>hs (.inl e)),hg.block b (Qp hlt hb.size) (λe=>hs (.inr e)),hb.block b hlt]
def celledS (S:TS) (cv:Value):TS:={ S with cv:=cv,chg:=S.chg++[0] }
theorem celled_ev {v':World}(h:Rep z S v) (hN:Celled S.wb S.cv S.chg.length S.base (S.chg.map I) (I 0) v v'):∃ cv',Ev z S v (celledS S cv') v':=by
 obtain ⟨g,cap,hw,hown,hat,hfr⟩:=hN;have hst:∀ k b,blk S k=some b->k≠0->k≠1->v'.heap[b]? = v.heap[b]?:=λk b hk h0 h3=>hfr.block b (h.lt hk) (λhS=>by rcases hS with rfl|hS;exact h0 (h.apart k 0 _ hk rfl);exact h3 (h.apart k 1 b hk hS.symm))
 have hnew:∀ k b,blk (celledS S (.slice (some ⟨g,0,none⟩) (S.chg.length+1) cap)) k=some b->(blk S k=some b)∨(k=1∧b=g):=λk b hk=>by
  match k,hk with
  |0,hk=>exact .inl hk
  |1,hk=>cases hk;exact .inr ⟨rfl,rfl⟩
  |2,hk=>exact .inl hk
  |3,hk=>exact .inl hk
  |4,hk=>exact .inl hk
  |k+5,hk=>exact .inl hk
 refine ⟨.slice (some ⟨g,0,none⟩) (S.chg.length+1) cap,⟨?_,λj t' ht'=>?_,own_stay (λb hb=>hst 3 b hb (by omega) (by omega)) h.own,?_,own_stay (λb hb=>hst 2 b hb (by omega) (by omega)) h.ths,own_stay (λb hb=>hst 4 b hb (by omega) (by omega)) h.sch,Qk h.bs hfr.size,λj k b hj hk=>?_,h.kept⟩,hfr.mono (λx _ hx=>?_),λb ⟨k,hk⟩=>?_⟩
 .have:=hw _ _ _ h.wor
  simpa [celledS] using this
 .rw[hst (j+5) t'.tb (by simp only[blk];rw[show S.thr[j]? = some t' from ht'];rfl) (by omega) (by omega)]
  exact h.thr j t' ht'
 .show v'.ownsRow S.base 3 1 _ (S.chg++[0]).length ((S.chg++[0]).map I)
  rw[Qj,List.map_append];exact hown
 .rcases hnew j b hj with e1|⟨rfl,rfl⟩<;>rcases hnew k b hk with e2|⟨rfl,e2⟩
  exact h.apart j k b e1 e2
  .subst e2
   rcases hat with ha|ha;exact h.apart j 1 b e1 ha;have:=h.lt e1;omega
  .rcases hat with ha|ha
   exact h.apart 1 k b ha e2;have:=h.lt e2;omega
  rfl
 .rcases hx with rfl|hx
  exact ⟨0,rfl⟩;exact ⟨1,hx.symm⟩
 .rcases hnew k b hk with e1|⟨_,rfl⟩
  exact .inl ⟨k,e1⟩
  .rcases hat with ha|ha
   exact .inl ⟨1,ha⟩;exact .inr ha
theorem info3:(Tryd.prog.info? 3).map (λi=>(i.zero,i.size,i.bytes))=some (some (I 0),1,8):=by kernel_rfl
theorem newsI (w:World) (x:Int) (t:TypeId):∀ j u,[I x][j]? = some u->(w.alloc (.cells #[I x] t)).cell? ((⟨w.heap.size,0,none⟩:Addr).add j)=some u:=by intro j u hj;have hb:(w.alloc (.cells #[I x] t)).heap[w.heap.size]? = some (.cells #[I x] t):=Qo;exact World.news_of_block hb j u hj
theorem oneI (x:Int):∀ u∈[I x],u.oneCell'=true:=by intro u hu;simp at hu;subst hu;rfl
theorem body24 (h:Rep z S v) (hn:S.chg.length<=17592186043904):Body Tryd.f103 #[Pt S.wb 0] v (λr v'=>r=I S.chg.length∧∃ cv,Ev z S v (celledS S cv) v'):=by
 intro code hb;obtain rfl:=Qd hb;clear hb;have c3:=h.wcell.2.2.2.1;have f3:=fz_off h 3 (by omega);have HR:Hid (Rep z S v):=⟨h⟩
 have q3:S.wb<v.heap.size:=World.block_lt_of_cell? _ _ c3;have qb:S.base<=v.heap.size:=h.bs;obtain ⟨tp,tc,htv⟩:=own_form h.chg;have HO:Hid (v.ownsRow S.base 3 1 (.slice tp S.chg.length tc) S.chg.length (S.chg.map I)):=⟨by rw[<-htv];exact h.chg⟩
 have n1:(Value.slice tp S.chg.length tc).ownBlock≠some S.wb:=by rw[<-htv];exact λe=>by have:=h.apart 1 0 S.wb e rfl;omega
 have HT:Hid (S.cv=.slice tp S.chg.length tc):=⟨htv⟩
 rw[htv] at c3;obtain ⟨j0,hj,hj0,hj1,hj2⟩:=info_parts info3;have hne:S.wb≠v.heap.size:=by omega
 have hne':v.heap.size≠S.wb:=by omega
 have K3:Hid (v.cell? ⟨S.wb,3,none⟩=some (.slice tp S.chg.length tc)∧v.frozen? ⟨S.wb,3,none⟩=false):=⟨⟨c3,f3⟩⟩
 clear h htv;simp only[Tryd.ntmps103,Sz,Nat.reduceAdd,Nat.reduceSub,Sy]
 go_wp2_with (first
  |(refine wpList_append_lies _ rfl (.tmp 9) (.tmp 10) 22 rfl S.base 3 j0 _ 1 8 Tryd.underlying22 hj hj0 hj1 hj2 rfl (by decide) (.slice tp S.chg.length tc) S.chg.length (S.chg.map I) rfl (own_later (below_alloc (Below.refl _ _) _) HO.out) ⟨_,0,none⟩ 1 1 [I 0] rfl rfl (newsI _ _ _) (oneI _) (by decide) (by unfold maxLen;omega) (by omega) (by simp;omega) _ rfl ?_
    intro g cpg w6 hown6 hgrow6 hat6 hlt6;obtain ⟨k5,k6⟩:=keep2g ⟨kcell (below_alloc (Below.refl _ _) _) K3.out.1,by rw[(below_alloc (Below.refl _ _) _).frozen q3];exact K3.out.2⟩ hgrow6 n1))
 go_ret;exact ⟨_,rfl,rfl,celled_ev HR.out (by rw[HT.out];exact celled_of (below_alloc (Below.refl _ _) _) q3 hgrow6 hown6 hat6 n1)⟩
theorem mem_newcell {K:List (Nat×Int)}{v1 v3:World}{cv:Value}{x:Int}(hm:Mem z S K v) (he:Ev z S v (celledS S cv) v1) (hh:v3.heap=v1.heap.push (.cells #[I S.chg.length,I x] 158)) (ho:v3.os=v1.os) (hu:v3.output=v1.output):
 Mem z (celledS S cv) (K++[(v1.heap.size,x)]) v3∧Fr (Own S K) v v3∧∀ b,Own (celledS S cv) (K++[(v1.heap.size,x)]) b->Own S K b∨v.heap.size<=b:=by
 have hold:∀ b,b<v1.heap.size->v3.heap[b]? = v1.heap[b]?:=λb hb=>by rw[hh,Qg,if_neg (by omega)]
 have hs3:v3.heap.size=v1.heap.size+1:=by rw[hh];simp
 have hrep:Rep z (celledS S cv) v3:=he.rep.grows (by omega) hold;have hKl:K.length=S.chg.length:=hm.len.symm;have hget:∀ (j:Nat) (c:Nat×Int),(K++[(v1.heap.size,x)])[j]? = some c->(j<K.length∧K[j]? = some c)∨(j=K.length∧c=(v1.heap.size,x)):=λj c hj=>by
  rcases Nat.lt_trichotomy j K.length with h1|h1|h1;rw[Qn h1] at hj;exact .inl ⟨h1,hj⟩
  .subst h1
   rw[List.getElem?_append_right (Qi _)] at hj;simp at hj;exact .inr ⟨rfl,hj.symm⟩
  .rw[List.getElem?_append_right (by omega)] at hj
   have:j - K.length≠0:=by omega
   simp[this] at hj
 have hKlt:∀ (j:Nat) (c:Nat×Int),K[j]? = some c->c.1<v.heap.size:=λj c hc=>hm.lt (.inr ⟨j,c,hc,rfl⟩);have hits:∀ b,Its (celledS S cv) b->b<v1.heap.size:=λb ⟨k,hk⟩=>he.rep.lt hk;refine ⟨⟨hrep,λj c hj=>?_,λj c hj hi=>?_,λi j c d hi hj e=>?_,?_⟩,⟨ho.trans he.fr.os,hu.trans he.fr.output,by have:=he.fr.size;omega,λb hb hs=>?_⟩,λb hb=>?_⟩
 .rcases hget j c hj with ⟨h1,h2⟩|⟨rfl,rfl⟩
  .have hlt:=hKlt j c h2
   rw[hold c.1 (by have:=he.fr.size;omega),he.fr.block c.1 hlt (hm.far j c h2)];exact hm.cel j c h2
  .show v3.heap[v1.heap.size]? = _
   rw[hh,hKl];exact Qo
 .rcases hget j c hj with ⟨h1,h2⟩|⟨rfl,rfl⟩
  .rcases he.new _ hi with h3|h3
   exact hm.far j c h2 h3;have:=hKlt j c h2;omega
  .have h9:=hits _ hi
   exact Nat.lt_irrefl _ h9
 .rcases hget i c hi with ⟨h1,h2⟩|⟨rfl,rfl⟩<;>rcases hget j d hj with ⟨h3,h4⟩|⟨rfl,rfl⟩
  exact hm.inj i j c d h2 h4 e
  .have:=hKlt i c h2
   have:=he.fr.size;have e':c.1=v1.heap.size:=e;omega
  .have:=hKlt j d h4
   have:=he.fr.size;have e':v1.heap.size=d.1:=e;omega
  rfl
 .show (S.chg++[0]).length=(K++[_]).length
  simp[hKl]
 rw[hold b (by have:=he.fr.size;omega),he.fr.block b hb (λhi=>hs (.inl hi))]
 .rcases hb with hb|⟨j,c,hj,rfl⟩
  exact (he.new b hb).imp .inl id
  .rcases hget j c hj with ⟨h1,h2⟩|⟨rfl,rfl⟩
   exact .inl (.inr ⟨j,c,h2,rfl⟩);right;exact he.fr.size
theorem body10 {K:List (Nat×Int)}(hm:Mem z S K v) (x:Int) (hn:S.chg.length<=17592186043904):Body Tryd.f70 #[Pt S.wb 0,I x] v (λr v'=>∃ cb cv,r=Pt cb 0∧Mem z (celledS S cv) (K++[(cb,x)]) v'∧Fr (Own S K) v v'∧∀ b,Own (celledS S cv) (K++[(cb,x)]) b->Own S K b∨v.heap.size<=b):=by
 intro code hb;obtain rfl:=Qd hb;clear hb;have HM:Hid (Mem z S K v):=⟨hm⟩
 have h24:=(body24 hm.rep hn).calls Tryd.func103 rfl;have H24:Hid _:=⟨h24⟩
 clear hm h24;simp only[Tryd.ntmps70,Sz,Nat.reduceAdd,Nat.reduceSub,Sy]
 go_wp2_with (first
  |(go_at_call 103;refine H24.out.mono ?_;rintro e w1 ⟨r1,rfl,rfl,cv,hev⟩;have HEV:Hid (Ev z S v (celledS S cv) w1):=⟨hev⟩;clear hev)
  |(go_at_call 104
    have hb:(w1.alloc (.cells #[I S.chg.length,I 0] 158)).heap[w1.heap.size]? = some (.cells #[I S.chg.length,I 0] 158):=Qo;refine ((body25 w1.heap.size 0 x _ (by unfold World.cell?;rw[hb];rfl) (by unfold World.frozen?;rw[hb];rfl)).calls Tryd.func104 rfl).mono ?_;rintro e w2 ⟨r2,rfl,rfl,rfl⟩))
 go_ret;exact ⟨_,rfl,w1.heap.size,cv,rfl,mem_newcell HM.out HEV.out rfl rfl rfl⟩
theorem body32 (h:Rep z S v):Body Tryd.f92 #[Pt S.wb 0] v (λr v'=>r=.bool S.ran∧v'=v):=by
 intro code hb;obtain rfl:=Qd hb;clear hb;have c7:=h.wcell.2.2.2.2.2.2.2.1;clear h;simp only[Tryd.ntmps92,Sz,Nat.reduceAdd,Nat.reduceSub,Sy]
 go_wp2
 go_ret;exact ⟨_,rfl,rfl,rfl⟩
def checkE (n:Nat) (ran:Bool):Int:=if n=0∨8<n∨ran=true then 1 else 0
def checkS (n:Nat):Int:=if n=0∨8<n then 1 else 0
theorem body57 (p:Option Addr) (n cap:Nat) (hn:n<=17592186043904) (pc:Nat->Option Addr) (ln cp:Nat->Nat) (hs:∀ k,k<n->∃ sb so,p=some ⟨sb,so,none⟩∧v.cell? ⟨sb,so+k,none⟩=some (.slice (pc k) (ln k) (cp k))):
 Body Tryd.f91 #[.slice p n cap] v (λr v'=>v'=v∧(((∃ k,k<n∧64<ln k)∧r=I 2)∨((∀ k,k<n->ln k<=64)∧r=I (checkS n)))):=by
 intro code hb;obtain rfl:=Qd hb;clear hb;have HS:Hid (∀ k,k<n->∃ sb so,p=some ⟨sb,so,none⟩∧v.cell? ⟨sb,so+k,none⟩=some (.slice (pc k) (ln k) (cp k))):=⟨hs⟩
 clear hs;simp only[Tryd.ntmps91,Sz,Nat.reduceAdd,Nat.reduceSub,Sy];go_wp2_with fail
 go_loopw [7] (λi u=>u=v∧∃ k:Nat,k<=n∧i=.int .i64 k∧∀ j,j<k->ln j<=64) (λi _=>n - (intOf i).toNat)
 case atStart=>exact ⟨rfl,0,Nat.zero_le _,rfl,λj hj=>by omega⟩
 case round =>
  obtain ⟨rfl,k,hk,rfl,hL⟩:=hrel;have HL:Hid (∀ j,j<k->ln j<=64):=⟨hL⟩
  clear hL;by_cases hlt:k<n
  .obtain ⟨sb,so,rfl,hc⟩:=HS.out k hlt
   have hlt':(k:Int)<(n:Int):=by omega
   by_cases hb:(64:Int)<(ln k:Int)
   .go_wp2_with fail
    go_ret;exact ⟨_,rfl,rfl,.inl ⟨⟨k,hlt,by omega⟩,rfl⟩⟩
   .go_wp2_with fail
    go_roundw
    case rel =>
     refine ⟨trivial,k+1,by omega,by go_num,λj hj=>?_⟩;rcases Nat.lt_or_ge j k with h1|h1;exact HL.out j h1
     .have:j=k:=by omega
      subst this;omega
    case measure=>simp[intOf];omega
  .have hkk:k=n:=by omega
   subst hkk;have hb0:(I (k:Int):Value)=.int .i64 (k:Int):=rfl;by_cases e0:(k:Int)=0
   .go_wp2_with fail
    go_ret;exact ⟨_,rfl,rfl,.inr ⟨HL.out,by unfold checkS;rw[if_pos (.inl (by omega))];rfl⟩⟩
   .by_cases e8:(8:Int)<(k:Int)
    .go_wp2_with fail
     go_ret;exact ⟨_,rfl,rfl,.inr ⟨HL.out,by unfold checkS;rw[if_pos (.inr (by omega))];rfl⟩⟩
    .go_wp2_with fail
     go_ret;exact ⟨_,rfl,rfl,.inr ⟨HL.out,by unfold checkS;rw[if_neg (by omega)];rfl⟩⟩
theorem body19 (h:Rep z S v) (p:Option Addr) (n cap:Nat) (hn:n<=17592186043904) (pc:Nat->Option Addr) (ln cp:Nat->Nat) (hs:∀ k,k<n->∃ sb so,p=some ⟨sb,so,none⟩∧v.cell? ⟨sb,so+k,none⟩=some (.slice (pc k) (ln k) (cp k))):
 Body Tryd.f59 #[Pt S.wb 0,.slice p n cap] v (λr v'=>v'=v∧(((∃ k,k<n∧64<ln k)∧r=I 2)∨((∀ k,k<n->ln k<=64)∧r=I (checkE n S.ran)))):=by
 intro code hb;obtain rfl:=Qd hb;clear hb;have h57:=(body57 (v:=v) p n cap hn pc ln cp hs).calls Tryd.func91 rfl;have H57:Hid _:=⟨h57⟩
 have h32:=(body32 h).calls Tryd.func92 rfl;have H32:Hid _:=⟨h32⟩
 clear h hs h32 h57;simp only[Tryd.ntmps59,Sz,Nat.reduceAdd,Nat.reduceSub,Sy];go_wp2_with fail
 go_at_call 91
 refine H57.out.mono ?_;rintro e w1 ⟨r1,rfl,rfl,hq⟩;rcases hq with ⟨hq,rfl⟩|⟨hq,rfl⟩
 .have HQ:Hid _:=⟨hq⟩
  clear hq;go_wp2_with fail;go_ret;exact ⟨_,rfl,rfl,.inl ⟨HQ.out,rfl⟩⟩
 .have HQ:Hid _:=⟨hq⟩
  clear hq;by_cases hc:n=0∨8<n
  .have e1:checkS n=1:=by unfold checkS;rw[if_pos hc]
   rw[e1];go_wp2_with fail;go_ret;exact ⟨_,rfl,rfl,.inr ⟨HQ.out,by unfold checkE;rw[if_pos (by omega)];rfl⟩⟩
  .have e1:checkS n=0:=by unfold checkS;rw[if_neg hc]
   rw[e1]
   go_wp2_with (first
    |(go_at_call 92;refine H32.out.mono ?_;rintro e w1 ⟨r1,rfl,rfl,rfl⟩))
   .rename_i hq
    go_ret;refine ⟨_,rfl,rfl,.inr ⟨HQ.out,?_⟩⟩;unfold checkE;rw[if_pos (.inr (.inr hq))];rfl
   .rename_i hq
    go_ret;refine ⟨_,rfl,rfl,.inr ⟨HQ.out,?_⟩⟩;unfold checkE;rw[if_neg (by rintro (h1|h1|h1)<;>first|omega|(rw[hq] at h1;cases h1))];rfl
end Go.Proofs.YtfjjoohflcchnaaDoor
namespace Go.Proofs.YtfjjoohflcchnaaDoor.Gen
open Go Go.Lift Go.Conc Go.RowKit
variable {S:TS} {K:List (Nat×Int)} {u:World}
theorem a200_any (v:World) (wb n:Nat) (p:Option Addr) (cap:Nat) (fid:FuncId) (bn fr:Array Value):
 a200.wp Tryd.prog (λe a w'=>e=.normal∧a={ tmps:=#[Pt wb 0,.slice p n cap,.func (.func fid) bn fr,undef,undef,Pt v.heap.size 0,.slice none 0 0]++Array.replicate 32 undef,defers:=[] }∧w'.heap=v.heap.push (.cells #[.func (.func fid) bn fr] 101)∧w'.os=v.os∧w'.output=v.output)
  { tmps:=#[Pt wb 0,.slice p n cap,.func (.func fid) bn fr]++Array.replicate 36 undef,defers:=[] } v:=by
 show Code.wp Tryd.prog (seq1 (Tryd.f60.body.getD .skip)) _ _ _;unfold Tryd.f60 seq1;simp only[Qa,Sy];go_wp2_with fail;exact ⟨rfl,rfl,rfl⟩
structure Set20 (v:World) (fid:FuncId) (bn fr:Array Value) (n:Nat) (pc:Nat->Option Addr) (ln cp:Nat->Nat) (u:World):Prop where
 size:u.heap.size=v.heap.size+4+3*n
 p2:u.heap[v.heap.size]? = some (.cells #[.func (.func fid) bn fr] 101)
 rrow:u.rowIs (v.heap.size+1) 31 n (λj=>.slice (some ⟨v.heap.size+4+3*j+2,0,none⟩) (ln j) (ln j))
 p3:u.heap[v.heap.size+2]? = some (.cells #[.slice (some ⟨v.heap.size+1,0,none⟩) n n] 27)
 brow:u.rowIs (v.heap.size+3) 143 n (λj=>.func (.func 93) #[] #[Pt (v.heap.size+4+3*j+1) 0,Pt v.heap.size 0,Pt (v.heap.size+2) 0,Pt (v.heap.size+4+3*j) 0])
 blk:∀ j,j<n->u.heap[v.heap.size+4+3*j]? = some (.cells #[I j] 3)∧u.heap[v.heap.size+4+3*j+1]? = some (.cells #[.slice (pc j) (ln j) (cp j)] 33)∧u.heap[v.heap.size+4+3*j+2]? = some (.cells (madeCells #[I 0,I 0] (ln j*2)) 38)
 old:∀ b,b<v.heap.size->u.heap[b]? = v.heap[b]?
 os:u.os=v.os
 out:u.output=v.output
def R20:Code:=seq2 (seq2 (seq2 (seq2 B20)))
theorem eB20:B20=.seq a200 (.seq a201 (.seq a202 (.seq a203 R20))):=by kernel_rfl
theorem run20_in {Ch:Nat->Prop}{Stop:Goroutine->World->Prop}{main:Bool}{v w:World}(fid:FuncId) (bn fr:Array Value) (wb sb so n cap:Nat) (hn8:n<=8) (pc:Nat->Option Addr) (ln cp:Nat->Nat) (hln:∀ k,k<n->ln k<=64) (hs:∀ k,k<n->v.cell? ⟨sb,so+k,none⟩=some (.slice (pc k) (ln k) (cp k))) (cs:List Frame) {bc:Frame}{ac:Act}{ops:Array Oper}{q:Nat}{rest:List Nat}{oc:Oper}{k:List Item}(hoc:ops[q]? = some oc)
 (hsb:sb<v.heap.size) (hvw:Rel zn v w) (hn:NoRow Ch v)
 (hk:∀ v' w' (bd:Frame) (ad:Act) (od:Array Oper) (qd:Nat) (rd:List Nat) (oe:Oper) (kd:List Item),Rel zn v' w'->NoRow Ch v'->Set20 v fid bn fr n pc ln cp v'->od[qd]? = some oe ->
   (∀ (Ch:Nat->Prop) (Stop:Goroutine->World->Prop) (w:World) (x:Value),w.cell? ⟨v.heap.size+2,0,none⟩=some x->(∀ d,GoesI Tryd.prog main (DT (ScZ zn) Ch) Stop (G (bc.at (ac.put oc.dst x) (.inRegion ops rest :: k)) cs) (w.at d))->GoesI Tryd.prog main (DT (ScZ zn) Ch) Stop (G (bd.at (ad.put oe.dst (.tuple #[])) (.inRegion od rd :: kd)) (bc.at ac (.inRegion ops (q :: rest) :: k) :: cs)) w) ->
   GoesI Tryd.prog main (DT (ScZ zn) Ch) Stop (G ((base 95).at { tmps:=#[Pt wb 0,.slice (some ⟨v.heap.size+3,0,none⟩) n n]++Array.replicate 60 undef,defers:=[] } [.code B35]) (bd.at ad (.inRegion od (qd :: rd):: kd):: bc.at ac (.inRegion ops (q :: rest):: k):: cs)) w'):
 GoesI Tryd.prog main (DT (ScZ zn) Ch) Stop (G ((base 60).at { tmps:=#[Pt wb 0,.slice (some ⟨sb,so,none⟩) n cap,.func (.func fid) bn fr]++Array.replicate 36 undef,defers:=[] } [.code B20]) (bc.at ac (.inRegion ops (q :: rest) :: k) :: cs)) w:=by
 rw[eB20];refine goesI_seq (dt_idle _ _) ?_;refine goesI_plain (z:=zn) (wr:=true) (L:=LT) (I:=NoRow Ch) hE fineT noRow_keeps (λv v' w w' es hi hr ho he=>dt_of_z v v' w w' es hi hr ho he) hvw fine200 rfl (by simp[base]) hn
  (Q:=λa w'=>a={ tmps:=#[Pt wb 0,.slice (some ⟨sb,so,none⟩) n cap,.func (.func fid) bn fr,undef,undef,Pt v.heap.size 0,.slice none 0 0]++Array.replicate 32 undef,defers:=[] }∧w'.heap=v.heap.push (.cells #[.func (.func fid) bn fr] 101)∧w'.os=v.os∧w'.output=v.output) (λτ=>a200_any (onTape v τ 0) wb n (some ⟨sb,so,none⟩) cap fid bn fr) ?_
 rintro a1 v1 w1 ⟨rfl,e1,o1,u1⟩ hr1 hn1 -;have s1:v1.heap.size=v.heap.size+1:=by rw[e1];simp
 refine goesI_seq (dt_idle _ _) ?_;refine goesI_plain (z:=zn) (wr:=true) (L:=LT) (I:=NoRow Ch) hE fineT noRow_keeps (λv v' w w' es hi hr ho he=>dt_of_z v v' w w' es hi hr ho he) hr1 fine201 rfl (by simp[base]) hn1
  (Q:=λa w'=>a={ tmps:=#[Pt wb 0,.slice (some ⟨sb,so,none⟩) n cap,.func (.func fid) bn fr,undef,undef,Pt v.heap.size 0,.slice none 0 0,Pt (v1.heap.size+1) 0,undef,undef,undef,.slice (some ⟨sb,so,none⟩) n cap,I n,.slice (some ⟨v1.heap.size,0,none⟩) n n]++Array.replicate 25 undef,defers:=[] }∧w'.heap=(v1.heap.push (.cells (madeCells #[.slice none 0 0] n) 31)).push (.cells #[.slice (some ⟨v1.heap.size,0,none⟩) n n] 27)∧w'.os=v1.os∧w'.output=v1.output) (λτ=>a201_wp (onTape v1 τ 0) wb v.heap.size n (some ⟨sb,so,none⟩) cap _ hn8) ?_
 rintro a2 v2 w2 ⟨rfl,e2,o2,u2⟩ hr2 hn2 -;have s2:v2.heap.size=v.heap.size+3:=by rw[e2];simp;omega
 refine goesI_seq (dt_idle _ _) ?_;refine goesI_plain (z:=zn) (wr:=true) (L:=LT) (I:=NoRow Ch) hE fineT noRow_keeps (λv v' w w' es hi hr ho he=>dt_of_z v v' w w' es hi hr ho he) hr2 fine202 rfl (by simp[base]) hn2
  (Q:=λa w'=>a={ tmps:=#[Pt wb 0,.slice (some ⟨sb,so,none⟩) n cap,.func (.func fid) bn fr,undef,undef,Pt v.heap.size 0,.slice none 0 0,Pt (v1.heap.size+1) 0,.slice (some ⟨v2.heap.size,0,none⟩) n n,undef,undef,.slice (some ⟨sb,so,none⟩) n cap,I n,.slice (some ⟨v1.heap.size,0,none⟩) n n,.slice (some ⟨sb,so,none⟩) n cap,I n,.slice (some ⟨v2.heap.size,0,none⟩) n n]++Array.replicate 22 undef,defers:=[] }∧w'.heap=v2.heap.push (.cells (madeCells #[.nilFunc] n) 143)∧w'.os=v2.os∧w'.output=v2.output) (λτ=>a202_wp (onTape v2 τ 0) wb v.heap.size (v1.heap.size+1) v1.heap.size n (some ⟨sb,so,none⟩) cap _ hn8) ?_
 rintro a3 v3 w3 ⟨rfl,e3,o3,u3⟩ hr3 hn3 -;have s3:v3.heap.size=v.heap.size+4:=by rw[e3];simp;omega
 have k1:∀ b,b<v.heap.size->v1.heap[b]? = v.heap[b]?:=λb hb=>by rw[e1,Qg,if_neg (by omega)]
 have k2:∀ b,b<v.heap.size+1->v2.heap[b]? = v1.heap[b]?:=λb hb=>by rw[e2,Qg,if_neg (by simp;omega),Qg,if_neg (by omega)]
 have k3:∀ b,b<v.heap.size+3->v3.heap[b]? = v2.heap[b]?:=λb hb=>by rw[e3,Qg,if_neg (by omega)]
 have f0:v3.heap[v.heap.size]? = some (.cells #[.func (.func fid) bn fr] 101):=by rw[k3 _ (by omega),k2 _ (by omega),e1];exact Qo
 have f1:v3.heap[v.heap.size+1]? = some (.cells (madeCells #[.slice none 0 0] n) 31):=by rw[k3 _ (by omega),e2,Qg,if_neg (by simp;omega),Qg,if_pos (by omega)]
 have f2:v3.heap[v.heap.size+2]? = some (.cells #[.slice (some ⟨v.heap.size+1,0,none⟩) n n] 27):=by rw[k3 _ (by omega),e2,Qg,if_pos (by simp;omega),s1]
 have f3:v3.heap[v.heap.size+3]? = some (.cells (madeCells #[.nilFunc] n) 143):=by rw[e3,Qg,if_pos (by omega)]
 have ko:∀ b,b<v.heap.size->v3.heap[b]? = v.heap[b]?:=λb hb=>by rw[k3 b (by omega),k2 b (by omega),k1 b hb]
 refine goesI_seq (dt_idle _ _) ?_;rw[s1,s2];refine goesI_plain (z:=zn) (wr:=true) (L:=LT) (I:=NoRow Ch) hE fineT noRow_keeps (λv v' w w' es hi hr ho he=>dt_of_z v v' w w' es hi hr ho he) hr3 fine203 rfl (by simp[base]) hn3
  (Q:=λa w'=>(∃ u:Nat->Value,a={ tmps:=#[Pt wb 0,.slice (some ⟨sb,so,none⟩) n cap,.func (.func fid) bn fr,undef,undef,Pt v.heap.size 0,.slice none 0 0,Pt (v.heap.size+1+1) 0,.slice (some ⟨v.heap.size+3,0,none⟩) n n,u 9,u 10,u 11,u 12,u 13,u 14,u 15,u 16,u 17,u 18,u 19,u 20,u 21,u 22,u 23,u 24,u 25,u 26,u 27,u 28,u 29,u 30,u 31,u 32,u 33,u 34,u 35,u 36,u 37,u 38],defers:=[] })∧Laid v3 n v.heap.size (v.heap.size+1+1) (v.heap.size+1) (v.heap.size+3) pc ln cp n w') (λτ=>?_) ?_
 .refine wp_mono (a203_wp (onTape v3 τ 0) wb v.heap.size (v.heap.size+1+1) (v.heap.size+1) (v.heap.size+3) sb so n cap _ hn8 pc ln cp hln (λk hk=>?_) ?_ ?_ ?_ ⟨by omega,by omega,by omega,by omega,by omega⟩) (λe a w' hq=>⟨hq.1,hq.2.1,?_⟩)
  .show v3.cell? _=_
   rw[World.cell?_of_block (w:=v) (w':=v3) (ko sb hsb)];exact hs k hk
  exact ⟨_,f1,size_madeCells _ _,λi hi=>by simp[madeCells,hi,Nat.mod_one]⟩;exact ⟨_,f3,size_madeCells _ _,λi hi=>by simp[madeCells,hi,Nat.mod_one]⟩
  .show v3.cell? _=_
   unfold World.cell?;rw[show (⟨v.heap.size+1+1,0,none⟩:Addr).block=v.heap.size+2 from rfl,f2];rfl
  .have:=hq.2.2
   exact ⟨this.size,this.rrow,this.brow,this.blk,this.old,this.os,this.out⟩
 rintro a4 v4 w4 ⟨⟨u,rfl⟩,hL⟩ hr4 hn4 -;have hset:Set20 v fid bn fr n pc ln cp v4:=by refine ⟨by rw[hL.size,s3],by rw[hL.old _ (by omega) (by omega) (by omega)];exact f0,hL.rrow.congr λi hi=>by rw[if_pos hi,s3],by rw[hL.old _ (by omega) (by omega) (by omega)];exact f2,hL.brow.congr λi hi=>by rw[if_pos hi,s3],λj hj=>by have:=hL.blk j hj;rw[s3] at this;exact this,λb hb=>by rw[hL.old b (by omega) (by omega) (by omega)];exact ko b hb,by rw[hL.os,o3,o2,o1],by rw[hL.out,u3,u2,u1]⟩
 clear hL hr1 hr2 hr3 hn1 hn2 hn3 e1 e2 e3 o1 o2 o3 u1 u2 u3 k1 k2 k3 f0 f1 f2 f3 ko hvw hn hs hln s1 s2 s3;unfold R20 B20 Tryd.f60 seq2;simp only[Qa];refine goesI_seq (dt_idle _ _) ?_;refine goesI_region (dt_idle _ _) ?_;simp only[Sz,Sr,Nat.reduceAdd];iterate 2
  (refine goesI_oper rfl rfl (by decide) (λd K hK=>?_)
   go_simp;refine hK _ _ ⟨dt_reads (λe he=>?_),GoesI.at ?_ d⟩
   .have hm:=mem_listed he
    simp[go_sem, *] at hm
    try exact ⟨_,_,hm⟩
   clear hK K)
 refine goesI_into (f:=95) (fn:=Tryd.f95) (args:=#[Pt wb 0,.slice (some ⟨v.heap.size+3,0,none⟩) n n]) (dt_idle _ _) rfl rfl (by decide) rfl (by simp[Act.eval]) Tryd.func95 (by decide) rfl ?_;refine hk v4 w4 _ _ _ _ _ _ _ hr4 hn4 hset rfl (λCh Stop w x hx hg=>?_);clear hk hset hr4 hn4;refine goesI_regionEnd (dt_idle _ _) ?_;refine goesI_seq (dt_idle _ _) ?_;refine goesI_region (dt_idle _ _) ?_;simp only[Sz,Sr,Nat.reduceAdd];have hx':w.cell? ⟨v.heap.size+1+1,0,none⟩=some x:=hx;iterate 2
  (refine goesI_oper rfl rfl (by decide) (λd K hK=>?_)
   go_simp;refine hK _ _ ⟨dt_reads (λe he=>?_),GoesI.at ?_ d⟩
   .have hm:=mem_listed he
    simp[go_sem, *] at hm
    try exact ⟨_,_,hm⟩
   clear hK K)
 refine goesI_regionEnd (dt_idle _ _) ?_;refine GoesI.ctl rfl (λ_=>stepG_ret') (dt_idle _ _) ?_;refine goesI_leave (b:=base 60) (fn:=Tryd.f60) (v:=x) rfl rfl Tryd.func60 (λw=>?_) (λw=>by simp[results,go_sem,Tryd.f60]) hoc (dt_idle _ _) ?_
 .rw[results_tmp (t:=6) rfl]
  simp
 .have:=hg w.drawn
  exact this
variable {mc:Mc}{fid:FuncId}{P:Pkg mc fid}
structure Told (v:World) (S:TS) (K:List (Nat×Int)) (pk:Nat->Option Obj) (n:Nat) (pc:Nat->Option Addr) (ln cp rb:Nat->Nat) (cl:Nat->List Cl):Prop where
 hpk:Has pk v
 po:∀ b,pk b≠none->¬ Own S K b∧b≠S.bk
 row:∀ b o,pk b=some o->∃ c e f,o=.cells c e f
 len:∀ j,j<n->(cl j).length=ln j∧ln j<=64
 pq:∀ j,j<n->0<ln j->pc j=some ⟨rb j,roOf (pc j),none⟩∧¬ Own S K (rb j)
 call:∀ j,j<n->∀ (k:Nat) (c:Cl),(cl j)[k]? = some c->v.cell? ⟨rb j,roOf (pc j)+k*4,none⟩=some (I c.po)∧v.cell? ⟨rb j,roOf (pc j)+k*4+1,none⟩=some (I c.ca)∧v.cell? ⟨rb j,roOf (pc j)+k*4+2,none⟩=some (I c.cb)∧v.cell? ⟨rb j,roOf (pc j)+k*4+3,none⟩=some (I c.cc)
 ca:∀ j,j<n->∀ c∈cl j,-9223372036854775808<=c.ca∧c.ca<9223372036854775808
def allM (S:TS) (K:List (Nat×Int)) (u:World):Nat->Option Obj:=λb=>open Classical in if Own S K b∨b=S.bk then none else u.heap[b]?
theorem allM_at {b:Nat}(h1:¬ Own S K b) (h2:b≠S.bk):allM S K u b=u.heap[b]?:=by unfold allM;rw[if_neg (λh=>h.elim h1 h2)]
theorem allM_own {b:Nat}(h:allM S K u b≠none):¬ Own S K b∧b≠S.bk:=by constructor<;>intro e<;>apply h<;>unfold allM;rw[if_pos (.inl e)];rw[if_pos (.inr e)]
theorem allM_has :Has (allM S K u) u:=λb o h=>by have:=allM_own (b:=b) (by rw[h];simp);rw[allM_at this.1 this.2] at h;exact h
def scrOf (mc:Mc) (fid:FuncId) (caps:Array Value) (pk:Nat->Option Obj) (N n:Nat) (kb:List Nat) (pc:Nat->Option Addr) (ln cp rb:Nat->Nat) (cl:Nat->List Cl) (j:Nat):Scr mc :=
 { calls:=cl j,ans:=List.replicate (ln j) (0,0)
   X:=λh tb gc b0=>{ h:=h,i:=j,tb:=tb,gc:=gc,bb:=b0,calls:=cl j,pc:=pc j,rb:=if ln j=0 then b0 else rb j,cap:=cp j,asl:=.slice (some ⟨N+4+3*j+2,0,none⟩) (ln j) (ln j),ab:=if ln j=0 then b0 else N+4+3*j+2,cap2:=ln j,aty:=38,fid:=fid,caps:=caps,pk:=pk,kb:=kb }
   p1:=N+4+3*j+1,p2:=N,p3:=N+2,p4:=N+4+3*j,rr:=N+1,m:=n,cp:=n,ix:=j,csl:=.slice (pc j) (cl j).length (cp j),asl:=.slice (some ⟨N+4+3*j+2,0,none⟩) (ln j) (ln j),caps:=caps }
theorem made_arow (n:Nat):(.cells (madeCells #[I 0,I 0] (n*2)) 38:Obj)=.cells (arow (List.replicate n (0,0))).toArray 38 (0,0):=by
 have:madeCells #[I 0,I 0] (n*2)=(arow (List.replicate n (0,0))).toArray:=by
  apply Array.ext_getElem?;intro i;rw[show (arow (List.replicate n (0,0))).toArray[i]? = (arow (List.replicate n (0,0)))[i]? by simp];by_cases hi:i<n*2
  .have e1:(madeCells #[I 0,I 0] (n*2))[i]? = some (I 0):=by
    have:i % 2=0∨i % 2=1:=by omega
    rcases this with h|h<;>simp[madeCells,hi,h]
   rw[e1];have h2:i / 2<n:=by omega
   have h3:=arow_get (List.replicate n (0,0)) (i / 2) (0,0) (by simp[List.getElem?_replicate,h2]);have:i=i / 2*2∨i=i / 2*2+1:=by omega
   rcases this with h|h;rw[h];exact h3.1.symm;rw[h];exact h3.2.symm
  rw[Array.getElem?_eq_none (by simp[madeCells];omega),List.getElem?_eq_none (by rw[arow_len];simp;omega)]
 rw[this]
section
variable {v u:World}{S:TS}{K:List (Nat×Int)}{caps:Array Value}{pk:Nat->Option Obj}{n:Nat}{pc:Nat->Option Addr}{ln cp rb:Nat->Nat}{cl:Nat->List Cl}
def futOf (N n:Nat) (ln:Nat->Nat) (j b:Nat):Prop:=∃ i,j<=i∧i<n∧0<ln i∧b=N+4+3*i+2
theorem script_of (hmine:∀ X:Fix mc,X.fid=fid->X.caps=caps->X.pk=pk->X.kb=K.map (·.1)->P.Mine X) (hm:Mem zn S K v) (hb:Open v S.bk) (t:Told v S K pk n pc ln cp rb cl) (s:Set20 v fid (mc.bn caps) (mc.fr caps) n pc ln cp u) {j:Nat}(hj:j<n) {Mm:Nat->Option Obj}{Fut:Nat->Prop}(hM:∀ b,(∀ i,i<j->b≠v.heap.size+4+3*i+2)->Mm b=allM S K u b) (hF:∀ b,Fut b↔futOf v.heap.size n ln j b):
 Script P Mm Fut j (v.heap.size+3) (K.map (·.1)) (scrOf mc fid caps pk v.heap.size n (K.map (·.1)) pc ln cp rb cl j):=by
 have hbk:S.bk<v.heap.size:=by obtain ⟨c,m,h⟩:=hb;exact (Qb h).1
 have hOw:∀ b,v.heap.size<=b->¬ Own S K b∧b≠S.bk:=λb hb=>⟨λh=>by have:=hm.lt h;omega,by omega⟩
 have cbk:∀ (a:Addr) (x:Value),v.cell? a=some x->a.block≠S.bk:=λa x ha e=>by obtain ⟨c,m,h⟩:=hb;unfold World.cell? at ha;rw[e,h] at ha;cases ha
 have clt:∀ (a:Addr) (x:Value),v.cell? a=some x->a.block<v.heap.size:=λa x ha=>World.block_lt_of_cell? _ _ ha;have hnew:∀ b,v.heap.size<=b->(∀ i,i<j->b≠v.heap.size+4+3*i+2)->Mm b=u.heap[b]?:=λb h1 h2=>by rw[hM b h2,allM_at (hOw b h1).1 (hOw b h1).2]
 have hold:∀ (a:Addr) (x:Value),v.cell? a=some x->¬ Own S K a.block->Mm a.block=v.heap[a.block]?:=λa x ha ho=>by rw[hM a.block (λi _=>by have:=clt a x ha;omega),allM_at ho (cbk a x ha),s.old _ (clt a x ha)]
 have some_of:∀ (a:Addr) (x:Value),v.cell? a=some x->∃ o,v.heap[a.block]? = some o:=λa x ha=>⟨_,Qm (clt a x ha)⟩
 have holdc:∀ (w:World),Has Mm w->∀ (a:Addr) (x:Value),v.cell? a=some x->¬ Own S K a.block->w.cell? a=some x:=λw hw a x ha ho=>by obtain ⟨o,e⟩:=some_of a x ha;have:=hw a.block o (by rw[hold a x ha ho,e]);rw[World.cell?_of_block (w:=v) (w':=w) (by rw[this,e])];exact ha
 have newc:∀ (w:World),Has Mm w->∀ (a:Addr) (x:Value),v.heap.size<=a.block->(∀ i,i<j->a.block≠v.heap.size+4+3*i+2)->u.cell? a=some x->w.cell? a=some x:=λw hw a x h1 h2 ha=>by have hl:=World.block_lt_of_cell? _ _ ha;have e:u.heap[a.block]? = some u.heap[a.block]:=Qm hl;have:=hw a.block _ (by rw[hnew a.block h1 h2,e]);rw[World.cell?_of_block (w:=u) (w':=w) (by rw[this,e])];exact ha
 have pklt:∀ b,pk b≠none->b<v.heap.size:=λb hb=>by obtain ⟨o,ho⟩:=Option.ne_none_iff_exists'.1 hb;exact (Qb (t.hpk b o ho)).1
 have pknone:∀ b,v.heap.size<=b->pk b=none:=λb hb=>by
  cases h9:pk b with
  |none=>rfl
  |some o=>have:=pklt b (by rw[h9];simp);omega
 have pkM:∀ b,pk b≠none->Mm b=pk b:=λb hb=>by have hl:=pklt b hb;rw[hM b (λi _=>by omega),allM_at (t.po b hb).1 (t.po b hb).2,s.old b hl];obtain ⟨o,ho⟩:=Option.ne_none_iff_exists'.1 hb;rw[ho];exact t.hpk b o ho
 have hb3:=s.blk j hj;have hln:=t.len j hj;have c1:∀ {b:Nat} {x:Value} {ty:TypeId},u.heap[b]? = some (.cells #[x] ty)->u.cell? ⟨b,0,none⟩=some x:=λ{b x ty} h=>by unfold World.cell?;rw[h];rfl
 have hab:0<ln j->Mm (v.heap.size+4+3*j+2)≠none:=λ_=>by rw[hnew _ (by omega) (λi hi=>by omega),hb3.2.2];simp
 refine ⟨hj,λw hw=>⟨?_,?_,?_,?_,?_,?_⟩,λh tb gc b0 hh hb0=>⟨⟨hh,?_,t.ca j hj,λh0=>?_,λh0=>?_,λh0=>?_,λh0=>?_,t.row⟩,rfl,rfl,rfl,rfl,rfl,rfl,rfl,rfl,rfl,⟨rfl,rfl,hmine _ rfl rfl rfl rfl⟩,λw hw hbx=>⟨hbx,λk c hk=>?_,λh0=>?_,?_,λb o hb=>?_⟩,λb hp=>?_,λb hp hf=>?_,?_⟩⟩;exact newc w hw ⟨v.heap.size+3,j,none⟩ _ (by show _<=v.heap.size+3;omega) (λi hi=>by show v.heap.size+3≠_;omega) (s.brow.cell hj);exact newc w hw ⟨_,0,none⟩ _ (by show _<=v.heap.size+4+3*j+1;omega) (λi hi=>by show v.heap.size+4+3*j+1≠_;omega) (by show u.cell? ⟨v.heap.size+4+3*j+1,0,none⟩=some (.slice (pc j) (cl j).length (cp j));rw[hln.1];exact c1 hb3.2.1);exact newc w hw ⟨_,0,none⟩ _ (by show _<=v.heap.size;omega) (λi hi=>by show v.heap.size≠_;omega) (c1 s.p2);exact newc w hw ⟨_,0,none⟩ _ (by show _<=v.heap.size+2;omega) (λi hi=>by show v.heap.size+2≠_;omega) (c1 s.p3);exact newc w hw ⟨_,0,none⟩ _ (by show _<=v.heap.size+4+3*j;omega) (λi hi=>by show v.heap.size+4+3*j≠_;omega) (c1 hb3.1);exact newc w hw ⟨v.heap.size+1,j,none⟩ _ (by show _<=v.heap.size+1;omega) (λi hi=>by show v.heap.size+1≠_;omega) (s.rrow.cell hj)
 .show ((cl j).length:Int)<_
  rw[hln.1];omega
 .have h0':0<ln j:=by rw[<-hln.1];exact h0
  show pc j=some ⟨if ln j=0 then b0 else rb j,roOf (pc j),none⟩;rw[if_neg (by omega)];exact (t.pq j hj h0').1
 .have h0':0<ln j:=by rw[<-hln.1];exact h0
  show Value.slice (some ⟨v.heap.size+4+3*j+2,0,none⟩) (ln j) (ln j)=.slice (some ⟨if ln j=0 then b0 else v.heap.size+4+3*j+2,0,none⟩) (cl j).length (ln j);rw[if_neg (by omega),hln.1]
 .have h0':ln j=0:=by rw[<-hln.1];exact h0
  show (if ln j=0 then b0 else rb j)=b0∧(if ln j=0 then b0 else v.heap.size+4+3*j+2)=b0;rw[if_pos h0',if_pos h0'];exact ⟨rfl,rfl⟩
 .have h0':0<ln j:=by rw[<-hln.1];exact h0
  show (if ln j=0 then b0 else v.heap.size+4+3*j+2)≠b0∧(if ln j=0 then b0 else v.heap.size+4+3*j+2)≠(if ln j=0 then b0 else rb j)∧pk (if ln j=0 then b0 else v.heap.size+4+3*j+2)=none;rw[if_neg (by omega),if_neg (by omega)];obtain ⟨c,hc⟩:∃ c,(cl j)[0]? = some c:=⟨_,Qf h0⟩
  have hcl:=clt _ _ (t.call j hj 0 c hc).1;simp only at hcl;exact ⟨hb0 _ (hab h0'),by omega,pknone _ (by omega)⟩
 .have hk':(cl j)[k]? = some c:=hk
  have h0:0<ln j:=by have:=(Qc hk').1;omega
  have ho:=(t.pq j hj h0).2;have h4:=t.call j hj k c hk';show w.cell? ⟨if ln j=0 then b0 else rb j,_,none⟩=_∧w.cell? ⟨if ln j=0 then b0 else rb j,_,none⟩=_∧w.cell? ⟨if ln j=0 then b0 else rb j,_,none⟩=_∧w.cell? ⟨if ln j=0 then b0 else rb j,_,none⟩=_;rw[if_neg (by omega)];exact ⟨holdc w hw _ _ h4.1 ho,holdc w hw _ _ h4.2.1 ho,holdc w hw _ _ h4.2.2.1 ho,holdc w hw _ _ h4.2.2.2 ho⟩
 .have h0':0<ln j:=by rw[<-hln.1];exact h0
  show w.heap[if ln j=0 then b0 else v.heap.size+4+3*j+2]? = some (.cells (arow (List.replicate (ln j) (0,0))).toArray 38 (0,0));rw[if_neg (by omega),<-made_arow];exact hw _ _ (by rw[hnew _ (by omega) (λi hi=>by omega)];exact hb3.2.2)
 .show (List.replicate (ln j) ((0:Int),(0:Int))).length=(cl j).length
  rw[List.length_replicate,hln.1]
 exact hw b o (by rw[pkM b (by have hb':pk b=some o:=hb;rw[hb'];simp)];exact hb)
 .have mm:∀ (a:Addr) (x:Value),v.cell? a=some x->¬ Own S K a.block->Mm a.block≠none:=λa x ha ho=>by obtain ⟨o,e⟩:=some_of a x ha;rw[hold a x ha ho,e];simp
  by_cases h0:ln j=0
  .simp only[Fix.Pr,scrOf,if_pos h0] at hp
   rcases hp with h|h|h|h;exact .inl h;exact .inl h;exact .inl h;exact .inr (by rw[pkM b h];exact h)
  .simp only[Fix.Pr,scrOf,if_neg h0] at hp
   rcases hp with h|h|h|h;exact .inl h
   .subst h
    obtain ⟨c,hc⟩:∃ c,(cl j)[0]? = some c:=⟨_,Qf (by omega)⟩
    exact .inr (mm _ _ (t.call j hj 0 c hc).1 (t.pq j hj (by omega)).2)
   subst h;exact .inr (hab (by omega));exact .inr (by rw[pkM b h];exact h)
 .obtain ⟨i,h1,h2,h3,rfl⟩:=(hF b).1 hf
  have hn0:v.heap.size+4+3*i+2≠b0:=hb0 _ (by rw[hnew _ (by omega) (λi' hi'=>by omega),(s.blk i h2).2.2];simp)
  by_cases h0:ln j=0
  .simp only[Fix.Pr,scrOf,if_pos h0] at hp ⊢
   rcases hp with h|h|h|h<;>first|exact absurd h hn0|omega|exact absurd (pknone _ (by omega)) h
  .simp only[Fix.Pr,scrOf,if_neg h0] at hp ⊢
   obtain ⟨c,hc⟩:∃ c,(cl j)[0]? = some c:=⟨_,Qf (by omega)⟩
   have hcl:=clt _ _ (t.call j hj 0 c hc).1;simp only at hcl;rcases hp with h|h|h|h<;>first|exact absurd h hn0|omega|exact absurd (pknone _ (by omega)) h
 .show (if ln j=0 then b0 else v.heap.size+4+3*j+2)=b0∨Fut (if ln j=0 then b0 else v.heap.size+4+3*j+2)
  by_cases h0:ln j=0;rw[if_pos h0];exact .inl rfl;rw[if_neg h0];exact .inr ((hF _).2 ⟨j,Qi _,hj,by omega,rfl⟩)
theorem scripts_of (hmine:∀ X:Fix mc,X.fid=fid->X.caps=caps->X.pk=pk->X.kb=K.map (·.1)->P.Mine X) (hm:Mem zn S K v) (hb:Open v S.bk) (t:Told v S K pk n pc ln cp rb cl) (s:Set20 v fid (mc.bn caps) (mc.fr caps) n pc ln cp u):∀ (m j:Nat),j+m=n->∀ (Mm:Nat->Option Obj) (Fut:Nat->Prop),(∀ b,(∀ i,i<j->b≠v.heap.size+4+3*i+2)->Mm b=allM S K u b)->(∀ b,Fut b↔futOf v.heap.size n ln j b) ->
 Scripts P (v.heap.size+3) (K.map (·.1)) j Mm Fut ((List.range' j m).map (scrOf mc fid caps pk v.heap.size n (K.map (·.1)) pc ln cp rb cl))
 |0,j,hjm,Mm,Fut,hM,hF=>.nil
 |m+1,j,hjm,Mm,Fut,hM,hF=>by
  have hj:j<n:=by omega
  have hbk:S.bk<v.heap.size:=by obtain ⟨c,m,h⟩:=hb;exact (Qb h).1
  have hOw:∀ b,v.heap.size<=b->¬ Own S K b∧b≠S.bk:=λb hb=>⟨λh=>by have:=hm.lt h;omega,by omega⟩
  rw[List.range'_succ,List.map_cons];refine .cons (script_of hmine hm hb t s hj hM hF) (λh tb gc b0 hb0=>?_);refine scripts_of hmine hm hb t s m (j+1) (by omega) _ _ (λb hbi=>?_) (λb=>?_)
  .show (if b=(if ln j=0 then b0 else v.heap.size+4+3*j+2) then none else Mm b)=_
   by_cases h0:ln j=0
   .rw[if_pos h0]
    by_cases e:b=b0
    .rw[if_pos e,<-hM b (λi hi=>hbi i (by omega))]
     cases h9:Mm b with
     |none=>rfl
     |some o=>exact absurd e (hb0 b (by rw[h9];simp))
    .rw[if_neg e]
     exact hM b (λi hi=>hbi i (by omega))
   .rw[if_neg h0,if_neg (hbi j (by omega))]
    exact hM b (λi hi=>hbi i (by omega))
  .show Fut b∧b≠(if ln j=0 then b0 else v.heap.size+4+3*j+2)↔_
   rw[hF b];constructor
   .rintro ⟨⟨i,h1,h2,h3,rfl⟩,hne⟩
    refine ⟨i,?_,h2,h3,rfl⟩;rcases Nat.lt_or_ge j i with h4|h4;omega
    .have:i=j:=by omega
     subst this;rw[if_neg (by omega)] at hne;exact absurd rfl hne
   .rintro ⟨i,h1,h2,h3,rfl⟩
    refine ⟨⟨i,by omega,h2,h3,rfl⟩,?_⟩;by_cases h0:ln j=0
    .rw[if_pos h0]
     refine hb0 _ ?_;rw[hM _ (λi' hi'=>by omega),allM_at (hOw _ (by omega)).1 (hOw _ (by omega)).2,(s.blk i h2).2.2];simp
    rw[if_neg h0];omega
end
variable {mc:Mc}{fid:FuncId}{P:Pkg mc fid}
section
variable {S:TS}{K:List (Nat×Int)}{caps:Array Value}{pk:Nat->Option Obj}{n:Nat}{pc:Nat->Option Addr}{ln cp rb:Nat->Nat}{cl:Nat->List Cl}
abbrev scrs (mc:Mc) (fid:FuncId) (caps:Array Value) (pk:Nat->Option Obj) (N n:Nat) (K:List (Nat×Int)) (pc:Nat->Option Addr) (ln cp rb:Nat->Nat) (cl:Nat->List Cl):List (Scr mc):=(List.range' 0 n).map (scrOf mc fid caps pk N n (K.map (·.1)) pc ln cp rb cl)
structure Out20 (w:World) (S:TS) (K:List (Nat×Int)) (n:Nat) (ln:Nat->Nat) (S':TS) (K':List (Nat×Int)) (l:Nat->Ph) (w':World):Prop where
 mem:Mem zn S' K' w'
 size:w.heap.size<=w'.heap.size
 old:∀ b,b<w.heap.size->¬ Own S K b->b≠S.bk->w'.heap[b]? = w.heap[b]?∧¬ Own S' K' b
 rows:∀ j,j<n->w'.cell? ⟨w.heap.size+1,j,none⟩=some (.slice (some ⟨w.heap.size+4+3*j+2,0,none⟩) (ln j) (ln j))
 ans:∀ j,j<n->(l j).ans.length=ln j∧(0<ln j->w'.heap[w.heap.size+4+3*j+2]? = some (.cells (arow (l j).ans).toArray 38 (0,0)))∧∃ a,l j=.done a
 os:w'.os=w.os
 out:w'.output=w.output
theorem run20_all (P:Pkg mc fid) (hmine:∀ X:Fix mc,X.fid=fid->X.caps=caps->X.pk=pk->X.kb=K.map (·.1)->P.Mine X) (hkk:KOk mc K) {sb so cap:Nat}{cs:List Frame}{bc:Frame}{ac:Act}{ops:Array Oper}{q0:Nat}{rest:List Nat}{oc:Oper}{k0:List Item}(hoc:ops[q0]? = some oc) {w:World}{T:Trace}{gs:Array Goroutine}{q:Nat->Nat}(sl:Option (Nat×Nat)) (NT:Nat) (A:Alone gs w T q)
 (hg:gs[0]? = some (G ((base 60).at { tmps:=#[Pt S.wb 0,.slice (some ⟨sb,so,none⟩) n cap,.func (.func fid) (mc.bn caps) (mc.fr caps)]++Array.replicate 36 undef,defers:=[] } [.code B20]) (bc.at ac (.inRegion ops (q0 :: rest) :: k0) :: cs)))
 (hm:Mem zn S K w) (hthr:S.thr=[]) (hran:S.ran=false) (hbk:Open w S.bk) (t:Told w S K pk n pc ln cp rb cl) (hs:∀ k,k<n->w.cell? ⟨sb,so+k,none⟩=some (.slice (pc k) (ln k) (cp k))) (hsb:sb<w.heap.size) (hn8:n<=8)
 (hlen:S.n+2*lens (scrs mc fid caps pk w.heap.size n K pc ln cp rb cl)<=1000000) (hsl:S.sched.length<=4611686018427387904) (hsc:∀ x∈S.sched,-9223372036854775808<=x∧x<9223372036854775808) (l0:Nat->Ph)
 (hturn:∀ S1 l1,Hires mc 0 (scrs mc fid caps pk w.heap.size n K pc ln cp rb cl) (nv { S with ran:=true }) l0 S1 l1->∃ m p',m<=NT∧Turns mc m ⟨S1,K,l1⟩ p'∧p'.S.n*40<=140737488355328):
 ∃ (N':Nat) (gs':Array Goroutine) (w':World) (sl':Option (Nat×Nat)) (T':Trace) (q':Nat->Nat) (S':TS) (S1:TS) (l1:Nat->Ph) (m:Nat) (p':PSt),
   runNT Tryd.prog N' (crowd gs w sl) T=(.next (crowd gs' w' sl'),T')∧gs'.size=gs.size+n∧gs'[0]? = some (G (bc.at (ac.put oc.dst (.slice (some ⟨w.heap.size+1,0,none⟩) n n)) (.inRegion ops rest :: k0)) cs) ∧
   Alone gs' w' T' q'∧nv S'=p'.S∧Hires mc 0 (scrs mc fid caps pk w.heap.size n K pc ln cp rb cl) (nv { S with ran:=true }) l0 S1 l1∧Turns mc m ⟨S1,K,l1⟩ p'∧Out20 w S K n ln S' p'.K p'.l w':=by
 have hG:GoesI Tryd.prog true (DT (ScZ zn) (λ_=>False)) (λg w'=>∃ (bd:Frame) (ad:Act) (od:Array Oper) (qd:Nat) (rd:List Nat) (oe:Oper) (kd:List Item),Set20 w fid (mc.bn caps) (mc.fr caps) n pc ln cp w'∧od[qd]? = some oe ∧
  (∀ (Ch:Nat->Prop) (Stop:Goroutine->World->Prop) (w1:World) (x:Value),w1.cell? ⟨w.heap.size+2,0,none⟩=some x->(∀ d,GoesI Tryd.prog true (DT (ScZ zn) Ch) Stop (G (bc.at (ac.put oc.dst x) (.inRegion ops rest :: k0)) cs) (w1.at d))->GoesI Tryd.prog true (DT (ScZ zn) Ch) Stop (G (bd.at (ad.put oe.dst (.tuple #[])) (.inRegion od rd :: kd)) (bc.at ac (.inRegion ops (q0 :: rest) :: k0) :: cs)) w1) ∧
  g=G ((base 95).at { tmps:=#[Pt S.wb 0,.slice (some ⟨w.heap.size+3,0,none⟩) n n]++Array.replicate 60 undef,defers:=[] } [.code B35]) (bd.at ad (.inRegion od (qd :: rd) :: kd) :: bc.at ac (.inRegion ops (q0 :: rest) :: k0) :: cs)) (G ((base 60).at { tmps:=#[Pt S.wb 0,.slice (some ⟨sb,so,none⟩) n cap,.func (.func fid) (mc.bn caps) (mc.fr caps)]++Array.replicate 36 undef,defers:=[] } [.code B20]) (bc.at ac (.inRegion ops (q0 :: rest) :: k0) :: cs)) w:=by
  refine run20_in fid (mc.bn caps) (mc.fr caps) S.wb sb so n cap hn8 pc ln cp (λk hk=>(t.len k hk).2) hs cs hoc hsb (Rel.refl w) (λc hc=>hc.elim) (λv' w' bd ad od qd rd oe kd hr hn hset ho hback=>GoesI.stop λd=>⟨bd,ad,od,qd,rd,oe,kd,?_,ho,hback,rfl⟩);have e:(w'.at d).heap=v'.heap:=hr.eq;exact ⟨by rw[e];exact hset.size,by rw[e];exact hset.p2,hset.rrow.of_block (by rw[e]),by rw[e];exact hset.p3,hset.brow.of_block (by rw[e]),λj hj=>by rw[e];exact hset.blk j hj,λb hb=>by rw[e];exact hset.old b hb,hr.os.trans hset.os,hr.output.trans hset.out⟩
 obtain ⟨N1,gs1,a1,w1,sl1,T1,q1,r1,z1,h1,⟨bd,ad,od,qd,rd,oe,kd,hset,hoe,hback,rfl⟩,A1⟩:=alone_goes A hg sl hG;have hbkl:S.bk<w.heap.size:=by obtain ⟨c,m,h⟩:=hbk;exact (Qb h).1
 have hm1:Mem zn S K w1:=(hm.grows ⟨by rw[hset.size];omega,hset.old,hset.os,hset.out⟩).mem;have hbk1:Open w1 S.bk:=by obtain ⟨c,m,h⟩:=hbk;exact ⟨c,m,by rw[hset.old _ hbkl];exact h⟩
 obtain ⟨B1,hB1,hP1⟩:=A1.past;have sc:=scripts_of hmine hm hbk t hset n 0 (by omega) (allM S K w1) (futOf w.heap.size n ln 0) (λb _=>rfl) (λb=>Iff.rfl);obtain ⟨N2,gs2,w2,sl2,T2,q2,B2,S2,X2,Mm2,S1,l1,m,p',r2,z2,h2,hL2,hP2,hB2,hm2,hnv,hH,hT,hHas,hMo,hio,hXs,hPM,hMa,hMb⟩:=run35_all P hkk hoe (S:=S) (w:=w1) sl1 (Mm:=⟨allM S K w1,w1.os,w1.output⟩) (Fut:=futOf w.heap.size n ln 0) (ss:=scrs mc fid caps pk w.heap.size n K pc ln cp rb cl) NT A1.left hP1 hB1 h1 hm1 hthr hran hbk1 allM_has (λb hb=>(allM_own hb).1) (by
  show allM S K w1 S.bk=none;unfold allM;rw[if_pos (.inr rfl)]) ⟨rfl,rfl⟩ (λb ⟨i,_,hi,h0,e⟩=>by
  subst e;show allM S K w1 _≠none;rw[allM_at (λh=>by have:=hm.lt h;omega) (by omega),(hset.blk i hi).2.2];simp) sc (by simp) hn8 hlen hsl hsc l0 hturn
 have hXj:∀ j,j<n->∃ h tb gc b0,X2 j=(scrOf mc fid caps pk w.heap.size n (K.map (·.1)) pc ln cp rb cl j).X h tb gc b0:=λj hj=>by have:=hXs j (scrOf mc fid caps pk w.heap.size n (K.map (·.1)) pc ln cp rb cl j) (by simp[scrs,hj]);rw[Nat.zero_add] at this;exact this
 have hab:∀ j,j<n->0<ln j->(X2 j).ab=w.heap.size+4+3*j+2:=λj hj h0=>by obtain ⟨h,tb,gc,b0,e⟩:=hXj j hj;rw[e];show (if ln j=0 then b0 else _)=_;rw[if_neg (by omega)]
 have hkeep:∀ b o,allM S K w1 b=some o->(∀ j,j<n->b≠w.heap.size+4+3*j+2)->w2.heap[b]? = some o∧¬ Own S2 p'.K b:=λb o hb hne=>by
  have h9:Mm2.M b=some o:=by
   rcases hMb b o hb with h|⟨j,hj,h3,h4⟩
   exact h
   .exfalso
    by_cases h0:0<ln j;exact hne j hj (h3.trans (hab j hj h0))
    .obtain ⟨h,tb,gc,b0,e⟩:=hXj j hj
     rw[e] at h3 h4;apply h4;rw[h3];show (if ln j=0 then b0 else _)=b0;rw[if_pos (by omega)]
  exact ⟨hHas b o h9,hMo b (by rw[h9];simp)⟩
 have hnew:∀ b o,w.heap.size<=b->w1.heap[b]? = some o->(∀ j,j<n->b≠w.heap.size+4+3*j+2)->w2.heap[b]? = some o:=λb o hb h hne=>(hkeep b o (by rw[allM_at (λh=>by have:=hm.lt h;omega) (by omega)];exact h) hne).1;have c2:w2.cell? ⟨w.heap.size+2,0,none⟩=some (.slice (some ⟨w.heap.size+1,0,none⟩) n n):=by unfold World.cell?;rw[hnew _ _ (by show _<=w.heap.size+2;omega) hset.p3 (λj hj=>by show w.heap.size+2≠_;omega)];rfl
 have A2:Alone gs2 w2 T2 q2:=⟨hL2,B2,hB2,hP2⟩
 obtain ⟨N3,gs3,a3,w3,sl3,T3,q3,r3,z3,h3,⟨rfl,d3,rfl⟩,A3⟩:=alone_goes A2 h2 sl2 (hback (λ_=>False) (λg w'=>g=G (bc.at (ac.put oc.dst (.slice (some ⟨w.heap.size+1,0,none⟩) n n)) (.inRegion ops rest :: k0)) cs∧∃ d,w'=w2.at d) w2 _ c2 (λd=>GoesI.stop λd'=>⟨rfl,d',rfl⟩));refine ⟨N1+N2+N3,gs3,w2.at d3,sl3,T3,q3,S2,S1,l1,m,p',runNT_then (runNT_then r1 r2) r3,by omega,h3,A3,hnv,hH,hT,⟨?_,?_,λb hb ho hk=>?_,λj hj=>?_,λj hj=>?_,?_,?_⟩⟩;exact (hm2.grows (v':=w2.at d3) ⟨Qi _,λ_ _=>rfl,rfl,rfl⟩).mem
 .show w.heap.size<=w2.heap.size
  have:=(Qb (hnew _ _ (by omega:w.heap.size<=w.heap.size+2) hset.p3 (λj hj=>by omega))).1;omega
 .have e:w.heap[b]? = some w.heap[b]:=Qm hb
  have:=hkeep b _ (by rw[allM_at ho hk,hset.old b hb];exact e) (λj hj=>by omega);exact ⟨this.1.trans e.symm,this.2⟩
 .have hl:=hset.rrow.lt
  have e:w1.heap[w.heap.size+1]? = some w1.heap[w.heap.size+1]:=Qm hl;have h9:=hnew _ _ (by omega) e (λj hj=>by omega);show w2.cell? _=_;rw[World.cell?_of_block (w:=w1) (w':=w2) (by show w2.heap[w.heap.size+1]? = w1.heap[w.heap.size+1]?;rw[h9,e])];exact hset.rrow.cell hj
 .obtain ⟨hpm,hd⟩:=hPM j hj
  obtain ⟨h,tb,gc,b0,e⟩:=hXj j hj;have hc:(X2 j).calls.length=ln j:=by rw[e];exact (t.len j hj).1
  refine ⟨hpm.len.trans hc,λh0=>?_,hd⟩;have:=hpm.row (by rw[hc];exact h0);rw[hab j hj h0] at this;rw[e] at this;exact this
 exact hio.1.trans hset.os;exact hio.2.trans hset.out
end
end Go.Proofs.YtfjjoohflcchnaaDoor.Gen
namespace Go.Lift
open Go.Conc
section
variable {P:Program}{wr:Bool}
theorem calm_listForIn_mem {α σ:Type}{f:α->σ->Sem (ForInStep σ)}:∀ (l:List α) (s:σ),(∀ a∈l,∀ s,calm P wr (f a s))->calm P wr (forIn l s f)
 | [],s,_=>by rw[List.forIn_nil];exact calm_pure _
 |a :: l,s,h=>by
  rw[List.forIn_cons];refine calm_bind (h a (List.mem_cons_self ..) s) λx=>?_;cases x with
  |done b=>exact calm_pure _
  |yield b=>exact calm_listForIn_mem l b (λa' ha=>h a' (List.mem_cons_of_mem _ ha))
theorem calm_arrayForIn_mem {α σ:Type}{f:α->σ->Sem (ForInStep σ)}(l:Array α) (s:σ) (h:∀ a∈l,∀ s,calm P wr (f a s)):calm P wr (forIn l s f):=by rw[<-Array.forIn_toList];exact calm_listForIn_mem _ _ (λa ha=>h a (by simpa using ha))
theorem calm_equalIn_flat {t:TypeId}(ht:flatT P t=true) (d:Nat) (x y:Value):calm P wr (Op.equalIn (d+1) t x y):=by
 unfold Op.equalIn;refine calm_und λd hd=>?_;unfold flatT at ht;rw[hd] at ht;split
 all_goals first|(exfalso;revert ht;simp;done)|repeat' (first|with_reducible (first|exact calm_viewAt _|exact calm_numberAt _|exact calm_asNumber _ _|exact calm_behindNumber _|exact calm_noView _|exact calm_byteOf _|exact calm_partAt _ _ _|exact calm_fieldPlace _ _|exact calm_typeStr _|exact calm_alloc _|exact calm_box _ _|exact calm_build _ _|exact calm_buildSlice _ _ _|exact calm_loadAt _ _|exact calm_fieldAt _ _ _|exact calm_indexAt _ _ _|exact calm_sliceBound _ _ _|exact calm_sliceBounds _ _ _ _ _ _|exact calm_slice _ _ _ _ _|exact calm_sliceAt _ _ _ _ _|exact calm_makeChan _ _|exact calm_makeSlice _ _ _|exact calm_field _ _ _|exact calm_index _ _ _|exact calm_extract _ _|exact calm_len _ _ _|exact calm_cap _ _ _|exact calm_lenOf _|exact calm_firstCells _ _ _|exact calm_holdsCells _ _|exact calm_intArith _ _ _ _|exact calm_intDiv _ _ _ _|exact calm_intBits _ _ _ _|exact calm_intCmp _ _ _|exact calm_shift _ _ _ _ _|exact calm_stringOp _ _ _|exact calm_floatArith _ _ _ _|exact calm_floatCmp _ _ _ _|exact calm_twoPlaces _ _|exact calm_addrSub _ _ _|exact calm_addrCmp _ _ _|exact calm_addrMod _ _ _|exact calm_unsafeAdd _ _ _|exact calm_movedNumber _ _ _|exact calm_movedPointer _ _ _|exact calm_unary _ _|exact calm_floatToFloat _ _ _|exact calm_pure _|exact calm_stuck _|exact calm_unsupported _|exact calm_goPanic _|exact calm_runtimePanic _|exact calm_boundsPanic _ _ _ _|exact calm_program|exact calm_shape _|exact calm_getObj _|exact calm_newObj _|exact calm_choose _|exact calm_load _ _|exact calm_askRoom _|exact calm_typeInfo _|exact calm_underlying _|exact calm_zeroValue _|exact calm_sizeOf _|exact calm_isAgg _|exact calm_elemOf _|exact calm_newRow _ _|exact calm_newVar _ _|exact calm_asIntOf _|exact calm_asInt _|exact calm_asBool _|exact calm_asAgg _|exact calm_asAddr _|exact calm_sureAddr _|exact calm_loadCells _ _|exact calm_loadVar _ _|exact calm_part _ _ _|exact calm_markRoom|exact calm_markExtern _|(refine calm_arrayForIn (λ_ _=>?_) _ _)|(refine calm_rangeForIn (λ_ _=>?_) _ _)|apply calm_map|refine calm_bind ?_ (λ_=>?_))|split|dsimp only)
theorem calm_equal_struct {t:TypeId}{fields:Array Field}(ht:P.underlying t=some (.struct fields)) (hf:∀ f∈fields,flatT P f.type=true) (x y:Value):calm P wr (Op.equal t x y):=by
 show calm P wr (Op.equalIn (9998+1+1) t x y);unfold Op.equalIn;refine calm_und λd hd=>?_;rw[ht] at hd;cases hd;cases x<;>try exact calm_stuck _
 cases y<;>try exact calm_stuck _
 rename_i xs ys;simp only;refine calm_bind calm_program λp=>?_;split
 .refine calm_bind (calm_unsupported _) λ_=>?_
  refine calm_bind (calm_arrayForIn_mem _ _ λf hff s=>?_) λs=>?_
  .split
   .refine calm_bind (calm_part _ _ _) λa=>calm_bind (calm_part _ _ _) λb=>calm_bind (calm_equalIn_flat (hf f hff) 9998 a b) λc=>?_
    split<;>exact calm_pure _
   exact calm_pure _
  .split<;>exact calm_pure _
 .skip
  refine calm_bind (calm_arrayForIn_mem _ _ λf hff s=>?_) λs=>?_
  .split
   .refine calm_bind (calm_part _ _ _) λa=>calm_bind (calm_part _ _ _) λb=>calm_bind (calm_equalIn_flat (hf f hff) 9998 a b) λc=>?_
    split<;>exact calm_pure _
   exact calm_pure _
  .split<;>exact calm_pure _
end
end Go.Lift
