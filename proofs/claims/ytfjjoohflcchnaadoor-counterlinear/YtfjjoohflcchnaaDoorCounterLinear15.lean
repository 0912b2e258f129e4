/- CounterLinear, part 15 of 24: HMath, R3a, R3w, R3s, R3b. -/
import Derived.Test.YtfjjoohflcchnaaDoorCounterLinear01
import Derived.WalkKit
import Derived.Test.YtfjjoohflcchnaaDoorRows
import Derived.WalkSpells
import Derived.WalkLawsBesides
import Derived.Deep.QuietTactic
import Derived.BigQuiet
import Derived.Deep.MidRow
import Derived.Deep.OwnRows
import Derived.Laws.MakeOwn
import Derived.Maps.OwnSet
import Derived.DeepKeys4
import Derived.Deep.LoopGhost
import Derived.Deep.RegionHeld3
import Derived.Deep.AppendLies
import Derived.Lib.SliceRun
import Derived.Laws.CopyRow
import Derived.Laws.CopyOwn
set_option linter.unusedSimpArgs false
set_option linter.unusedVariables false
set_option maxHeartbeats 4000000
set_option maxRecDepth 100000
noncomputable section
namespace Go.Proofs.YtfjjoohflcchnaaDoor.His
open Go.RowKit
variable {σ:Type}
structure Ev where
 thr:Int
 op:Int
 a:Int
 b:Int
 beg:Int
 fin:Int
 code:Int
 val:Int
def ev0:Ev:=⟨0,0,0,0,0,0,0,0⟩
def Ev.over (x:Ev):Bool:=!(x.fin==-1)
def evAhead (x y:Ev):Bool:=x.over&&decide (x.fin<y.beg)
def Ev.ans (x:Ev):Int×Int:=(x.code,x.val)
theorem evAhead_over {x y:Ev}(h:evAhead x y=true):x.over=true:=by unfold evAhead at h;simp at h;exact h.1
theorem evAhead_lt {x y:Ev}(h:evAhead x y=true):x.fin<y.beg:=by unfold evAhead at h;simp at h;exact h.2
theorem over_iff {x:Ev}:x.over=true↔x.fin≠-1:=by unfold Ev.over;simp
def Timed (x:Ev):Prop:=0<=x.beg∧(x.fin=-1∨x.beg<x.fin)
def Two (x y:Ev):Prop:=x.thr=y.thr->evAhead x y=true∨evAhead y x=true
def Hist (l:List Ev):Prop:=∀ i,i<l.length->Timed (l.getD i ev0)∧∀ k,k<i->Two (l.getD i ev0) (l.getD k ev0)
theorem Hist.irr {l:List Ev}(h:Hist l) {i:Nat}(hi:i<l.length):evAhead (l.getD i ev0) (l.getD i ev0)=false:=by
 cases e:evAhead (l.getD i ev0) (l.getD i ev0) with
 |false=>rfl
 |true =>have h1:=evAhead_lt e;have h2:=over_iff.1 (evAhead_over e);have h3:=(h i hi).1;unfold Timed at h3;omega
abbrev Ways (σ:Type):=σ->Ev->List ((Int×Int)×σ)
def Acc {σ:Type}(ways:Ways σ):σ->List Ev->Prop
 |_,[]=>True
 |s,e :: r=>∃ o,o∈ways s e∧(e.over=true->o.1=e.ans)∧Acc ways o.2 r
def Lin (ways:Ways σ) (s:σ) (l:List Ev):Prop :=
 ∃ ord:List Nat,ord.Nodup∧(∀ i∈ord,i<l.length)∧(∀ i,i<l.length->(l.getD i ev0).over=true->i∈ord) ∧
   ord.Pairwise (λi j=>evAhead (l.getD j ev0) (l.getD i ev0)=false)∧Acc ways s (ord.map λi=>l.getD i ev0)
def Run {σ:Type}(ways:Ways σ) (l:List Ev):Nat->σ->List Nat->Prop
 |T,_,[]=>∀ i,i<l.length->(l.getD i ev0).over=true->T.testBit i=true
 |T,s,i :: r=>i<l.length∧T.testBit i=false∧(∀ k,k<l.length->evAhead (l.getD k ev0) (l.getD i ev0)=true->T.testBit k=true) ∧
   ∃ o,o∈ways s (l.getD i ev0)∧((l.getD i ev0).over=true->o.1=(l.getD i ev0).ans)∧Run ways l (T ||| 2 ^ i) o.2 r
def Goes (ways:Ways σ) (l:List Ev) (T:Nat) (s:σ):Prop:=∃ ord,Run ways l T s ord
theorem bit_or (T i j:Nat):(T ||| 2 ^ i).testBit j=(T.testBit j||decide (i=j)):=by rw[Nat.testBit_or,Nat.testBit_two_pow]
theorem goes_step {ways:Ways σ}{l:List Ev}{T:Nat}{s:σ}:Goes ways l T s ↔
 (∀ i,i<l.length->(l.getD i ev0).over=true->T.testBit i=true) ∨
 ∃ i,i<l.length∧T.testBit i=false∧(∀ k,k<l.length->evAhead (l.getD k ev0) (l.getD i ev0)=true->T.testBit k=true) ∧
   ∃ o,o∈ways s (l.getD i ev0)∧((l.getD i ev0).over=true->o.1=(l.getD i ev0).ans)∧Goes ways l (T ||| 2 ^ i) o.2:=by
 constructor
 .rintro ⟨ord,h⟩
  cases ord with
  |nil=>exact .inl h
  |cons i r =>obtain ⟨h1,h2,h3,o,h4,h5,h7⟩:=h;exact .inr ⟨i,h1,h2,h3,o,h4,h5,r,h7⟩
 .rintro (h|⟨i,h1,h2,h3,o,h4,h5,r,h7⟩)
  exact ⟨[],h⟩;exact ⟨i :: r,h1,h2,h3,o,h4,h5,h7⟩
theorem run_whole {σ:Type}{ways:Ways σ}{l:List Ev}:∀ (ord:List Nat) (T:Nat) (s:σ),Run ways l T s ord ->
 ord.Nodup∧(∀ i∈ord,i<l.length∧T.testBit i=false)∧(∀ i,i<l.length->(l.getD i ev0).over=true->T.testBit i=true∨i∈ord) ∧
 ord.Pairwise (λi j=>evAhead (l.getD j ev0) (l.getD i ev0)=false)∧Acc ways s (ord.map λi=>l.getD i ev0)
 | [],T,s,h=>⟨List.nodup_nil,by simp,λi hi ho=>.inl (h i hi ho),List.Pairwise.nil,trivial⟩
 |i :: r,T,s,h=>by
  obtain ⟨h1,h2,h3,o,h4,h5,h6⟩:=h;obtain ⟨g1,g2,g3,g4,g5⟩:=run_whole r _ _ h6;have hnot:∀ j∈r,T.testBit j=false∧i≠j:=λj hj=>by have:=(g2 j hj).2;rw[bit_or] at this;have:=Bool.or_eq_false_iff.1 this;exact ⟨this.1,of_decide_eq_false this.2⟩
  refine ⟨List.nodup_cons.2 ⟨λhm=>(hnot i hm).2 rfl,g1⟩,λj hj=>?_,λj hj ho=>?_,List.pairwise_cons.2 ⟨λj hj=>?_,g4⟩,o,h4,h5,g5⟩
  .rcases List.mem_cons.1 hj with rfl|hj
   exact ⟨h1,h2⟩;exact ⟨(g2 j hj).1,(hnot j hj).1⟩
  .rcases g3 j hj ho with h'|h'
   .rw[bit_or] at h'
    rcases Bool.or_eq_true _ _▸h' with h''|h'';exact .inl h'';exact .inr (by rw[<-of_decide_eq_true h''];simp)
   exact .inr (List.mem_cons_of_mem _ h')
  .cases e:evAhead (l.getD j ev0) (l.getD i ev0) with
   |false=>rfl
   |true =>have:=h3 j (g2 j hj).1 e;rw[(hnot j hj).1] at this;cases this
theorem whole_run {σ:Type}{ways:Ways σ}{l:List Ev}(hirr:∀ i,i<l.length->evAhead (l.getD i ev0) (l.getD i ev0)=false):∀ (ord:List Nat) (T:Nat) (s:σ),
 ord.Nodup->(∀ i∈ord,i<l.length∧T.testBit i=false)->(∀ i,i<l.length->(l.getD i ev0).over=true->T.testBit i=true∨i∈ord) ->
 ord.Pairwise (λi j=>evAhead (l.getD j ev0) (l.getD i ev0)=false)->Acc ways s (ord.map λi=>l.getD i ev0)->Run ways l T s ord
 | [],T,s,_,_,h,_,_=>λi hi ho=>(h i hi ho).resolve_right (by simp)
 |i :: r,T,s,h1,h2,h3,h4,h5=>by
  obtain ⟨n1,n2⟩:=List.nodup_cons.1 h1;obtain ⟨p1,p2⟩:=List.pairwise_cons.1 h4;obtain ⟨o,a1,a2,a3⟩:=h5;have hi:=h2 i (by simp);refine ⟨hi.1,hi.2,λk hk ha=>?_,o,a1,a2,whole_run hirr r _ _ n2 (λj hj=>⟨(h2 j (by simp[hj])).1,?_⟩) (λj hj ho=>?_) p2 a3⟩
  .rcases h3 k hk (evAhead_over ha) with h'|h'
   exact h'
   .rcases List.mem_cons.1 h' with rfl|h'
    rw[hirr k hk] at ha;cases ha;rw[p1 k h'] at ha;cases ha
  .rw[bit_or,(h2 j (by simp[hj])).2]
   have:i≠j:=λe=>n1 (e▸hj);simp[this]
  .rw[bit_or]
   rcases h3 j hj ho with h'|h';left;rw[h'];rfl
   .rcases List.mem_cons.1 h' with rfl|h'
    left;simp;exact .inr h'
theorem lin_iff {ways:Ways σ}{l:List Ev}(hh:Hist l) (s:σ):Lin ways s l↔Goes ways l 0 s:=by
 constructor
 .rintro ⟨ord,h1,h2,h3,h4,h5⟩
  exact ⟨ord,whole_run (λi hi=>hh.irr hi) ord 0 s h1 (λi hi=>⟨h2 i hi,by simp⟩) (λi hi ho=>.inr (h3 i hi ho)) h4 h5⟩
 .rintro ⟨ord,h⟩
  obtain ⟨h1,h2,h3,h4,h5⟩:=run_whole ord 0 s h;exact ⟨ord,h1,λi hi=>(h2 i hi).1,λi hi ho=>(h3 i hi ho).resolve_left (by simp),h4,h5⟩
def left (T:Nat):Nat->Nat
 |0=>0
 |n+1=>left T n+if T.testBit n=true then 0 else 1
theorem left_le (T n:Nat):left T n<=n:=by
 induction n with
 |zero=>exact Qi _
 |succ n ih=>unfold left;split<;>omega
theorem left_same {T i:Nat}:∀ {n:Nat},n<=i->left (T ||| 2 ^ i) n=left T n
 |0,_=>rfl
 |n+1,h=>by
  unfold left;rw[left_same (by omega),bit_or];have:i≠n:=by omega
  simp[this]
theorem left_or {T i:Nat}(h:T.testBit i=false):∀ {n:Nat},i<n->left (T ||| 2 ^ i) n+1=left T n
 |0,hi=>by omega
 |n+1,hi=>by
  unfold left;by_cases e:i=n
  .subst e
   rw[left_same (Qi _),bit_or,h];simp
  .have:=left_or h (n:=n) (by omega)
   rw[bit_or];simp[e];omega
def calls:Nat->Nat
 |0=>1
 |m+1=>1+12*(2*calls m)
end Go.Proofs.YtfjjoohflcchnaaDoor.His
namespace Go.Proofs.YtfjjoohflcchnaaDoor.R3
open Go.RowKit Go.Proofs.YtfjjoohflcchnaaDoor.His
abbrev I (n:Int):Value:=.int .i64 n
abbrev evC (e:Ev):Array Value:=#[I e.thr,I e.op,I e.a,I e.b,I e.beg,I e.fin,I e.code,I e.val]
abbrev evV (e:Ev):Value:=.agg (evC e)
theorem range_new (w:World) (cs:Array Value) (t:TypeId) (o:Nat) (l:List Value) (h:(cs.toList.drop o).take l.length=l) {b:Nat}(hb:b=w.heap.size):(w.alloc (.cells cs t)).rangeAt b o l:=by subst hb;intro j v hj;simp only[World.cell?,heap_alloc_new];have hl:j<l.length:=(Qc hj).1;rw[<-h,List.getElem?_take,if_pos hl,List.getElem?_drop] at hj;simpa using hj
def encI (s:Int):List Value:=[I s]
end Go.Proofs.YtfjjoohflcchnaaDoor.R3
namespace Go.Proofs.YtfjjoohflcchnaaDoor.R3
open Go.RowKit Go.Proofs.YtfjjoohflcchnaaDoor.His
variable {w:World} {b k:Nat} {l:List Ev} {x:Ev}
def Evs (w:World) (v:Value) (l:List Ev):Prop :=
 ∃ p cap,v=.slice p l.length cap∧l.length<=cap∧cap<=maxLen∧∀ i,i<l.length->∃ blk off,p=some ⟨blk,off,none⟩∧w.rangeAt blk (off+i*8) (evC (l.getD i ev0)).toList
theorem range_later {w':World}{n o:Nat}{cs:List Value}(hb:Below n w w') (h:w.rangeAt b o cs) (hn:b<n):w'.rangeAt b o cs:=λj v hj=>by rw[hb.cell (p:=⟨b,o+j,none⟩) hn];exact h j v hj
theorem range_lt {o:Nat}{c:Value}{cs:List Value}(h:w.rangeAt b o (c :: cs)):b<w.heap.size :=
 World.block_lt_of_cell? _ _ (h 0 c rfl)
theorem Evs.later {w':World}{v:Value}(hb:Below w.heap.size w w') (h:Evs w v l):Evs w' v l:=by obtain ⟨p,cap,rfl,h1,h2,h3⟩:=h;refine ⟨p,cap,rfl,h1,h2,λi hi=>?_⟩;obtain ⟨blk,off,e,hr⟩:=h3 i hi;exact ⟨blk,off,e,range_later hb hr (range_lt hr)⟩
theorem size33:(Tryd.prog.info? 81).map (·.size)=some 8:=by kernel_rfl
theorem wp_load33 {ops:Array Oper}{rest:List Oper}{op:Oper}{a:Act}{Q:Exit->Act->World->Prop}(x:Operand) (ho:op.op=.load 81 x) (hgd:op.guard=none)
 (b o:Nat) (hx:a.eval x=.pointer (some ⟨b,o,none⟩)) (e:Ev) (hc:w.rangeAt b o (evC e).toList)
 (h:wpList Tryd.prog ops Q rest (a.put op.dst (evV e)) w):wpList Tryd.prog ops Q (op :: rest) a w :=
 wpList_load_mid (P:=Tryd.prog) hgd 81 x ho b o hx _ _ hc Tryd.underlying81 rfl size33 h
theorem box8 (h:w.rangeAt b 0 (evC x).toList):w.cell? ⟨b,0,none⟩=some (I x.thr)∧w.cell? ⟨b,1,none⟩=some (I x.op)∧w.cell? ⟨b,2,none⟩=some (I x.a)∧w.cell? ⟨b,3,none⟩=some (I x.b) ∧
 w.cell? ⟨b,4,none⟩=some (I x.beg)∧w.cell? ⟨b,5,none⟩=some (I x.fin)∧w.cell? ⟨b,6,none⟩=some (I x.code)∧w.cell? ⟨b,7,none⟩=some (I x.val):=by
 refine ⟨?_,?_,?_,?_,?_,?_,?_,?_⟩;simpa using h 0 _ rfl;simpa using h 1 _ rfl;simpa using h 2 _ rfl;simpa using h 3 _ rfl;simpa using h 4 _ rfl;simpa using h 5 _ rfl;simpa using h 6 _ rfl;simpa using h 7 _ rfl
def RetB (e:Ending) (p:Prop):Prop:=∃ b,e=.returned (.bool b)∧(b=true↔p)
theorem retB_yes {e:Ending}{p:Prop}(he:e=.returned (.bool true)) (h:p):RetB e p:=⟨true,he,by simp[h]⟩
theorem retB_no {e:Ending}{p:Prop}(he:e=.returned (.bool false)) (h:¬ p):RetB e p:=⟨false,he,by simp[h]⟩
def Starts (ob st:Int):Prop:=ob=1∨ob=3∨(ob=2∧st=0)∨(ob=4∧0<=st)∨(ob=5∧1<=st∧st<=1000)
theorem below_step {a b c:World}(h:Below a.heap.size a b) (k:Below b.heap.size b c):Below a.heap.size a c:=h.trans (k.mono h.size)
theorem below_alloc {a b:World}(h:Below a.heap.size a b) (o:Obj):Below a.heap.size a (b.alloc o):=h.alloc h.size o
theorem hist_not (hk:k<l.length) (hx:l.getD k ev0=x) (h:¬ Timed x):¬ Hist l:=λhh=>h (hx▸(hh k hk).1)
theorem hist_not2 {j:Nat}(hk:k<l.length) (hj:j<k) {y:Ev}(hx:l.getD k ev0=x) (hy:l.getD j ev0=y) (ht:x.thr=y.thr) (h1:evAhead x y=false) (h2:evAhead y x=false):¬ Hist l:=λhh=>by have:=(hh k hk).2 j hj;rw[hx,hy] at this;rcases this ht with h|h;rw[h1] at h;cases h;rw[h2] at h;cases h
theorem upto_succ {p:Nat->Prop}(h:∀ i,i<k->p i) (hk:p k):∀ i,i<k+1->p i:=λi hi=>by by_cases e:i=k;subst e;exact hk;exact h i (by omega)
theorem bcell {W w1:World}(hb:Below W.heap.size W w1):(∀ b o,b<W.heap.size->w1.cell? ⟨b,o,none⟩=W.cell? ⟨b,o,none⟩)∧(∀ b o,b<W.heap.size->w1.frozen? ⟨b,o,none⟩=W.frozen? ⟨b,o,none⟩) :=
 ⟨λb o h=>hb.cell (p:=⟨b,o,none⟩) h,λb o h=>hb.frozen (p:=⟨b,o,none⟩) h⟩
end Go.Proofs.YtfjjoohflcchnaaDoor.R3
namespace Go.Proofs.YtfjjoohflcchnaaDoor.R3
open Go.RowKit Go.Proofs.YtfjjoohflcchnaaDoor.His Go.Deep
theorem of_nat64 {n:Nat}(h:n<2 ^ 64):(BitVec.ofInt 64 (n:Int)).toNat=n:=by rw[BitVec.ofInt_natCast,BitVec.toNat_ofNat,Nat.mod_eq_of_lt h]
theorem row_later {w w':World}{n b:Nat}{t:TypeId}{m:Nat}{f:Nat->Value}(hb:Below n w w') (h:w.rowIs b t m f) (hn:b<n):w'.rowIs b t m f:=h.of_block (hb.block b hn)
end Go.Proofs.YtfjjoohflcchnaaDoor.R3
namespace Go.Proofs.YtfjjoohflcchnaaDoor.R3
open Go.RowKit Go.Proofs.YtfjjoohflcchnaaDoor.His Go.Deep Go.Maps
variable {bm n:Nat} {a b w w':World} {v:Value} {K:TypeId} {Q:Value->Prop}
def Frm (bm:Nat) (w w':World):Prop:=w.grownBy w' (some bm)∧∃ es c,w.heap[bm]? = some (.map es c)
theorem Frm.ne (h:Frm bm w w') {a:Addr}(hc:w.cell? a=some v):a.block≠bm:=λe=>by obtain ⟨_,es,c,hm⟩:=h;unfold World.cell? at hc;rw[e,hm] at hc;simp at hc
theorem Frm.cell (h:Frm bm w w') {a:Addr}(hc:w.cell? a=some v):w'.cell? a=some v:=by have hlt:=World.block_lt_of_cell? _ _ hc;rw[World.cell?_of_block (w:=w) (h.1.block a.block hlt (λe=>h.ne hc (Qd e)))];exact hc
theorem Frm.range (h:Frm bm w w') {b o:Nat}{cs:List Value}(hc:w.rangeAt b o cs):w'.rangeAt b o cs:=λj v hj=>h.cell (hc j v hj)
theorem Frm.row (h:Frm bm w w') {b:Nat}{t:TypeId}{f:Nat->Value}(hr:w.rowIs b t n f):w'.rowIs b t n f:=by refine hr.of_block (h.1.block b hr.lt λe=>?_);obtain ⟨c,hc,_⟩:=hr;obtain ⟨_,es,k,hm⟩:=h;have:=Qd e;subst this;rw[hc] at hm;cases hm
theorem Frm.evs (h:Frm bm w w') {l:List Ev}(hE:Evs w v l):Evs w' v l:=by obtain ⟨p,cap,rfl,h1,h2,h3⟩:=hE;refine ⟨p,cap,rfl,h1,h2,λi hi=>?_⟩;obtain ⟨blk,off,e,hr⟩:=h3 i hi;exact ⟨blk,off,e,h.range hr⟩
theorem Frm.lt (h:Frm bm w w'):bm<w.heap.size:=by obtain ⟨_,es,c,hm⟩:=h;exact (Qb hm).1
theorem Frm.trans {c:World}(h:Frm bm a b) (k:Frm bm b c):Frm bm a c :=
 ⟨⟨k.1.os.trans h.1.os,k.1.tape.trans h.1.tape,k.1.output.trans h.1.output,Qk h.1.size k.1.size,λi hi hn=>(k.1.block i (Qp hi h.1.size) hn).trans (h.1.block i hi hn)⟩,h.2⟩
theorem Frm.below {c:World}(h:Frm bm a b) (k:Below b.heap.size b c):Frm bm a c :=
 ⟨⟨k.os.trans h.1.os,k.tape.trans h.1.tape,k.output.trans h.1.output,Qk h.1.size k.size,λi hi hn=>(k.block i (Qp hi h.1.size)).trans (h.1.block i hi hn)⟩,h.2⟩
theorem Frm.alloc (h:Frm bm a b) (o:Obj):Frm bm a (b.alloc o):=h.below (below_alloc (Below.refl _ _) o)
theorem Frm.drew (h:Frm bm a b):Frm bm a b.drew:=⟨⟨h.1.os,h.1.tape,h.1.output,h.1.size,h.1.block⟩,h.2⟩
theorem below_drewN {B:Nat}(h:Below B a w) (n:Nat):Below B a (w.drewN n):=h.trans ⟨rfl,rfl,rfl,Qi _,λ_ _=>rfl⟩
theorem Frm.drewN (h:Frm bm a b) (n:Nat):Frm bm a (b.drewN n):=h.below (below_drewN (Below.refl _ _) n)
theorem Frm.refl {es:Array MapEntry}{c:Nat}(h:w.heap[bm]? = some (.map es c)):Frm bm w w :=
 ⟨⟨rfl,rfl,rfl,Qi _,λ_ _ _=>rfl⟩,es,c,h⟩
def Vain (K:TypeId) (Q:Value->Prop) (w:World) (bm n:Nat):Prop :=
 ∃ D:DataW Unit,w.ownsMap Tryd.prog K unitElem bm n D∧∀ key kl,keyOf Tryd.prog K key=some kl->Maps.has D kl=true->Q key
theorem Vain.frm (h:Vain K Q w bm n):Frm bm w w:=by obtain ⟨D,⟨es,c,hb,_⟩,_⟩:=h;exact Frm.refl hb
theorem Vain.below (h:Vain K Q w bm n) (k:Below w.heap.size w w'):Vain K Q w' bm n:=by have hf:=h.frm;obtain ⟨D,⟨es,c,hb,r⟩,hQ⟩:=h;exact ⟨D,⟨es,c,(k.block bm hf.lt).trans hb,r⟩,hQ⟩
theorem Vain.alloc (h:Vain K Q w bm n) (o:Obj):Vain K Q (w.alloc o) bm n:=h.below (below_alloc (Below.refl _ _) o)
theorem Vain.drew (h:Vain K Q w bm n):Vain K Q w.drew bm n:=h
theorem Vain.drewN (h:Vain K Q w bm n) (q:Nat):Vain K Q (w.drewN q) bm n:=h.below (below_drewN (Below.refl _ _) q)
theorem Vain.mono {m:Nat}(h:Vain K Q w bm n) (hm:n<=m):Vain K Q w bm m:=by obtain ⟨D,hD,hQ⟩:=h;exact ⟨D,hD.mono hm,hQ⟩
end Go.Proofs.YtfjjoohflcchnaaDoor.R3
namespace Go.Proofs.YtfjjoohflcchnaaDoor.R3
open Go.RowKit Go.Proofs.YtfjjoohflcchnaaDoor.His Go.Deep Go.Maps
theorem one_old {w:World}{a:Addr}{c:Value}(h:w.cell? a=some c) (o:Obj):(w.alloc o).cell? a=some c:=by rw[World.cell?_alloc_lt (h:=World.block_lt_of_cell? _ _ h)];exact h
end Go.Proofs.YtfjjoohflcchnaaDoor.R3
namespace Go.Proofs.YtfjjoohflcchnaaDoor.R3
open Go.RowKit Go.Proofs.YtfjjoohflcchnaaDoor.His Go.Deep Go.Maps
variable {α:Type}
def SL (n:Nat) (enc:α->List Value) (w:World) (v:Value) (l:List α):Prop :=
 ∃ p cap,v=.slice p l.length cap∧l.length<=cap∧cap<=maxLen∧∀ i a,l[i]? = some a->∃ blk off,p=some ⟨blk,off,none⟩∧blk<w.heap.size∧w.rangeAt blk (off+i*n) (enc a)
def SS (n:Nat) (enc:α->List Value) (w:World) (v:Value) (ll:List (List α)):Prop :=
 ∃ p cap,v=.slice p ll.length cap∧ll.length<=cap∧cap<=maxLen∧∀ i l,ll[i]? = some l->∃ blk off vi,p=some ⟨blk,off,none⟩∧w.cell? ⟨blk,off+i,none⟩=some vi∧SL n enc w vi l
theorem SL.later {n:Nat}{enc:α->List Value}{w w':World}{v:Value}{l:List α}(hb:Below w.heap.size w w') (h:SL n enc w v l):SL n enc w' v l:=by obtain ⟨p,cap,rfl,h1,h2,h3⟩:=h;refine ⟨p,cap,rfl,h1,h2,λi a hi=>?_⟩;obtain ⟨blk,off,e,hlt,hr⟩:=h3 i a hi;exact ⟨blk,off,e,Qp hlt hb.size,range_later hb hr hlt⟩
theorem SS.later {n:Nat}{enc:α->List Value}{w w':World}{v:Value}{ll:List (List α)}(hb:Below w.heap.size w w') (h:SS n enc w v ll):SS n enc w' v ll:=by obtain ⟨p,cap,rfl,h1,h2,h3⟩:=h;refine ⟨p,cap,rfl,h1,h2,λi l hi=>?_⟩;obtain ⟨blk,off,vi,e,hc,hs⟩:=h3 i l hi;exact ⟨blk,off,vi,e,by rw[hb.cell (p:=⟨blk,off+i,none⟩) (World.block_lt_of_cell? _ _ hc)];exact hc,hs.later hb⟩
structure Call where
 op:Int
 a:Int
 b:Int
 c:Int
structure Step where
 thr:Int
 cel:Int
 op:Int
 old:Int
 new:Int
def callL (c:Call):List Value:=[I c.op,I c.a,I c.b,I c.c]
def ansL (a:Int×Int):List Value:=[I a.1,I a.2]
def stepL (s:Step):List Value:=[I s.thr,I s.cel,I s.op,I s.old,I s.new]
abbrev stepV (s:Step):Value:=.agg #[I s.thr,I s.cel,I s.op,I s.old,I s.new]
def Alike (sc:List (List Call)) (an:List (List (Int×Int))):Prop:=sc.length=an.length∧∀ i,i<sc.length->(sc.getD i []).length=(an.getD i []).length
theorem getD_some {l:List α}{i:Nat}(h:i<l.length) (d:α):l[i]? = some (l.getD i d):=by rw[Ql,Qf h];rfl
def begunEv (t k:Int) (c:Call):Ev:=⟨t,c.op,c.a,c.b,k,-1,4,0⟩
end Go.Proofs.YtfjjoohflcchnaaDoor.R3
namespace Go.Proofs.YtfjjoohflcchnaaDoor.R3
open Go.RowKit Go.Proofs.YtfjjoohflcchnaaDoor.His Go.Deep Go.Maps
variable {u u' w:World} {base n size:Nat} {e:TypeId} {v:Value} {xs:List Value}
structure St where
 evs:List Ev
 tab:Nat->Nat×Nat×Nat
def upd {α:Type}(tab:Nat->α) (t:Nat) (x:α):Nat->α:=λi=>if i=t then x else tab i
def call0:Call:=⟨0,0,0,0⟩
def st0:St:=⟨[],λ_=>(0,0,0)⟩
def beginOk (an:List (List (Int×Int))) (st:St) (t:Nat) (s:Step):Prop :=
 (st.tab t).1=(st.tab t).2.1∧(st.tab t).1<(an.getD t []).length∧s.old=(st.tab t).1∧s.new=0
def endOk (an:List (List (Int×Int))) (st:St) (t:Nat) (s:Step):Prop :=
 (st.tab t).2.1<(st.tab t).1∧s.old=(st.tab t).2.1∧s.new=((an.getD t []).getD (st.tab t).2.1 (0,0)).1
def beginSt (sc:List (List Call)) (st:St) (t k:Nat):St :=
 ⟨st.evs++[begunEv t k ((sc.getD t []).getD (st.tab t).1 call0)],upd st.tab t ((st.tab t).1+1,(st.tab t).2.1,st.evs.length)⟩
def ended (k:Nat) (a:Int×Int) (x:Ev):Ev:=⟨x.thr,x.op,x.a,x.b,x.beg,k,a.1,a.2⟩
def endSt (an:List (List (Int×Int))) (st:St) (t k:Nat):St :=
 ⟨if ((an.getD t []).getD (st.tab t).2.1 (0,0)).1=4 then st.evs else st.evs.set (st.tab t).2.2 (ended k ((an.getD t []).getD (st.tab t).2.1 (0,0)) (st.evs.getD (st.tab t).2.2 ev0)),
  upd st.tab t ((st.tab t).1,(st.tab t).2.1+1,(st.tab t).2.2)⟩
def Ofs (sc:List (List Call)) (an:List (List (Int×Int))):Nat->List Step->St->Option St->Prop
 |_,[],st,r=>r=some st
 |k,s :: l,st,r =>
  (s.op≠9∧s.op≠10∧Ofs sc an (k+1) l st r) ∨
  ((s.op=9∨s.op=10)∧(s.thr<0∨(sc.length:Int)<=s.thr)∧r=none) ∨
  (∃ t:Nat,s.thr=t∧t<sc.length∧s.op=9∧beginOk an st t s∧Ofs sc an (k+1) l (beginSt sc st t k) r) ∨
  (∃ t:Nat,s.thr=t∧t<sc.length∧s.op=10∧endOk an st t s∧Ofs sc an (k+1) l (endSt an st t k) r) ∨
  (∃ t:Nat,s.thr=t∧t<sc.length∧s.op=9∧¬ beginOk an st t s∧r=none) ∨
  (∃ t:Nat,s.thr=t∧t<sc.length∧s.op=10∧¬ endOk an st t s∧r=none)
def tabCell (tab:Nat->Nat×Nat×Nat) (j:Nat):Value :=
 if j % 3=0 then I (tab (j / 3)).1 else if j % 3=1 then I (tab (j / 3)).2.1 else I (tab (j / 3)).2.2
def evL (e:Ev):List Value:=(evC e).toList
structure OfInv (w0:World) (bt n:Nat) (an:List (List (Int×Int))) (lv:Value) (st:St) (u:World):Prop where
 own:u.ownsRow (bt+1) 81 8 lv st.evs.length (st.evs.flatMap evL)
 row:u.rowIs bt 22 (n*3) (tabCell st.tab)
 below:Below w0.heap.size w0 u
 ok:∀ t,t<n->(st.tab t).2.1<=(st.tab t).1∧(st.tab t).1<=(an.getD t []).length∧((st.tab t).2.1<(st.tab t).1->(st.tab t).2.2<st.evs.length)
theorem own_later {w':World}(hb:Below w.heap.size w w') (h:w.ownsRow base e size v n xs):w'.ownsRow base e size v n xs:=by
 refine ⟨h.1,?_⟩;rcases h.2 with h|⟨g,cap,cur,hv,hg,hh,r⟩
 exact .inl h;exact .inr ⟨g,cap,cur,hv,hg,(hb.block g (Qb hh).1).trans hh,r⟩
theorem OfInv.later {w0:World}{bt:Nat}{an:List (List (Int×Int))}{lv:Value}{st:St}(h:OfInv w0 bt n an lv st u) (hb:Below u.heap.size u u'):OfInv w0 bt n an lv st u' :=
 ⟨own_later hb h.own,row_later hb h.row h.row.lt,h.below.trans (hb.mono h.below.size),h.ok⟩
theorem tabCell1 (tab:Nat->Nat×Nat×Nat) (t:Nat):tabCell tab (t*3+1)=I (tab t).2.1:=by
 have h1:(t*3+1) % 3=1:=by omega
 have h2:(t*3+1) / 3=t:=by omega
 simp[tabCell,h1,h2]
theorem size45:(Tryd.prog.info? 60).map (·.size)=some 5:=by kernel_rfl
theorem wp_load45 {ops:Array Oper}{rest:List Oper}{op:Oper}{a:Act}{Q:Exit->Act->World->Prop}(x:Operand) (ho:op.op=.load 60 x) (hgd:op.guard=none)
 (b o:Nat) (hx:a.eval x=.pointer (some ⟨b,o,none⟩)) (s:Step) (hc:w.rangeAt b o (stepL s))
 (h:wpList Tryd.prog ops Q rest (a.put op.dst (stepV s)) w):wpList Tryd.prog ops Q (op :: rest) a w :=
 wpList_load_mid (P:=Tryd.prog) hgd 60 x ho b o hx _ _ hc Tryd.underlying60 rfl size45 h
def RetOf (e:Ending) (base:Nat) (w':World) (r:Option St):Prop :=
 (r=none∧e=.returned (.tuple #[.slice none 0 0,I 30]))∨∃ st v,r=some st∧e=.returned (.tuple #[v,I 0])∧w'.ownsRow base 81 8 v st.evs.length (st.evs.flatMap evL)
theorem kcell (hb:Below u.heap.size u u') {a:Addr}(h:u.cell? a=some v):u'.cell? a=some v:=by rw[hb.cell (World.block_lt_of_cell? _ _ h)];exact h
theorem keep7 {a1 a2 a3 a4 a5 a6 a7:Addr}{v1 v2 v3 v4 v5 v6 v7:Value}
 (h:u.cell? a1=some v1∧u.cell? a2=some v2∧u.cell? a3=some v3∧u.cell? a4=some v4∧u.cell? a5=some v5∧u.cell? a6=some v6∧u.cell? a7=some v7) (hb:Below u.heap.size u u'):
 u'.cell? a1=some v1∧u'.cell? a2=some v2∧u'.cell? a3=some v3∧u'.cell? a4=some v4∧u'.cell? a5=some v5∧u'.cell? a6=some v6∧u'.cell? a7=some v7:=by
 obtain ⟨h1,h2,h3,h4,h5,h6,h7⟩:=h;exact ⟨kcell hb h1,kcell hb h2,kcell hb h3,kcell hb h4,kcell hb h5,kcell hb h6,kcell hb h7⟩
theorem tab_set {bt:Nat}{tab:Nat->Nat×Nat×Nat}(h:w.rowIs bt 22 (n*3) (tabCell tab)) (j:Nat) (x:Nat) (tab':Nat->Nat×Nat×Nat)
 (h0:tabCell tab' j=I x) (h1:∀ i,i≠j->tabCell tab' i=tabCell tab i):(w.setCell ⟨bt,j,none⟩ (I x)).rowIs bt 22 (n*3) (tabCell tab') :=
 (h.set j (I x)).congr λi _=>by by_cases e:i=j;rw[if_pos e,e,h0];rw[if_neg e,h1 i e]
theorem tabCell_upd {tab:Nat->Nat×Nat×Nat}{t i:Nat}{x:Nat×Nat×Nat}(h:i / 3≠t):tabCell (upd tab t x) i=tabCell tab i:=by simp[tabCell,upd,h]
theorem own_block (h:w.ownsRow base e size v n xs):∀ g,v.ownBlock=some g->base<=g∧g<w.heap.size:=by
 intro g hg;rcases h.2 with ⟨rfl,_⟩|⟨g',cap,cur,rfl,hb,hh,_⟩
 cases hg
 .have:g'=g:=Qd hg
  subst this;exact ⟨hb,(Qb hh).1⟩
theorem own_set {cap g:Nat}(h:w.ownsRow base e size (.slice (some ⟨g,0,none⟩) n cap) n xs) (j:Nat) (hj:j<n*size) (x:Value):
 (w.setCell ⟨g,j,none⟩ x).ownsRow base e size (.slice (some ⟨g,0,none⟩) n cap) n (xs.set j x):=by
 refine ⟨by rw[List.length_set];exact h.1,.inr ?_⟩;rcases h.2 with ⟨h0,_⟩|⟨g',cap',cur,hv,hb,hh,h1,h2,h3,h4⟩
 cases h0
 .cases hv
  have hlt:n*size<=cap*size:=Nat.mul_le_mul_right _ h1;refine ⟨g,cap,cur.setIfInBounds j x,rfl,hb,?_,h1,h2,by simpa using h3,?_⟩;simp[World.setCell,Array.getElem?_modify,hh]
  .rw[<-h4]
   apply List.ext_getElem?;intro i;rw[Qq];by_cases hi:i<n*size
   .rw[List.getElem?_take_of_lt hi]
    simp only[Array.toList_setIfInBounds,Qq,List.length_take,Array.length_toList];by_cases e:j=i
    .subst e
     have h5:j<cur.size:=by omega
     have h6:j<min (n*size) cur.size:=by omega
     simp[h5,h6]
    simp[e,List.getElem?_take_of_lt hi]
   .have hne:j≠i:=by omega
    have hn1:(List.take (n*size) (cur.setIfInBounds j x).toList).length<=i:=by simp;omega
    have hn2:(List.take (n*size) cur.toList).length<=i:=by simp;omega
    rw[List.getElem?_eq_none hn1,if_neg hne,List.getElem?_eq_none hn2]
def MidE (w wo:World) (n:Nat) (lv:Value) (st:St) (t:Nat) (sold:Int) (W:World):Prop :=
 W.ownsRow (w.heap.size+1) 81 8 lv st.evs.length (st.evs.flatMap evL)∧W.rowIs w.heap.size 22 (n*3) (tabCell (upd st.tab t ((st.tab t).1,(st.tab t).2.1+1,(st.tab t).2.2)))∧Below w.heap.size w W ∧
 W.cell? ⟨wo.heap.size,0,none⟩=some (I t)∧W.cell? ⟨wo.heap.size,3,none⟩=some (I sold)∧wo.heap.size<W.heap.size
theorem mid_end {wo:World}{an:List (List (Int×Int))}{lv:Value}{st:St}(h:OfInv w w.heap.size n an lv st wo) (t:Nat) (x sold:Int) (c e:Value) (B:Obj) (hx:x=((st.tab t).2.1:Int)+1) (q:Nat):
 MidE w wo n lv st t sold ((((wo.setCell ⟨w.heap.size,t*3+1,none⟩ (I x)).alloc (.cells #[I t,c,I 10,I sold,e] 60)).alloc B).drewN q):=by
 subst hx;have r2:(wo.setCell ⟨w.heap.size,t*3+1,none⟩ (I (((st.tab t).2.1:Int)+1))).rowIs w.heap.size 22 (n*3) (tabCell (upd st.tab t ((st.tab t).1,(st.tab t).2.1+1,(st.tab t).2.2))):=by
  refine tab_set h.row (t*3+1) ((st.tab t).2.1+1) _ (by rw[tabCell1];simp[upd]) λi hi=>?_;by_cases e:i / 3=t
  .have:i % 3<3:=Nat.mod_lt _ (by omega)
   have:i % 3=0∨i % 3=2:=by omega
   rcases this with h|h<;>simp[tabCell,h,e,upd]
  exact tabCell_upd e
 have hs:(wo.setCell ⟨w.heap.size,t*3+1,none⟩ (I (((st.tab t).2.1:Int)+1))).heap.size=wo.heap.size:=by simp[World.setCell]
 have o2:(wo.setCell ⟨w.heap.size,t*3+1,none⟩ (I (((st.tab t).2.1:Int)+1))).ownsRow (w.heap.size+1) 81 8 lv st.evs.length (st.evs.flatMap evL):=ownsRow_setCell_below h.own (by simp) _;have b2:Below w.heap.size w (wo.setCell ⟨w.heap.size,t*3+1,none⟩ (I (((st.tab t).2.1:Int)+1))):=h.below.setCell (Qi _) _;generalize wo.setCell ⟨w.heap.size,t*3+1,none⟩ (I (((st.tab t).2.1:Int)+1))=u at hs o2 r2 b2;have hb:Below u.heap.size u (((u.alloc (.cells #[I t,c,I 10,I sold,e] 60)).alloc B).drewN q):=below_drewN (below_alloc (below_alloc (Below.refl _ _) _) _) _;have rg:(((u.alloc (.cells #[I t,c,I 10,I sold,e] 60)).alloc B).drewN q).rangeAt wo.heap.size 0 [I t,c,I 10,I sold,e]:=by refine range_later (below_drewN (below_alloc (Below.refl _ _) _) _) (range_new _ _ _ _ _ rfl hs.symm) ?_;simp;omega
 refine ⟨own_later hb o2,row_later hb r2 r2.lt,b2.trans (hb.mono b2.size),?_,?_,?_⟩;simpa using rg 0 _ rfl;simpa using rg 3 _ rfl
 .have:(((u.alloc (.cells #[I t,c,I 10,I sold,e] 60)).alloc B).drewN q).heap.size=u.heap.size+1+1:=by show ((u.alloc _).alloc _).heap.size=_;simp
  omega
theorem info33:(Tryd.prog.info? 81).map (λi=>(i.zero,i.size,i.bytes))=some (some (evV ev0),8,64):=by kernel_rfl
theorem news8 (w:World) (e:Ev) (t:TypeId):∀ j u,(evL e)[j]? = some u->(w.alloc (.cells (evC e) t)).cell? ((⟨w.heap.size,0,none⟩:Addr).add j)=some u:=by intro j u hj;rw[Addr.add_mid];exact range_new w (evC e) t 0 (evL e) rfl rfl j u hj
theorem one8 (e:Ev):∀ u∈evL e,u.oneCell'=true:=by intro u hu;simp[evL] at hu;rcases hu with rfl|rfl|rfl|rfl|rfl|rfl|rfl|rfl<;>rfl
end Go.Proofs.YtfjjoohflcchnaaDoor.R3
namespace Go.Proofs.YtfjjoohflcchnaaDoor.R3
open Go.RowKit Go.Proofs.YtfjjoohflcchnaaDoor.His Go.Deep Go.Maps
variable {t:Nat} {α:Type}
section
variable {sc:List (List Call)}{an:List (List (Int×Int))}{k:Nat}{s:Step}{l:List Step}{st:St}{r:Option St}
theorem ofs_skip (n9:s.op≠9) (n10:s.op≠10) (h:Ofs sc an k (s :: l) st r):Ofs sc an (k+1) l st r:=by
 rcases h with ⟨_,_,h⟩|⟨h,_⟩|⟨_,_,_,h,_⟩|⟨_,_,_,h,_⟩|⟨_,_,_,h,_⟩|⟨_,_,_,h,_⟩
 exact h;all_goals omega
theorem ofs_out (h9:s.op=9∨s.op=10) (ht:s.thr<0∨(sc.length:Int)<=s.thr) (h:Ofs sc an k (s :: l) st r):r=none:=by
 rcases h with ⟨h1,h2,_⟩|⟨_,_,h⟩|⟨t,h1,h2,_⟩|⟨t,h1,h2,_⟩|⟨t,h1,h2,_⟩|⟨t,h1,h2,_⟩
 omega;exact h;all_goals omega
theorem ofs_begin (h9:s.op=9) (ht:s.thr=t) (hl:t<sc.length) (ho:beginOk an st t s) (h:Ofs sc an k (s :: l) st r):Ofs sc an (k+1) l (beginSt sc st t k) r:=by
 rcases h with ⟨h1,h2,_⟩|⟨_,h,_⟩|⟨t',h1,h2,_,_,h⟩|⟨t',h1,h2,h3,_⟩|⟨t',h1,h2,_,h,_⟩|⟨t',h1,h2,h3,_⟩
 omega;omega
 .have:t'=t:=by omega
  subst this;exact h
 omega
 .have:t'=t:=by omega
  subst this;exact absurd ho h
 omega
theorem ofs_end (h9:s.op=10) (ht:s.thr=t) (hl:t<sc.length) (ho:endOk an st t s) (h:Ofs sc an k (s :: l) st r):Ofs sc an (k+1) l (endSt an st t k) r:=by
 rcases h with ⟨h1,h2,_⟩|⟨_,h,_⟩|⟨t',h1,h2,h3,_⟩|⟨t',h1,h2,_,_,h⟩|⟨t',h1,h2,h3,_⟩|⟨t',h1,h2,_,h,_⟩
 omega;omega;omega
 .have:t'=t:=by omega
  subst this;exact h
 omega
 .have:t'=t:=by omega
  subst this;exact absurd ho h
theorem ofs_nobegin (h9:s.op=9) (ht:s.thr=t) (hl:t<sc.length) (ho:¬ beginOk an st t s) (h:Ofs sc an k (s :: l) st r):r=none:=by
 rcases h with ⟨h1,h2,_⟩|⟨_,h,_⟩|⟨t',h1,h2,_,h,_⟩|⟨t',h1,h2,h3,_⟩|⟨t',h1,h2,_,_,h⟩|⟨t',h1,h2,h3,_⟩
 omega;omega
 .have:t'=t:=by omega
  subst this;exact absurd h ho
 omega;exact h;omega
theorem ofs_noend (h9:s.op=10) (ht:s.thr=t) (hl:t<sc.length) (ho:¬ endOk an st t s) (h:Ofs sc an k (s :: l) st r):r=none:=by
 rcases h with ⟨h1,h2,_⟩|⟨_,h,_⟩|⟨t',h1,h2,h3,_⟩|⟨t',h1,h2,_,h,_⟩|⟨t',h1,h2,h3,_⟩|⟨t',h1,h2,_,_,h⟩
 omega;omega;omega
 .have:t'=t:=by omega
  subst this;exact absurd h ho
 omega;exact h
end
def SLw (n:Nat) (enc:α->List Value) (w:World) (v:Value) (l:List α):Prop :=
 ∃ p cap,v=.slice p l.length cap∧l.length<=9223372036854775807∧maxLen<=maxLen∧∀ i a,l[i]? = some a->∃ blk off,p=some ⟨blk,off,none⟩∧blk<w.heap.size∧w.rangeAt blk (off+i*n) (enc a)
def SSw (n:Nat) (enc:α->List Value) (w:World) (v:Value) (ll:List (List α)):Prop :=
 ∃ p cap,v=.slice p ll.length cap∧ll.length<=9223372036854775807∧maxLen<=maxLen∧∀ i l,ll[i]? = some l->∃ blk off vi,p=some ⟨blk,off,none⟩∧w.cell? ⟨blk,off+i,none⟩=some vi∧SLw n enc w vi l
theorem SLw.later {n:Nat}{enc:α->List Value}{w w':World}{v:Value}{l:List α}(hb:Below w.heap.size w w') (h:SLw n enc w v l):SLw n enc w' v l:=by obtain ⟨p,cap,rfl,h1,h2,h3⟩:=h;refine ⟨p,cap,rfl,h1,h2,λi a hi=>?_⟩;obtain ⟨blk,off,e,hlt,hr⟩:=h3 i a hi;exact ⟨blk,off,e,Qp hlt hb.size,range_later hb hr hlt⟩
theorem SSw.later {n:Nat}{enc:α->List Value}{w w':World}{v:Value}{ll:List (List α)}(hb:Below w.heap.size w w') (h:SSw n enc w v ll):SSw n enc w' v ll:=by obtain ⟨p,cap,rfl,h1,h2,h3⟩:=h;refine ⟨p,cap,rfl,h1,h2,λi l hi=>?_⟩;obtain ⟨blk,off,vi,e,hc,hs⟩:=h3 i l hi;exact ⟨blk,off,vi,e,by rw[hb.cell (p:=⟨blk,off+i,none⟩) (World.block_lt_of_cell? _ _ hc)];exact hc,hs.later hb⟩
def sumL (sc:List (List Call)):Nat->Nat
 |0=>0
 |k+1=>sumL sc k+(sc.getD k []).length
theorem sumL_le {sc:List (List Call)}(h:∀ i,(sc.getD i []).length<=64):∀ k,sumL sc k<=64*k
 |0=>Qi _
 |k+1=>by have:=sumL_le h k;have:=h k;show sumL sc k+_<=_;omega
def OpIn (ops:Int) (c:Call):Prop:=1<=c.op∧c.op<=ops
end Go.Proofs.YtfjjoohflcchnaaDoor.R3
namespace Go.Proofs.YtfjjoohflcchnaaDoor.His
open Go.RowKit
def wayStack:Ways (List Int):=λs e =>if e.op=1 then [((0,0),s++[e.a]),((80,0),s)] else if e.op=2 then (match s.reverse with | []=>[((90,0),s)]|v :: _=>[((0,v),s.dropLast)]) else []
def actOf (e:Ev):Option (Int×Int) :=
 if e.op=1 then some (0,e.b) else if e.op=2 then some (70,e.b) else if e.op=3 then some (71,e.b) else if e.op=4 then some (70,72) else none
end Go.Proofs.YtfjjoohflcchnaaDoor.His
namespace Go.Proofs.YtfjjoohflcchnaaDoor.R3
open Go.RowKit Go.Proofs.YtfjjoohflcchnaaDoor.His Go.Deep Go.Maps Go.BigFrame
section
variable {P:Program}{ops:Array Oper}{rest:List Oper}{op:Oper}{a:Act}{w w':World}{Q:Exit->Act->World->Prop}
end
end Go.Proofs.YtfjjoohflcchnaaDoor.R3
namespace Go.Proofs.YtfjjoohflcchnaaDoor.R3
open Go.RowKit Go.Proofs.YtfjjoohflcchnaaDoor.His Go.Deep Go.Maps
section
variable {ops:Array Oper}{rest:List Oper}{op:Oper}{a:Act}{w:World}{Q:Exit->Act->World->Prop}
end
end Go.Proofs.YtfjjoohflcchnaaDoor.R3
namespace Go.Proofs.YtfjjoohflcchnaaDoor.R3
open Go.RowKit Go.Proofs.YtfjjoohflcchnaaDoor.His Go.Deep Go.Maps
section
variable {ops:Array Oper}{rest:List Oper}{op:Oper}{a:Act}{w:World}{Q:Exit->Act->World->Prop}
end
end Go.Proofs.YtfjjoohflcchnaaDoor.R3
namespace Go.Proofs.YtfjjoohflcchnaaDoor.R3
open Go.RowKit Go.Proofs.YtfjjoohflcchnaaDoor.His Go.Deep Go.Maps
theorem below_drew {B:Nat}{a w:World}(h:Below B a w):Below B a w.drew:=⟨h.os,h.tape,h.output,h.size,h.block⟩
end Go.Proofs.YtfjjoohflcchnaaDoor.R3
namespace Go.Proofs.YtfjjoohflcchnaaDoor.His
open Go.RowKit
def wayThree (n:Int):Ways (List Int):=λs e =>
 match actOf e with
 |none=>[]
 |some g =>
  if s.getD (3*(e.a % n).toNat) 0=1 then [((s.getD (3*(e.a % n).toNat+1) 0,s.getD (3*(e.a % n).toNat+2) 0),s)]
  else [(g,((s.set (3*(e.a % n).toNat) 1).set (3*(e.a % n).toNat+1) g.1).set (3*(e.a % n).toNat+2) g.2)]
def refWays (obj n:Int):Ways (List Int):=λs e =>
 if obj=1 then
  (if e.op=1 then [((0,s.headD 0),[wrap64 (s.headD 0+e.a)])] else if e.op=2 then [((0,s.headD 0),[wrap64 (s.headD 0+e.a)]),((0,-1),s)] else [])
 else if obj=2 then wayStack s e
 else if obj=3 then
  (if e.op=1 then [((0,0),[wrap64 (s.headD 0+e.a.tmod 1000)])] else if e.op=2 then [((0,s.headD 0),s)] else [])
 else if obj=4 then
  (if e.op=1 then (if s.headD 0 > 0 then [((0,0),[wrap64 (s.headD 0 - 1)])] else [((50,0),s)]) else if e.op=2 then (if s.headD 0=0 then [((0,0),s)] else []) else [])
 else wayThree n s e
def firstOf (obj n:Int):List Int:=if obj=2 then [] else if obj=5 then List.replicate (3*n.toNat) 0 else [n]
end Go.Proofs.YtfjjoohflcchnaaDoor.His
namespace Go.Proofs.YtfjjoohflcchnaaDoor.R3
open Go.RowKit Go.Proofs.YtfjjoohflcchnaaDoor.His Go.Deep Go.Maps
section
variable {ops:Array Oper}{o:Oper}{a:Act}{w:World}{K:Act->World->Prop}{Q:Exit->Act->World->Prop}{E:Prop}
end
theorem kcell' {B:Nat}{u u':World}(hb:Below B u u') {b o:Nat}(hn:b<B) {v:Value}(h:u.cell? ⟨b,o,none⟩=some v):u'.cell? ⟨b,o,none⟩=some v:=by rw[hb.cell (p:=⟨b,o,none⟩) hn];exact h
end Go.Proofs.YtfjjoohflcchnaaDoor.R3
namespace Go.Proofs.YtfjjoohflcchnaaDoor.R3
open Go.RowKit Go.Proofs.YtfjjoohflcchnaaDoor.His Go.Deep Go.Maps
def LinOut (ob st:Int) (l:List Ev) (b:Bool) (c:Int):Prop :=
 (¬ Starts ob st∧b=false∧c=1)∨(Starts ob st∧12<l.length∧b=false∧c=3)∨(Starts ob st∧l.length<=12∧¬ Hist l∧b=false∧c=30) ∨
   (Starts ob st∧l.length<=12∧Hist l∧c=0∧(b=true↔Lin (refWays ob st) (firstOf ob st) l))
end Go.Proofs.YtfjjoohflcchnaaDoor.R3
namespace Go.Proofs.YtfjjoohflcchnaaDoor.R3
open Go.RowKit Go.Proofs.YtfjjoohflcchnaaDoor.His Go.Deep Go.Maps
theorem beg_fin {w:World}{b o:Nat}{x:Ev}(h:w.rangeAt b o (evC x).toList):w.cell? ⟨b,o+4,none⟩=some (I x.beg)∧w.cell? ⟨b,o+5,none⟩=some (I x.fin):=⟨h 4 _ rfl,h 5 _ rfl⟩
end Go.Proofs.YtfjjoohflcchnaaDoor.R3
namespace Go.Proofs.YtfjjoohflcchnaaDoor.R3
open Go.RowKit Go.Proofs.YtfjjoohflcchnaaDoor.His Go.Deep Go.Maps
theorem grown_pre {W X w6:World}{row:Option Nat}(hb:Below W.heap.size W X) (hg:X.grownBy w6 row):W.grownBy w6 row :=
 ⟨hg.os.trans hb.os,hg.tape.trans hb.tape,hg.output.trans hb.output,Qk hb.size hg.size,λk hk hn=>(hg.block k (Qp hk hb.size) hn).trans (hb.block k hk)⟩
end Go.Proofs.YtfjjoohflcchnaaDoor.R3
namespace Go.Proofs.YtfjjoohflcchnaaDoor.R3
open Go.RowKit Go.Proofs.YtfjjoohflcchnaaDoor.His Go.Deep Go.Maps Go.BigFrame
section
variable {ops:Array Oper}{rest:List Oper}{op:Oper}{a:Act}{w:World}{Q:Exit->Act->World->Prop}
end
end Go.Proofs.YtfjjoohflcchnaaDoor.R3
