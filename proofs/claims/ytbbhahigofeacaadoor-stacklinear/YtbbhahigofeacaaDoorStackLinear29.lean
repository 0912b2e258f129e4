/- StackLinear, part 29 of 32: GAe, StL5, GPts, StAw1, GFree, GFree2, StF, StF2. -/
import Derived.Test.YtbbhahigofeacaaDoorStackLinear01
import Derived.Test.YtbbhahigofeacaaDoorStackLinear04
import Derived.Test.YtbbhahigofeacaaDoorStackLinear08
import Derived.Test.YtbbhahigofeacaaDoorStackLinear09
import Derived.Test.YtbbhahigofeacaaDoorStackLinear10
import Derived.Test.YtbbhahigofeacaaDoorStackLinear23
import Derived.Test.YtbbhahigofeacaaDoorStackLinear24
import Derived.Test.YtbbhahigofeacaaDoorStackLinear25
import Derived.Test.YtbbhahigofeacaaDoorStackLinear26
import Derived.Test.YtbbhahigofeacaaDoorStackLinear27
import Derived.KernelRfl
set_option linter.unusedSimpArgs false
set_option linter.unusedVariables false
set_option maxHeartbeats 4000000
set_option maxRecDepth 100000
noncomputable section
namespace Go.Proofs.YtbbhahigofeacaaDoor.Gen
open Go Go.Lift Go.Conc Go.RowKit
theorem alone_ends {gs:Array Goroutine}{w:World}{T:Trace}{q:Nat->Nat}(A:Alone gs w T q) {a:Goroutine}(hg:gs[0]? = some a) (sl:Option (Nat×Nat)) {Post:Value->World->Prop}(hE:∀ B,∀ d,AtEnd Tryd.prog (λ_=>False) B Post a (w.at d)):
 ∃ N last o w' t',runNT Tryd.prog (N+1) (crowd gs w sl) T=(.ended o w',t')∧runN Tryd.prog N (crowd gs w sl)=.next last∧step Tryd.prog last=.ended o w'∧Go.Conc.Good Tryd.prog Post last o w' t':=by
 obtain ⟨B,hB,hP⟩:=A.past;refine beside_ends (D:=λ_ _ es=>es=#[]) (Shun:=λ_=>False) (B:=B) (n:=0) (λ_ _ es h e he=>by subst h;simp at he) hg A.left hP ?_;rintro w1 ⟨d,rfl⟩;exact hE B d
end Go.Proofs.YtbbhahigofeacaaDoor.Gen
namespace Go.Proofs.YtbbhahigofeacaaDoor.Gen
open Go Go.Lift Go.Conc Go.RowKit
open R1 (fstI verI hdI)
open Go.Proofs.YtbbhahigofeacaaDoor.His
open Go.ConcN (upd upd_same upd_ne)
theorem hi_j {n:Nat}(C:Nat->Int) (sc:Nat->List Cl) {k:Nat}{cs:List (List Cl)}{v v':Vw}(h:Hi (mcT n) k cs v v'):(∀ m c,cs[m]? = some c->sc (k+m)=c) ->
 (∀ i,i<k->SeatC n C (sc i) (v.l i)∧flP n C (v.l i)=[]∧(Ix (v.l i)=none∨∃ q',Ix (v.l i)=some q'∧(q'.1=1∨q'.1=11))) ->
 ∀ i,i<k+cs.length->SeatC n C (sc i) (v'.l i)∧flP n C (v'.l i)=[]∧(Ix (v'.l i)=none∨∃ q',Ix (v'.l i)=some q'∧(q'.1=1∨q'.1=11)):=by
 induction h with
 |nil=>exact λ_ h2 i hi=>h2 i (by simpa using hi)
 |@cons k c cs v v1 v2 X l' hf hK hsk _ hL els _ ih =>
  intro hc h2 i hi;refine ih (λm c' h=>?_) (λi hi=>?_) i (by simp only[List.length_cons] at hi;omega)
  .have:=hc (m+1) c' (by simpa using h)
   rw[<-this]
   congr 1
   omega
  .rw[els.l]
   by_cases e:i=k
   .subst e
    rw[upd_same];have hs:sc i=c:=hc 0 c rfl;obtain ⟨a1,a4,a5⟩:=fw_j hf (sc i) C rfl (Nat.zero_le _) (by rw[hs];rfl) (by rw[hs,List.length_replicate]);exact ⟨a1,a4,a5⟩
   .rw[upd_ne _ _ e]
    exact h2 i (by omega)
theorem hi_K {mc:Mc}{k:Nat}{cs:List (List Cl)}{v v':Vw}(h:Hi mc k cs v v'):v'.K=v.K∧v'.stk=v.stk:=by
 induction h with
 |nil=>exact ⟨rfl,rfl⟩
 |cons _ e1 e2 _ _ _ _ ih=>exact ⟨ih.1.trans e1,ih.2.trans e2⟩
theorem stk_run {n:Nat}(hn:n<=1000) {ss:List (Scr (mcT n))}{N:Nat}{S S1:TS}{l0 l1:Nat->Ph}{K:List (Nat×Int)}{m:Nat}{p':PSt}{cl:Nat->List Cl}(hl0:∀ i,l0 i=.done [])
 (hN:ss.length=N) (hN8:N<=8) (hl:lens ss<=512) (hss:ss.map (·.calls)=(List.range' 0 N).map cl) (ha:∀ x∈ss,x.ans=List.replicate x.calls.length (0,0)) (ht:S.thr=[]) (htr:S.tr=[]) (hSn:S.n=0) (hsk:S.stk=false) (hK:K.map (·.2)=sts n n)
 (hH:Hires (mcT n) 0 ss S l0 S1 l1) (hT:Turns (mcT n) m ⟨S1,K,l1⟩ p'):
 ∃ L,p'.S.tr=flat L∧p'.S.n=L.length∧L.length<=400000∧(∀ i,i<N->(p'.l i).ans.length=(cl i).length)∧Fit9 N cl (λi=>(p'.l i).ans) L∧∃ E id,Ev9 cl (λi=>(p'.l i).ans) L E id∧Hist E∧Lin (Bl 2 0) (Dq 2 0) (E.filter isPP):=by
 have hsc:∀ k c,ss[k]? = some c->cl k=c.calls:=λk c hk=>by have h1:=congrArg (λl=>l[k]?) hss;simp only[List.getElem?_map,hk,Option.map_some] at h1;have h2:=(Qc hk).1;rw[List.getElem?_range' (by omega)] at h1;simp only[Option.map_some,Option.some.injEq,Nat.zero_add,Nat.one_mul] at h1;exact h1.symm
 have hcell:=cells_T hn hK;have hkok:=kok_T hK
 let v0:Vw:=⟨K.map (·.2),false,S.chg,λi=>(thrI S i).se,l0,[]⟩
 have hs0:Seen ⟨S,K,l0⟩ v0:=⟨rfl,hsk.symm,rfl,λi=>rfl,rfl,htr,hSn,λi t h=>by rw[ht] at h;cases h⟩
 obtain ⟨v1,hi1,hs1⟩:=hires_hi (K:=K) hH v0 (by rw[ht];rfl) ha hs0;obtain ⟨w3,w4⟩:=hi_K hi1;have w5:=hi_j (λj=>v1.K.getD j 0) cl hi1 (λm c h=>by
  rw[List.getElem?_map] at h;cases e:ss[m]? with
  |none=>rw[e] at h;cases h
  |some x =>rw[e] at h;cases h;rw[Nat.zero_add];exact hsc m x e) (λi hi=>by omega)
 rw[List.length_map,hN,Nat.zero_add] at w5;have hKl:K.length=2*n+2+2*n:=by have:=congrArg List.length hK;rw[List.length_map,G0] at this;exact this
 have hv1K:v1.K=sts n n:=by rw[w3];exact hK
 have hTI:TJ N n cl v1 (List.range' 0 n) []:=by
  have hb:=bh_in 0 n (by omega);have hf:=sts_free n;refine ⟨⟨?_,?_,?_,?_,?_,?_,λi hi q hq=>?_⟩,λi hi=>(w5 i hi).1⟩
  .show Lnk (λi=>v1.K.getD (nxJ i) 0) (fstI (v1.K.getD 0 0)) _
   rw[hv1K,hf.1,R1.fst_hd hb.1 (by omega) (by omega)];have:=lnk_free hf.2 n (Qi _);rw[Nat.sub_self] at this;exact this
  .show fstI (v1.K.getD (hdJ n) 0)=0
   rw[hv1K,sts_hd];exact R1.fstI_zero
  .rw[List.append_nil]
   exact List.nodup_range'
  .intro a ha
   rw[List.append_nil,List.mem_range'] at ha;obtain ⟨k,hk,rfl⟩:=ha;omega
  .show HdI (v1.K.getD 0 0) _
   rw[hv1K,hf.1];have:=hd_low hb.1 (by omega:bh 0 n<4294967296) (v:=0) (by omega);exact ⟨this.1,this.2,by rw[sh_hd hb.1 (by omega) (by omega) (by omega)];omega⟩
  .show HdI (v1.K.getD (hdJ n) 0) _
   rw[hv1K,sts_hd];exact ⟨by omega,by omega,by unfold sh;omega⟩
  .have hq:Ix (v1.l i)=some q:=hq
   rcases (w5 i hi).2.2 with e|⟨q',e,e'⟩
   rw[e] at hq;cases hq
   .rw[e] at hq
    cases hq;obtain ⟨z1,z2⟩:=sk_start (n:=n) (C:=λj=>v1.K.getD j 0) e';exact ⟨z1,λa ha=>by rw[z2] at ha;cases ha⟩
 rw[hss] at hi1;have hni:NI N cl v1:=hi_note opOk_T hi1 (by simp) (by simp) .nil (λi hi=>by omega) (λ_ _=>rfl);have hf0:fvT n N v0=λ_=>none:=by
  funext i;unfold fvT;split
  .show (flP n _ (l0 i)).head? = none
   rw[hl0];rfl
  rfl
 have hsn:Sn8 N cl (λi=>(v1.l i).ans) v1.L [] (fvT n N v1):=hi_sn8 hi1 (by simp) (by simp) rfl (λ_ _=>rfl) (λi _ _=>hl0 i) (by rw[hf0];exact .nil) (λi hi=>by omega);obtain ⟨a1,a2,a3,a4⟩:=Mw.hires_gd (metT n hn) K.length hcell hH (by rw[ht];rfl) (by omega) (λi t h=>by rw[ht] at h;cases h);have g:Mw.Gd (mc:=mcT n) ⟨S1,K,l1⟩:=⟨by show S1.thr.length<=8;omega,hkok,a2⟩
 have hm:=Mw.mu_le (metT n hn) ⟨S1,K,l1⟩ g.len;have hL6:(metT n hn).L=6:=rfl;rw[ht] at a4;simp only[List.length_nil,List.range_zero,List.map_nil,List.sum_nil] at a4;have hmu:S1.n+Mw.mu (metT n hn) ⟨S1,K,l1⟩<=400000:=by have:Mw.mu (metT n hn) ⟨S1,K,l1⟩<=40+64*((List.range S1.thr.length).map λi=>Mw.tot (metT n hn) (l1 i)).sum:=hm;rw[hL6] at a4;omega
 have hlen1:S1.thr.length=N:=by omega
 have hst1:v1.stk=false:=w4;obtain ⟨v',⟨hni',_,F',R,hTI',hsn'⟩,hs',hlen,hd,g',hB'⟩:=turns_mvW (metT n hn) (N:=N) (B:=400000) (Inv:=λv=>NI N cl v∧v.stk=false∧∃ F S,TJ N n cl v F S∧Sn8 N cl (λi=>(v.l i).ans) v.L (svT n v S) (fvT n N v)) (λp v v1 gp hN hB sp hv hmv=>by obtain ⟨F,S,x1,x2,x3⟩:=tsn_mv hn gp hB sp hN hv.2.1 hv.1 hv.2.2 hmv;exact ⟨note_mv opOk_T hv.1 hmv,x3,F,S,x1,x2⟩) hT v1 (by show S1.thr.length=N;omega) g (by show Mw.Cells K.length;exact hcell) hmu hs1 ⟨hni,hst1,_,_,hTI,hsn⟩
 obtain ⟨E,id,ord,R',hE,hEI,hLS⟩:=sn8_lin hsn';refine ⟨v'.L,hs'.tr,hs'.n,by have:=hs'.n;omega,λi hi=>?_,?_,E,id,?_,hEI.hist,hLS.lin⟩;rw[<-hs'.l];exact (hni'.thr i hi).1;rw[<-hs'.l];exact hni'.fit;rw[<-hs'.l];exact hE
end Go.Proofs.YtbbhahigofeacaaDoor.Gen
namespace Go.Proofs.YtbbhahigofeacaaDoor.Gen
open Go Go.Lift Go.Conc Go.RowKit
variable {mc:Mc}
theorem turns_det:∀ {m m':Nat}{p p1 p2:PSt},Turns mc m p p1->Turns mc m' p p2->p1=p2
 |_,_,_,_,_,.stop h,.stop h'=>rfl
 |_,_,_,_,_,.stop h,.step h' _=>by rw[h] at h';cases h'
 |_,_,_,_,_,.step h _,.stop h'=>by rw[h] at h';cases h'
 |_,_,_,_,_,.step h t,.step h' t'=>by rw[h] at h';cases h';exact turns_det t t'
def pt (mc:Mc) (p:PSt):PSt:=(Fv mc p).getD p
def pts (mc:Mc):Nat->PSt->PSt
 |0,p=>p
 |n+1,p=>pts mc n (pt mc p)
def runs (mc:Mc):Nat->PSt->Bool
 |0,p=>(Fv mc p).isNone
 |n+1,p=>(Fv mc p).isSome&&runs mc n (pt mc p)
theorem turns_of:∀ (n:Nat) (p:PSt),runs mc n p=true->Turns mc n p (pts mc n p)
 |0,p,h=>by
  refine .stop ?_;cases hp:Fv mc p with
  |none=>rfl
  |some x=>unfold runs at h;rw[hp] at h;cases h
 |n+1,p,h=>by
  unfold runs at h;rw[Bool.and_eq_true] at h;refine .step ?_ (turns_of n (pt mc p) h.2);unfold pt;cases hp:Fv mc p with
  |none=>rw[hp] at h;cases h.1
  |some x=>rfl
end Go.Proofs.YtbbhahigofeacaaDoor.Gen
namespace Go.Proofs.YtbbhahigofeacaaDoor.Gen
open Go Go.Lift Go.Conc Go.RowKit
open R1 (fstI verI hdI)
open Go.ConcN (upd upd_same upd_ne)
def clsT:List Cl:=[⟨1,7,0,0⟩,⟨1,8,0,0⟩,⟨1,9,0,0⟩,⟨2,0,0,0⟩,⟨2,0,0,0⟩,⟨2,0,0,0⟩]
def ansZ:List (Int×Int):=[(0,0),(0,0),(0,0),(0,0),(0,0),(0,0)]
def awST (wb bk base:Nat) (sc cv:Value) (k:Nat):TS:=nv { Kp (newS wb bk base sc []) cv k with ran:=true }
def cellsT (b:Nat->Nat):List (Nat×Int):=[(b 0,hdI 1 0),(b 1,2),(b 2,0),(b 3,0),(b 4,0),(b 5,0),(b 6,0),(b 7,0),(b 8,0),(b 9,0)]
def awPT (wb bk base:Nat) (sc cv:Value) (tv0:Value) (tb0 gc0:Nat) (b:Nat->Nat) (l0:Nat->Ph):PSt :=
 ⟨(flow 0 (mcT 2) clsT 0 false ansZ (A6 (awST wb bk base sc cv 10) tv0 tb0 gc0)).1,cellsT b,upd l0 0 (flow 0 (mcT 2) clsT 0 false ansZ (A6 (awST wb bk base sc cv 10) tv0 tb0 gc0)).2⟩
section
variable (wb bk base:Nat) (sc cv:Value) (tv0:Value) (tb0 gc0:Nat) (b:Nat->Nat) (l0:Nat->Ph)
set_option maxRecDepth 100000
theorem awt_runs:runs (mcT 2) 34 (awPT wb bk base sc cv tv0 tb0 gc0 b l0)=true:=by kernel_rfl
theorem awt_n:(pts (mcT 2) 34 (awPT wb bk base sc cv tv0 tb0 gc0 b l0)).S.n=46:=by kernel_rfl
theorem awt_ans:((pts (mcT 2) 34 (awPT wb bk base sc cv tv0 tb0 gc0 b l0)).l 0).ans=[(0,0),(0,0),(80,0),(0,8),(0,7),(90,0)]:=by kernel_rfl
end
end Go.Proofs.YtbbhahigofeacaaDoor.Gen
namespace Go.Proofs.YtbbhahigofeacaaDoor.Gen
open Go Go.Lift Go.Conc Go.RowKit
variable {Ch:Nat->Prop} {Stop:Goroutine->World->Prop} {main:Bool} {v w:World} {bc:Frame} {ac:Act} {ops:Array Oper} {cb q:Nat} {rest:List Nat} {oc:Oper} {k:List Item} {x:Int}
structure Fm (tb cb:Nat) (x:Int) (v:World):Prop where
 thr:v.cell? ⟨tb,0,none⟩=some (.pointer none)
 ne:tb≠cb
 cel:v.heap[cb]? = some (.cells #[I 0,I x] 123 (0,0))
structure Fto (tb cb:Nat) (x:Int) (v v':World):Prop where
 fm:Fm tb cb x v'
 old:∀ b,b≠cb->v'.heap[b]? = v.heap[b]?
 size:v'.heap.size=v.heap.size
 os:v'.os=v.os
 out:v'.output=v.output
section
variable {tb cb:Nat}{x y:Int}{v v' v'':World}
theorem Fm.cells (h:Fm tb cb x v):v.cell? ⟨tb,0,none⟩=some (.pointer none)∧v.cell? ⟨cb,0,none⟩=some (I 0)∧v.cell? ⟨cb,1,none⟩=some (I x)∧v.frozen? ⟨cb,1,none⟩=false:=by refine ⟨h.thr,?_,?_,?_⟩;unfold World.cell?;rw[show v.heap[cb]? = _ from h.cel];rfl;unfold World.cell?;rw[show v.heap[cb]? = _ from h.cel];rfl;unfold World.frozen?;rw[show v.heap[cb]? = _ from h.cel];rfl
theorem Fm.same (h:Fm tb cb x v) (e:v'.heap=v.heap):Fm tb cb x v':=⟨by rw[World.cell?_of_block (w:=v) (by rw[e])];exact h.thr,h.ne,by rw[e];exact h.cel⟩
theorem Fto.refl (h:Fm tb cb x v):Fto tb cb x v v:=⟨h,λ_ _=>rfl,rfl,rfl,rfl⟩
theorem Fto.set (h:Fm tb cb x v) (y:Int):Fto tb cb y v (v.setCell ⟨cb,1,none⟩ (I y)) :=
 ⟨⟨by rw[World.cell?_of_block (Below.heap_setCell _ _ _ _ h.ne)];exact h.thr,h.ne,heap_setCell_same h.cel _⟩,λb hb=>Below.heap_setCell _ _ _ _ hb,by simp[World.setCell],rfl,rfl⟩
theorem Fto.base (h:Fto tb cb x v v') (e1:v.heap=v''.heap) (e2:v.os=v''.os) (e3:v.output=v''.output):Fto tb cb x v'' v' :=
 ⟨h.fm,λb hb=>by rw[<-e1];exact h.old b hb,by rw[<-e1];exact h.size,h.os.trans e2,h.out.trans e3⟩
theorem body27f (tb:Nat) (b a:Int) (v:World) (h:v.cell? ⟨tb,0,none⟩=some (.pointer none)):Body Tryd.f69 #[Pt tb 0,I b,I a] v (λr v'=>r=.tuple #[]∧v'=v):=by intro code hb;obtain rfl:=Qd hb;clear hb;simp only[Tryd.ntmps69,Sz,Nat.reduceAdd,Nat.reduceSub,Sy];go_wp2_with fail;exact ⟨rfl,_,results_none rfl _ _ _,_,rfl,rfl,rfl⟩
end
theorem free26 (tb:Nat) (c o:Int) (ht:v.cell? ⟨tb,0,none⟩=some (.pointer none)) (cs:List Frame) (hoc:ops[q]? = some oc) (hvw:Rel zn v w) (hn:Ai Ch v)
 (hk:∀ w',Rel zn v w'->GoT zn main Ch Stop (G (bc.at (ac.put oc.dst (.tuple #[])) (.inRegion ops rest :: k)) cs) w') (code:Code) (hc:Tryd.f67.body=some code):
 GoT zn main Ch Stop (G ((base 67).at { tmps:=#[Pt tb 0,I c,I o]++Array.replicate 12 undef,defers:=[] } [.code code]) (bc.at ac (.inRegion ops (q :: rest) :: k) :: cs)) w:=by
 obtain rfl:=Qd hc;clear hc;have e0:w.cell? ⟨tb,0,none⟩=some (.pointer none):=by rw[hvw.cell?];exact ht
 simp only[Sy];refine Ab ?_;refine Ac ?_;simp only[Sz,Sr,Nat.reduceAdd];iterate 4
  (refine Ad rfl rfl (by decide) rfl λd K hK=>?_
   go_simp;refine hK _ ?_;clear hK K)
 refine Cf (L:=LT) rfl rfl (by decide) (Bh C9 extT (by kernel_rfl)) hvw hn (v':=v) (x:=.bool false) (by go_simp) rfl (λw2 hr2 hn2=>?_);refine Aa ?_;refine Ax (t:=false) rfl ?_;refine Bo ?_;refine Ff (Ag _ _) ?_;exact Dc (b:=base 67) (fn:=Tryd.f67) rfl rfl Tryd.func67 (res26 _) (ev26 _) hoc (Ag _ _) (hk w2 hr2)
theorem tailF17 {tb:Nat}(hm:Fm tb cb x v) (a6 a7 a8 a9 a10 a11:Value):
 rest17.wp Tryd.prog (bodyPost Tryd.prog Tryd.f44 (λe w'=>∃ r,e=.returned r∧(r=(Bm x).2.2∧Fto tb cb (Bm x).2.1 v w')))
  { tmps:=#[Pt cb 0,Pt tb 0,undef,undef,I 0,undef,a6,a7,a8,a9,a10,a11,undef,undef,undef,undef,undef,undef,undef,undef,undef],defers:=[] } v:=by
 obtain ⟨c0,_,c1,f1⟩:=hm.cells;have HM:Hid (Fm tb cb x v):=⟨hm⟩
 have HT:Hid (v.cell? ⟨tb,0,none⟩=some (.pointer none)):=⟨by exact c0⟩
 clear hm;show Code.wp Tryd.prog (seq2 (seq2 (Tryd.f44.body.getD .skip))) _ _ _;unfold Tryd.f44 seq2;simp only[Qa]
 go_wp2_with (first
  |(go_at_call 68;refine ((body29 cb x _ c1).calls Tryd.func68 rfl).mono ?_;rintro e w1 ⟨_,rfl,rfl,rfl⟩)
  |(go_at_call 69;refine ((body27f tb x x _ HT.out).calls Tryd.func69 rfl).mono ?_;rintro e w2 ⟨_,rfl,rfl,rfl⟩))
 go_ret;exact ⟨_,rfl,rfl,Fto.refl HM.out⟩
theorem free17 {tb:Nat}(x:Int) (cs:List Frame) (hoc:ops[q]? = some oc)
 (hvw:Rel zn v w) (hn:Ai Ch v) (hm:Fm tb cb x v)
 (hk:∀ v' w',Rel zn v' w'->Ai Ch v'->Fto tb cb (Bm x).2.1 v v'->GoT zn main Ch Stop (G (bc.at (ac.put oc.dst (Bm x).2.2) (.inRegion ops rest :: k)) cs) w') (code:Code) (hc:Tryd.f44.body=some code):
 GoT zn main Ch Stop (G ((base 44).at { tmps:=#[Pt cb 0,Pt tb 0]++Array.replicate 19 undef,defers:=[] } [.code code]) (bc.at ac (.inRegion ops (q :: rest) :: k) :: cs)) w:=by
 obtain rfl:=Qd hc;clear hc;have e0:w.cell? ⟨cb,0,none⟩=some (I 0):=by rw[hvw.cell?];exact hm.cells.2.1
 simp only[Sy];have HM:Hid (Fm tb cb x v):=⟨hm⟩
 clear hm;refine Ab ?_;refine Ac ?_;simp only[Sz,Sr,Nat.reduceAdd]
 (refine Ad rfl rfl (by decide) rfl λd K hK=>?_
  go_simp;refine hK _ ?_;clear hK K)
 refine Aa ?_;refine Ab ?_;refine Ac ?_;simp only[Sz,Sr,Nat.reduceAdd];iterate 5
  (refine Ad rfl rfl (by decide) rfl λd K hK=>?_
   go_simp;refine hK _ ?_;clear hK K)
 refine Ao (f:=67) (fn:=Tryd.f67) (args:=#[Pt tb 0,I 0,I 1]) (Ag _ _) rfl rfl (by decide) rfl (by simp[Act.eval]) Tryd.func67 (by decide) rfl ?_;refine free26 tb 0 1 HM.out.cells.1 _ rfl hvw hn (λw1 hr1=>?_) _ rfl;clear e0 hvw;refine Aa ?_;refine Ho (f:=44) (fn:=Tryd.f44) (c:=rest17) hE Dn hr1 hn Tryd.func44 fine17 rfl hoc res17 (λτ=>?_) (λr v' w' hR hr' hn'=>?_) (R:=λr w'=>r=(Bm x).2.2∧Fto tb cb (Bm x).2.1 v w');exact wp_mono (tailF17 (HM.out.same (v':=Ap v τ 0) rfl) _ _ _ _ _ _) (Dm λr u hq=>⟨hq.1,hq.2.base rfl rfl rfl⟩)
 .obtain ⟨rfl,he⟩:=hR
  exact hk v' w' hr' hn' he
theorem body24n (v:World):Body Tryd.f64 #[.pointer none] v (λr v'=>r=I 0∧v'=v):=by intro code hb;obtain rfl:=Qd hb;clear hb;simp only[Tryd.ntmps64,Sz,Nat.reduceAdd,Nat.reduceSub,Sy];go_wp2_with fail;go_ret;exact ⟨_,rfl,rfl,rfl⟩
theorem body10n (v:World) (x:Int):Body Tryd.f41 #[.pointer none,I x] v (λr v'=>r=Pt v.heap.size 0∧v'.heap=v.heap.push (.cells #[I 0,I x] 123)∧v'.os=v.os∧v'.output=v.output):=by
 intro code hb;obtain rfl:=Qd hb;clear hb;simp only[Tryd.ntmps41,Sz,Nat.reduceAdd,Nat.reduceSub,Sy]
 go_wp2_with (first
  |(go_at_call 64;refine ((body24n v).calls Tryd.func64 rfl).mono ?_;rintro e w1 ⟨r1,rfl,rfl,rfl⟩)
  |(go_at_call 65
    have hb:(w1.alloc (.cells #[I 0,I 0] 123)).heap[w1.heap.size]? = some (.cells #[I 0,I 0] 123):=Qo;refine ((body25 w1.heap.size 0 x _ (by unfold World.cell?;rw[hb];rfl) (by unfold World.frozen?;rw[hb];rfl)).calls Tryd.func65 rfl).mono ?_;rintro e w2 ⟨r2,rfl,rfl,rfl⟩))
 go_ret;exact ⟨_,rfl,rfl,rfl,rfl,rfl⟩
theorem body11 (v:World) (i:Int):Body Tryd.f23 #[I i] v (λr v'=>r=Pt v.heap.size 0∧v'.heap=v.heap.push (.cells #[.pointer none,I i,.chan none,I 0,I 0,I 0,I 0] 87)∧v'.os=v.os∧v'.output=v.output):=by intro code hb;obtain rfl:=Qd hb;clear hb;simp only[Tryd.ntmps23,Sz,Nat.reduceAdd,Nat.reduceSub,Sy];go_wp2_with fail;go_ret;exact ⟨_,rfl,rfl,rfl,rfl,rfl⟩
section
variable {tb c c':Nat}{x y:Int}{v v' v'':World}
end
theorem tailF12 {tb:Nat}{y:Int}(hm:Fm tb cb x v) (a7 a8 a9 a10 a11 a12:Value):
 rest12.wp Tryd.prog (bodyPost Tryd.prog Tryd.f47 (λe w'=>∃ r,e=.returned r∧(r=(Bz y x).2.2∧Fto tb cb (Bz y x).2.1 v w')))
  { tmps:=#[Pt cb 0,Pt tb 0,I y,undef,undef,undef,undef,a7,a8,a9,a10,a11,a12,undef,undef,undef,undef,undef,undef,undef,undef,undef],defers:=[] } v:=by
 obtain ⟨c0,_,c1,f1⟩:=hm.cells;have HM:Hid (Fm tb cb x v):=⟨hm⟩
 have HT:Hid ((v.setCell ⟨cb,1,none⟩ (I y)).cell? ⟨tb,0,none⟩=some (.pointer none)):=⟨by rw[World.cell?_of_block (Below.heap_setCell _ _ _ _ hm.ne)];exact c0⟩
 clear hm;show Code.wp Tryd.prog (seq2 (Tryd.f47.body.getD .skip)) _ _ _;unfold Tryd.f47 seq2;simp only[Qa]
 go_wp2_with (first
  |(go_at_call 65;refine ((body25 cb x y _ c1 f1).calls Tryd.func65 rfl).mono ?_;rintro e w1 ⟨_,rfl,rfl,rfl⟩)
  |(go_at_call 69;refine ((body27f tb x y _ HT.out).calls Tryd.func69 rfl).mono ?_;rintro e w2 ⟨_,rfl,rfl,rfl⟩))
 exact ⟨rfl,_,results_none rfl _ _ _,_,rfl,rfl,Fto.set HM.out _⟩
theorem free12 {tb:Nat}(y:Int) (x:Int) (cs:List Frame) (hoc:ops[q]? = some oc)
 (hvw:Rel zn v w) (hn:Ai Ch v) (hm:Fm tb cb x v)
 (hk:∀ v' w',Rel zn v' w'->Ai Ch v'->Fto tb cb (Bz y x).2.1 v v'->GoT zn main Ch Stop (G (bc.at (ac.put oc.dst (Bz y x).2.2) (.inRegion ops rest :: k)) cs) w') (code:Code) (hc:Tryd.f47.body=some code):
 GoT zn main Ch Stop (G ((base 47).at { tmps:=#[Pt cb 0,Pt tb 0,I y]++Array.replicate 19 undef,defers:=[] } [.code code]) (bc.at ac (.inRegion ops (q :: rest) :: k) :: cs)) w:=by
 obtain rfl:=Qd hc;clear hc;have e0:w.cell? ⟨cb,0,none⟩=some (I 0):=by rw[hvw.cell?];exact hm.cells.2.1
 simp only[Sy];have HM:Hid (Fm tb cb x v):=⟨hm⟩
 clear hm;refine Ab ?_;refine Ac ?_;simp only[Sz,Sr,Nat.reduceAdd];iterate 5
  (refine Ad rfl rfl (by decide) rfl λd K hK=>?_
   go_simp;refine hK _ ?_;clear hK K)
 refine Ao (f:=67) (fn:=Tryd.f67) (args:=#[Pt tb 0,I 0,I 2]) (Ag _ _) rfl rfl (by decide) rfl (by simp[Act.eval]) Tryd.func67 (by decide) rfl ?_;refine free26 tb 0 2 HM.out.cells.1 _ rfl hvw hn (λw1 hr1=>?_) _ rfl;clear e0 hvw;refine Aa ?_;refine Ho (f:=47) (fn:=Tryd.f47) (c:=rest12) hE Dn hr1 hn Tryd.func47 fine12 rfl hoc res12 (λτ=>?_) (λr v' w' hR hr' hn'=>?_) (R:=λr w'=>r=(Bz y x).2.2∧Fto tb cb (Bz y x).2.1 v w');exact wp_mono (tailF12 (HM.out.same (v':=Ap v τ 0) rfl) _ _ _ _ _ _) (Dm λr u hq=>⟨hq.1,hq.2.base rfl rfl rfl⟩)
 .obtain ⟨rfl,he⟩:=hR
  exact hk v' w' hr' hn' he
theorem tailF14 {tb:Nat}{a y:Int}(hm:Fm tb cb x v) (a10 a11 a12 a13 a14 a15:Value):
 rest14.wp Tryd.prog (bodyPost Tryd.prog Tryd.f48 (λe w'=>∃ r,e=.returned r∧(r=(Bn a y x).2.2∧Fto tb cb (Bn a y x).2.1 v w')))
  { tmps:=#[Pt cb 0,Pt tb 0,I a,I y,undef,undef,undef,undef,.bool false,undef,a10,a11,a12,a13,a14,a15,undef,undef,undef,undef,undef,undef,undef,undef,undef,undef,undef,undef,undef,undef,undef,undef,undef,undef],defers:=[] } v:=by
 obtain ⟨c0,_,c1,f1⟩:=hm.cells;have HM:Hid (Fm tb cb x v):=⟨hm⟩
 by_cases hx:x=a
 .subst hx
  have HT:Hid ((v.setCell ⟨cb,1,none⟩ (I y)).cell? ⟨tb,0,none⟩=some (.pointer none)):=⟨by rw[World.cell?_of_block (Below.heap_setCell _ _ _ _ hm.ne)];exact c0⟩
  have HQ:Hid (Bn x y x=((x,y),y,.bool true)):=⟨by simp[Bn]⟩
  rw[HQ.out];clear hm;show Code.wp Tryd.prog (seq2 (seq2 (Tryd.f48.body.getD .skip))) _ _ _;unfold Tryd.f48 seq2;simp only[Qa]
  go_wp2_with (first
   |(go_at_call 72;refine ((body28 cb x y _ c1 f1).calls Tryd.func72 rfl).mono ?_;rintro e w1 ⟨_,rfl,rfl,rfl⟩)
   |(go_at_call 69;refine ((body27f tb x y _ HT.out).calls Tryd.func69 rfl).mono ?_;rintro e w2 ⟨_,rfl,rfl,rfl⟩))
  go_ret;exact ⟨_,rfl,rfl,Fto.set HM.out _⟩
 have HT:Hid (v.cell? ⟨tb,0,none⟩=some (.pointer none)):=⟨by exact c0⟩
 have HQ:Hid (Bn a y x=((x,x),x,.bool false)):=⟨by simp[Bn,hx]⟩
 rw[HQ.out];clear hm;show Code.wp Tryd.prog (seq2 (seq2 (Tryd.f48.body.getD .skip))) _ _ _;unfold Tryd.f48 seq2;simp only[Qa]
 go_wp2_with (first
  |(go_at_call 72;refine ((body28n cb x a y _ c1 f1 hx).calls Tryd.func72 rfl).mono ?_;rintro e w1 ⟨_,rfl,rfl,rfl⟩)
  |(go_at_call 68;refine ((body29 cb x _ c1).calls Tryd.func68 rfl).mono ?_;rintro e w1 ⟨_,rfl,rfl,rfl⟩)
  |(go_at_call 69;refine ((body27f tb x x _ HT.out).calls Tryd.func69 rfl).mono ?_;rintro e w2 ⟨_,rfl,rfl,rfl⟩))
 go_ret;exact ⟨_,rfl,rfl,Fto.refl HM.out⟩
theorem free14 {tb:Nat}(a y:Int) (x:Int) (cs:List Frame) (hoc:ops[q]? = some oc)
 (hvw:Rel zn v w) (hn:Ai Ch v) (hm:Fm tb cb x v)
 (hk:∀ v' w',Rel zn v' w'->Ai Ch v'->Fto tb cb (Bn a y x).2.1 v v'->GoT zn main Ch Stop (G (bc.at (ac.put oc.dst (Bn a y x).2.2) (.inRegion ops rest :: k)) cs) w') (code:Code) (hc:Tryd.f48.body=some code):
 GoT zn main Ch Stop (G ((base 48).at { tmps:=#[Pt cb 0,Pt tb 0,I a,I y]++Array.replicate 30 undef,defers:=[] } [.code code]) (bc.at ac (.inRegion ops (q :: rest) :: k) :: cs)) w:=by
 obtain rfl:=Qd hc;clear hc;have e0:w.cell? ⟨cb,0,none⟩=some (I 0):=by rw[hvw.cell?];exact hm.cells.2.1
 simp only[Sy];have HM:Hid (Fm tb cb x v):=⟨hm⟩
 clear hm;refine Ab ?_;refine Ac ?_;simp only[Sz,Sr,Nat.reduceAdd]
 (refine Ad rfl rfl (by decide) rfl λd K hK=>?_
  go_simp;refine hK _ ?_;clear hK K)
 refine Aa ?_;refine Ab ?_;refine Ac ?_;simp only[Sz,Sr,Nat.reduceAdd];iterate 5
  (refine Ad rfl rfl (by decide) rfl λd K hK=>?_
   go_simp;refine hK _ ?_;clear hK K)
 refine Ao (f:=67) (fn:=Tryd.f67) (args:=#[Pt tb 0,I 0,I 4]) (Ag _ _) rfl rfl (by decide) rfl (by simp[Act.eval]) Tryd.func67 (by decide) rfl ?_;refine free26 tb 0 4 HM.out.cells.1 _ rfl hvw hn (λw1 hr1=>?_) _ rfl;clear e0 hvw;refine Aa ?_;refine Ho (f:=48) (fn:=Tryd.f48) (c:=rest14) hE Dn hr1 hn Tryd.func48 fine14 rfl hoc res14 (λτ=>?_) (λr v' w' hR hr' hn'=>?_) (R:=λr w'=>r=(Bn a y x).2.2∧Fto tb cb (Bn a y x).2.1 v w');exact wp_mono (tailF14 (HM.out.same (v':=Ap v τ 0) rfl) _ _ _ _ _ _) (Dm λr u hq=>⟨hq.1,hq.2.base rfl rfl rfl⟩)
 .obtain ⟨rfl,he⟩:=hR
  exact hk v' w' hr' hn' he
end Go.Proofs.YtbbhahigofeacaaDoor.Gen
namespace Go.Proofs.YtbbhahigofeacaaDoor.Gen
open Go Go.Lift Go.Conc Go.RowKit
open R1 (fstI verI hdI)
variable {B c cb k n pb q rb s sb:Nat} {h0 hd lk nx us vl x y:Int} {v v' w:World} {Ch:Nat->Prop} {Stop:Goroutine->World->Prop} {main:Bool} {a ac:Act} {bc:Frame} {ops:Array Oper} {rest:List Nat} {oc:Oper} {k0:List Item}
theorem Fm.grow {tb:Nat}(h:Fm tb cb x v) (g:Grows v v'):Fm tb cb x v':=⟨g.cell h.thr,h.ne,by rw[g.old _ (Qb h.cel).1];exact h.cel⟩
theorem ch46_goF {tb:Nat}(x f:Int) (hF:R1.Flds v) (h0:v.cell? ⟨s,0,none⟩=some (Pt cb 0)) (cs:List Frame)
 (hk:∀ a u v' w',Fl 22 [] a->Rel zn v' w'->Ai Ch v'->Grows v u->Fto tb cb ((Bn x (hdI f (verI x+1))) y).2.1 u v'->GoT zn main Ch Stop (G (ch46T a ((Bn x (hdI f (verI x+1))) y).2.2) cs) w')
 (hvw:Rel zn v w) (hn:Ai Ch v) (hm:Fm tb cb y v) (code:Code) (hc:Tryd.f46.body=some code):
 GoT zn main Ch Stop (G ((base 46).at { tmps:=#[Pt s 0,Pt tb 0,I x,I f]++Array.replicate 18 undef,defers:=[] } [.code code]) cs) w:=by
 have hw0:code=.seq (.region 0 (opsOf (seq1 J4)) false) (.seq (.region 1 J3 true) .ret):=by rw[show code=J4 by unfold J4;rw[hc];rfl,<-ch46E0];exact ch46E
 subst hw0;clear hc;have HM:Hid (Fm tb cb y v):=⟨hm⟩
 clear hm;simp only[Sy];refine Ab ?_;unfold J4 Tryd.f46 seq1 opsOf;simp only[Qa];refine Ac ?_;simp only[Sz,Sr,Nat.reduceAdd];refine Ad rfl rfl (by decide) rfl λd K hK=>?_;go_simp;refine hK _ ?_;clear hK K;refine Aa ?_;refine Ab ?_;refine ch46_pre s cb tb x f ⟨rfl,rfl,(alC rfl<|alC rfl<|alC rfl<|alC rfl<|alN)⟩ _ cs hF h0 hvw hn (λv4 w4 a' o ho hw hA hvw4 hn4 hg4=>?_);have e12:a'.eval (.tmp 12)=Pt cb 0:=hA.at 12 _ (by simp);have e13:a'.eval (.tmp 13)=Pt tb 0:=hA.at 13 _ (by simp);have e14:a'.eval (.tmp 14)=I x:=hA.at 14 _ (by simp);have e20:a'.eval (.tmp 20)=I (hdI f (verI x+1)):=hA.at 20 _ (by simp);have hop:(J3[12]?).map (·.op)=some (.call { callee:=.value (.func 48),args:=#[.tmp 12,.tmp 13,.tmp 14,.tmp 20],argTypes:=#[89,52,3,3] }):=by kernel_rfl
 have hds:(J3[12]?).map (·.dst)=some (some 21):=by kernel_rfl
 rw[ho] at hop hds;have hop':=Qd hop;have hds':o.dst=some 21:=Qd hds;refine Ao (f:=48) (fn:=Tryd.f48) (args:=#[Pt cb 0,Pt tb 0,I x,I (hdI f (verI x+1))]) (Ag _ _) ho (hw _) (by simp[base]) hop' (by simp only[List.map_toArray,List.map_cons,List.map_nil,e12,e13,e14,e20]) Tryd.func48 (by decide) rfl ?_;refine free14 x (hdI f (verI x+1)) y _ ho hvw4 hn4 (HM.out.grow hg4) (λv' w' r nn f=>?_) _ rfl;rw[hds'];exact hk a' v4 v' w' ⟨hA.1,hA.2.1,λp hp=>by cases hp⟩ r nn hg4 f
theorem ch73_goF {tb:Nat}(x f:Int) (hF:R1.Flds v) (h0:v.cell? ⟨s,1,none⟩=some (Pt cb 0)) (cs:List Frame)
 (hk:∀ a u v' w',Fl 22 [] a->Rel zn v' w'->Ai Ch v'->Grows v u->Fto tb cb ((Bn x (hdI f (verI x+1))) y).2.1 u v'->GoT zn main Ch Stop (G (ch73T a ((Bn x (hdI f (verI x+1))) y).2.2) cs) w')
 (hvw:Rel zn v w) (hn:Ai Ch v) (hm:Fm tb cb y v) (code:Code) (hc:Tryd.f73.body=some code):
 GoT zn main Ch Stop (G ((base 73).at { tmps:=#[Pt s 0,Pt tb 0,I x,I f]++Array.replicate 18 undef,defers:=[] } [.code code]) cs) w:=by
 have hw0:code=.seq (.region 0 (opsOf (seq1 J2)) false) (.seq (.region 1 J1 true) .ret):=by rw[show code=J2 by unfold J2;rw[hc];rfl,<-ch73E0];exact ch73E
 subst hw0;clear hc;have HM:Hid (Fm tb cb y v):=⟨hm⟩
 clear hm;simp only[Sy];refine Ab ?_;unfold J2 Tryd.f73 seq1 opsOf;simp only[Qa];refine Ac ?_;simp only[Sz,Sr,Nat.reduceAdd];refine Ad rfl rfl (by decide) rfl λd K hK=>?_;go_simp;refine hK _ ?_;clear hK K;refine Aa ?_;refine Ab ?_;refine ch73_pre s cb tb x f ⟨rfl,rfl,(alC rfl<|alC rfl<|alC rfl<|alC rfl<|alN)⟩ _ cs hF h0 hvw hn (λv4 w4 a' o ho hw hA hvw4 hn4 hg4=>?_);have e12:a'.eval (.tmp 12)=Pt cb 0:=hA.at 12 _ (by simp);have e13:a'.eval (.tmp 13)=Pt tb 0:=hA.at 13 _ (by simp);have e14:a'.eval (.tmp 14)=I x:=hA.at 14 _ (by simp);have e20:a'.eval (.tmp 20)=I (hdI f (verI x+1)):=hA.at 20 _ (by simp);have hop:(J1[12]?).map (·.op)=some (.call { callee:=.value (.func 48),args:=#[.tmp 12,.tmp 13,.tmp 14,.tmp 20],argTypes:=#[89,52,3,3] }):=by kernel_rfl
 have hds:(J1[12]?).map (·.dst)=some (some 21):=by kernel_rfl
 rw[ho] at hop hds;have hop':=Qd hop;have hds':o.dst=some 21:=Qd hds;refine Ao (f:=48) (fn:=Tryd.f48) (args:=#[Pt cb 0,Pt tb 0,I x,I (hdI f (verI x+1))]) (Ag _ _) ho (hw _) (by simp[base]) hop' (by simp only[List.map_toArray,List.map_cons,List.map_nil,e12,e13,e14,e20]) Tryd.func48 (by decide) rfl ?_;refine free14 x (hdI f (verI x+1)) y _ ho hvw4 hn4 (HM.out.grow hg4) (λv' w' r nn f=>?_) _ rfl;rw[hds'];exact hk a' v4 v' w' ⟨hA.1,hA.2.1,λp hp=>by cases hp⟩ r nn hg4 f
theorem take_lookF {tb:Nat}(c0:v.cell? ⟨s,0,none⟩=some (Pt cb 0)) (hA:Fl 48 [(0,Pt s 0),(1,Pt tb 0)] a) (cs:List Frame)
 (hk:∀ a u v' w',Fl 48 [(0,Pt s 0),(1,Pt tb 0)] a->Rel zn v' w'->Ai Ch v'->Grows v u->Fto tb cb (Bm y).2.1 u v'->GoT zn main Ch Stop (G (Kv a (Bm y).2.2) cs) w')
 (hvw:Rel zn v w) (hn:Ai Ch v) (hm:Fm tb cb y v):
 GoT zn main Ch Stop (G (tHead a) cs) w:=by
 have HM:Hid (Fm tb cb y v):=⟨hm⟩
 clear hm;unfold Kv tO1 t2 tK tL tS Bd Tryd.f25 seq1 seq2 Ar Be opsOf at hk;simp only[Qa] at hk;obtain ⟨u,rfl,hu⟩:=litF hA;clear hA;simp only[Fls] at hu;unfold tHead;simp only[Qa,lits,Nat.reduceAdd,hu];clear hu;have c0w:w.cell? ⟨s,0,none⟩=some (Pt cb 0):=by rw[hvw.cell?];exact c0
 rw[show (Item.code tL :: Item.inLoop tL :: tE')=Item.code (.block 1 tK) :: Item.inLoop tL :: tE' by rw[<-eTL]];refine Bt ?_;rw[show (Item.inBlock 1 :: Item.inLoop tL :: tE')=tE from rfl];unfold tK tL tS Bd Tryd.f25 seq2 Ar Be;simp only[Qa];refine Ab ?_;refine Ac ?_;simp only[Sz,Sr,Nat.reduceAdd];iterate 5
  (refine Ad rfl rfl (by decide) rfl λd K hK=>?_
   go_simp;refine hK _ ?_;clear hK K)
 refine Ao (f:=44) (fn:=Tryd.f44) (args:=#[Pt cb 0,Pt tb 0]) (Ag _ _) rfl rfl (by decide) rfl (by simp[Act.eval]) Tryd.func44 (by decide) rfl ?_;exact free17 y _ rfl hvw hn HM.out (λv' w' r nn f=>hk _ v v' w' ⟨rfl,rfl,(alC rfl<|alC rfl<|alN)⟩ r nn (grefl v) f) _ rfl
theorem take_nextF {tb:Nat}(k:Nat) (hk0:fstI x=(k:Int)+1) (hkn:k<n) (hF:R1.Flds v) (c1:v.cell? ⟨s,1,none⟩=some (.slice (some ⟨sb,0,none⟩) n n)) (c2:v.cell? ⟨sb,k*2,none⟩=some (Pt cb 0)) (hA:Fl 48 [(0,Pt s 0),(1,Pt tb 0)] a) (cs:List Frame)
 (hk:∀ a u v' w',Fl 48 [(0,Pt s 0),(1,Pt tb 0),(6,I x),(8,I k),(22,Pt s 0),(23,Pt tb 0),(24,I x)] a->Rel zn v' w'->Ai Ch v'->Grows v u->Fto tb cb (Bm y).2.1 u v'->GoT zn main Ch Stop (G (tNext a (Bm y).2.2) cs) w')
 (hvw:Rel zn v w) (hn:Ai Ch v) (hm:Fm tb cb y v):
 GoT zn main Ch Stop (G (Kv a (I x)) cs) w:=by
 have HM:Hid (Fm tb cb y v):=⟨hm⟩
 clear hm;unfold tNext tO6 tC6 t7 t6 t5 t3 t2 tK tL tS Bd Tryd.f25 seq1 seq2 Ar Be opsOf at hk;simp only[Qa] at hk;obtain ⟨u,rfl,hu⟩:=litF hA;clear hA;simp only[Fls] at hu;unfold Kv tO1 t2 tK tL tS Bd Tryd.f25 seq1 seq2 Ar Be opsOf;simp only[Qa,lits,Nat.reduceAdd,hu];clear hu;have HK0:Hid (fstI x=(k:Int)+1):=⟨hk0⟩
 clear hk0;have g0:w.cell? ⟨0,0,none⟩=some (I 0):=by rw[hvw.cell?];exact hF.a0
 have g1:w.cell? ⟨0,1,none⟩=some (I 32):=by rw[hvw.cell?];exact hF.a1
 walk_nrm
 refine Ad rfl rfl (by decide) rfl λd K hK=>?_;go_simp;refine hK _ ?_;clear hK K;refine Aa ?_;refine Ab ?_;refine Ac ?_;simp only[Sz,Sr,Nat.reduceAdd];iterate 2
  (refine Ad rfl rfl (by decide) rfl λd K hK=>?_
   go_simp;refine hK _ ?_;clear hK K)
 refine Ed (f:=45) (fn:=Tryd.f45) (args:=#[I x,R1.F 0 32]) hE Dn rfl rfl (by decide) rfl (by simp[Act.eval,R1.F]) Tryd.func45 (by kernel_rfl) rfl (Ci Dn (by simp[LT,Dh]) Tryd.func45 rfl) (λtmps=>⟨_,λw=>results_tmp rfl _ _ _,λw=>by simp[results,go_sem,Tryd.f45]⟩) hvw hn
  (R:=λr v4=>r=I (fstI x)∧Grows v v4) (λτ=>?_) (λr v4 w4 hR hvw4 hn4=>?_)
 exact wp_mono (R1.Ew x 0 32 (Ap v τ 0) (by decide) (by decide) (by decide) _ rfl) (Dm λr u hq=>⟨hq.1,gtape (Dv hq.2)⟩);obtain ⟨rfl,hg4⟩:=hR;walk_nrm
 have hne:¬ (fstI x=0):=by have:=HK0.out;omega
 have hwr:IntKind.i64.wrap (fstI x - 1)=(k:Int):=by have:=HK0.out;have hx:=R1.J0 x;rw[IntKind.wrap_i64];omega
 have hkn':(k:Int)<(n:Int):=by omega
 have d1:w4.cell? ⟨s,1,none⟩=some (.slice (some ⟨sb,0,none⟩) n n):=by rw[hvw4.cell?];exact hg4.cell c1
 have d2:w4.cell? ⟨sb,k*2,none⟩=some (Pt cb 0):=by rw[hvw4.cell?];exact hg4.cell c2
 refine Ad rfl rfl (by decide) rfl λd K hK=>?_;go_simp;refine hK _ ?_;clear hK K;refine Aa ?_;refine Ab ?_;refine Ab ?_;refine Ac ?_;simp only[Sz,Sr,Nat.reduceAdd];iterate 2
  (refine Ad rfl rfl (by decide) rfl λd K hK=>?_
   go_simp;refine hK _ ?_;clear hK K)
 refine Aa ?_;refine Ax (t:=false) (by simp[Act.eval,hne]) ?_;simp only[if_true,if_false,Qh];refine Bo ?_;refine Ab ?_;refine Ac ?_;simp only[Sz,Sr,Nat.reduceAdd];iterate 3
  (refine Ad rfl rfl (by decide) rfl λd K hK=>?_
   go_simp;refine hK _ ?_;clear hK K)
 refine Aa ?_;refine Ab ?_;refine Ab ?_;refine Ac ?_;simp only[Sz,Sr,Nat.reduceAdd];iterate 12
  (refine Ad rfl rfl (by decide) rfl λd K hK=>?_
   go_simp;refine hK _ ?_;clear hK K)
 refine Ao (f:=44) (fn:=Tryd.f44) (args:=#[Pt cb 0,Pt tb 0]) (Ag _ _) rfl rfl (by decide) rfl (by simp[Act.eval]) Tryd.func44 (by decide) rfl ?_;exact free17 y _ rfl hvw4 hn4 (HM.out.grow hg4) (λv' w' r nn f=>hk _ v4 v' w' ⟨rfl,rfl,(alC rfl<|alC rfl<|alC rfl<|alC rfl<|alC rfl<|alC rfl<|alC rfl<|alN)⟩ r nn hg4 f) _ rfl
theorem take_wonF {tb:Nat}(hkn:k<n) (c1:v.cell? ⟨s,1,none⟩=some (.slice (some ⟨sb,0,none⟩) n n)) (c2:v.cell? ⟨sb,k*2+1,none⟩=some (Pt cb 0)) (hA:Fl 48 [(0,Pt s 0),(1,Pt tb 0),(6,I x),(8,I k)] a) (cs:List Frame)
 (hk:∀ a u v' w',Fl 48 [(0,Pt s 0),(1,Pt tb 0),(6,I x),(8,I k)] a->Rel zn v' w'->Ai Ch v'->Grows v u->Fto tb cb ((Bz (1)) y).2.1 u v'->GoT zn main Ch Stop (G (tUsed a ((Bz (1)) y).2.2) cs) w')
 (hvw:Rel zn v w) (hn:Ai Ch v) (hm:Fm tb cb y v):
 GoT zn main Ch Stop (G (tTried a (.bool true)) cs) w:=by
 have HM:Hid (Fm tb cb y v):=⟨hm⟩
 clear hm;unfold tUsed tO7 t8 t7 t6 t5 t3 t2 tK tL tS Bd Tryd.f25 seq1 seq2 Ar Be opsOf at hk;simp only[Qa] at hk;obtain ⟨u,rfl,hu⟩:=litF hA;clear hA;simp only[Fls] at hu;unfold tTried tO6 tC6 t7 t6 t5 t3 t2 tK tL tS Bd Tryd.f25 seq1 seq2 Ar Be opsOf;simp only[Qa,lits,Nat.reduceAdd,hu];clear hu;have hkn':(k:Int)<(n:Int):=by omega
 have d1:w.cell? ⟨s,1,none⟩=some (.slice (some ⟨sb,0,none⟩) n n):=by rw[hvw.cell?];exact c1
 have d2:w.cell? ⟨sb,k*2+1,none⟩=some (Pt cb 0):=by rw[hvw.cell?];exact c2
 walk_nrm
 refine Ad rfl rfl (by decide) rfl λd K hK=>?_;go_simp;refine hK _ ?_;clear hK K;refine Aa ?_;refine Ax (t:=false) (by simp[Act.eval]) ?_;simp only[if_true,if_false,Qh];refine Bo ?_;refine Ab ?_;refine Ac ?_;simp only[Sz,Sr,Nat.reduceAdd];iterate 9
  (refine Ad rfl rfl (by decide) rfl λd K hK=>?_
   go_simp;refine hK _ ?_;clear hK K)
 refine Ao (f:=47) (fn:=Tryd.f47) (args:=#[Pt cb 0,Pt tb 0,I (1)]) (Ag _ _) rfl rfl (by decide) rfl (by simp[Act.eval]) Tryd.func47 (by decide) rfl ?_;exact free12 (1) y _ rfl hvw hn HM.out (λv' w' r nn f=>hk _ v v' w' ⟨rfl,rfl,(alC rfl<|alC rfl<|alC rfl<|alC rfl<|alN)⟩ r nn (grefl v) f) _ rfl
theorem give_inF {tb:Nat}(hkn:k<n) (c1:v.cell? ⟨s,1,none⟩=some (.slice (some ⟨sb,0,none⟩) n n)) (c2:v.cell? ⟨sb,k*2+1,none⟩=some (Pt cb 0)) (cs:List Frame)
 (hk:∀ a u v' w',Fl 56 [(0,Pt s 0),(1,Pt tb 0),(2,I k)] a->Rel zn v' w'->Ai Ch v'->Grows v u->Fto tb cb ((Bn 1 0) y).2.1 u v'->GoT zn main Ch Stop (G (gUsed a ((Bn 1 0) y).2.2) cs) w')
 (hvw:Rel zn v w) (hn:Ai Ch v) (hm:Fm tb cb y v) (code:Code) (hc:Tryd.f26.body=some code):
 GoT zn main Ch Stop (G ((base 26).at { tmps:=#[Pt s 0,Pt tb 0,I k]++Array.replicate 53 undef,defers:=[] } [.code code]) cs) w:=by
 have hw0:code=.seq (.region 0 (opsOf (seq1 (Tryd.f26.body.getD .skip))) false) (.scope gS):=by rw[show code=Tryd.f26.body.getD .skip by rw[hc];rfl];exact eGB
 subst hw0;clear hc;have HM:Hid (Fm tb cb y v):=⟨hm⟩
 clear hm;have hkn':(k:Int)<(n:Int):=by omega
 have hkn2:¬ ((k:Int)<0):=by omega
 have hkn3:¬ ((n:Int)<=(k:Int)):=by omega
 have d1:w.cell? ⟨s,1,none⟩=some (.slice (some ⟨sb,0,none⟩) n n):=by rw[hvw.cell?];exact c1
 have d2:w.cell? ⟨sb,k*2+1,none⟩=some (Pt cb 0):=by rw[hvw.cell?];exact c2
 unfold gUsed at hk;simp only[Sy];refine Ab ?_;unfold Tryd.f26 seq1 opsOf;simp only[Qa];refine Ac ?_;simp only[Sz,Sr,Nat.reduceAdd];refine Ad rfl rfl (by decide) rfl λd K hK=>?_;go_simp;refine hK _ ?_;clear hK K;refine Aa ?_;refine Ig (Ag _ _) ?_;generalize hq:Item.inScope gS=q at hk ⊢;rw[eGS];refine Ab ?_;unfold gS Bd Tryd.f26 seq1 seq2;simp only[Qa];refine Ab ?_;refine Ac ?_;simp only[Sz,Sr,Nat.reduceAdd];iterate 11
  (refine Ad rfl rfl (by decide) rfl λd K hK=>?_
   go_simp;refine hK _ ?_;clear hK K)
 refine Aa ?_;refine Ax (t:=false) (by simp[Act.eval,hkn2,hkn3]) ?_;simp only[if_true,if_false,Qh];refine Bo ?_;rw[eG3];refine Ab ?_;refine Ab ?_;unfold gO3 g3 gS Bd Tryd.f26 seq1 seq2 opsOf at hk ⊢;simp only[Qa] at hk ⊢;refine Ac ?_;simp only[Sz,Sr,Nat.reduceAdd];iterate 9
  (refine Ad rfl rfl (by decide) rfl λd K hK=>?_
   go_simp;refine hK _ ?_;clear hK K)
 refine Ao (f:=48) (fn:=Tryd.f48) (args:=#[Pt cb 0,Pt tb 0,I 1,I 0]) (Ag _ _) rfl rfl (by decide) rfl (by simp[Act.eval]) Tryd.func48 (by decide) rfl ?_;exact free14 1 0 y _ rfl hvw hn HM.out (λv' w' r nn f=>hk _ v v' w' ⟨rfl,rfl,(alC rfl<|alC rfl<|alC rfl<|alN)⟩ r nn (grefl v) f) _ rfl
theorem give_lookF {tb:Nat}(c0:v.cell? ⟨s,0,none⟩=some (Pt cb 0)) (hA:Fl 56 [(0,Pt s 0),(1,Pt tb 0),(2,I k)] a) (cs:List Frame)
 (hk:∀ a u v' w',Fl 56 [(0,Pt s 0),(1,Pt tb 0),(2,I k)] a->Rel zn v' w'->Ai Ch v'->Grows v u->Fto tb cb (Bm y).2.1 u v'->GoT zn main Ch Stop (G (gSeen a (Bm y).2.2) cs) w')
 (hvw:Rel zn v w) (hn:Ai Ch v) (hm:Fm tb cb y v):
 GoT zn main Ch Stop (G (gHead a) cs) w:=by
 have HM:Hid (Fm tb cb y v):=⟨hm⟩
 clear hm;unfold gSeen gO5 at hk;obtain ⟨u,rfl,hu⟩:=litF hA;clear hA;simp only[Fls] at hu;unfold gHead;simp only[Qa,lits,Nat.reduceAdd,hu];clear hu;have c0w:w.cell? ⟨s,0,none⟩=some (Pt cb 0):=by rw[hvw.cell?];exact c0
 rw[show (Item.code gL :: Item.inLoop gL :: gE')=Item.code (.block 1 gK) :: Item.inLoop gL :: gE' by rw[<-eGL]];refine Bt ?_;rw[show (Item.inBlock 1 :: Item.inLoop gL :: gE')=gE from rfl,show gK=.seq (seq1 gK) g6 from by kernel_rfl];refine Ab ?_;unfold gK gL g4 g3 gS Bd Tryd.f26 seq1 seq2 Ar Be opsOf at hk;unfold gK gL g4 g3 gS Bd Tryd.f26 seq1 seq2 Ar Be;simp only[Qa] at hk ⊢;refine Ac ?_;simp only[Sz,Sr,Nat.reduceAdd];iterate 5
  (refine Ad rfl rfl (by decide) rfl λd K hK=>?_
   go_simp;refine hK _ ?_;clear hK K)
 refine Ao (f:=44) (fn:=Tryd.f44) (args:=#[Pt cb 0,Pt tb 0]) (Ag _ _) rfl rfl (by decide) rfl (by simp[Act.eval]) Tryd.func44 (by decide) rfl ?_;exact free17 y _ rfl hvw hn HM.out (λv' w' r nn f=>hk _ v v' w' ⟨rfl,rfl,(alC rfl<|alC rfl<|alC rfl<|alN)⟩ r nn (grefl v) f) _ rfl
theorem give_nextF {tb:Nat}(hkn:k<n) (hF:R1.Flds v) (h1:v.cell? ⟨s,1,none⟩=some (.slice (some ⟨sb,0,none⟩) n n)) (h2:v.cell? ⟨sb,k*2,none⟩=some (Pt cb 0)) (hA:Fl 56 [(0,Pt s 0),(1,Pt tb 0),(2,I k)] a) (cs:List Frame)
 (hk:∀ a u v' w',Fl 56 [(0,Pt s 0),(1,Pt tb 0),(2,I k),(7,I x)] a->Rel zn v' w'->Ai Ch v'->Grows v u->Fto tb cb ((Bz (fstI x)) y).2.1 u v'->GoT zn main Ch Stop (G (gStored a ((Bz (fstI x)) y).2.2) cs) w')
 (hvw:Rel zn v w) (hn:Ai Ch v) (hm:Fm tb cb y v):
 GoT zn main Ch Stop (G (gSeen a (I x)) cs) w:=by
 have HM:Hid (Fm tb cb y v):=⟨hm⟩
 clear hm;obtain ⟨u,rfl,hu⟩:=litF hA;clear hA;simp only[Fls] at hu;unfold gSeen;simp only[Qa,lits,Nat.reduceAdd,hu];clear hu;unfold gO5 gK gL g4 g3 gS Bd Tryd.f26 seq1 seq2 Ar Be opsOf;simp only[Qa];walk_nrm
 refine Ad rfl rfl (by decide) rfl λd K hK=>?_;go_simp;refine hK _ ?_;clear hK K;refine Aa ?_;rw[eG6];refine Ab ?_;refine g6_pre s sb n k cb tb x hkn ⟨rfl,rfl,(alC rfl<|alC rfl<|alC rfl<|alC rfl<|alN)⟩ _ cs hF h1 h2 hvw hn (λv4 w4 a' o ho hw hA hvw4 hn4 hg4=>?_);have e43:a'.eval (.tmp 43)=Pt cb 0:=hA.at 43 _ (by simp);have e44:a'.eval (.tmp 44)=Pt tb 0:=hA.at 44 _ (by simp);have e47:a'.eval (.tmp 47)=I (fstI x):=hA.at 47 _ (by simp);have hop:(gO6[12]?).map (·.op)=some (.call { callee:=.value (.func 47),args:=#[.tmp 43,.tmp 44,.tmp 47],argTypes:=#[89,52,3] }):=by kernel_rfl
 have hds:(gO6[12]?).map (·.dst)=some (some 48):=by kernel_rfl
 rw[ho] at hop hds;have hop':=Qd hop;have hds':o.dst=some 48:=Qd hds;refine Ao (f:=47) (fn:=Tryd.f47) (args:=#[Pt cb 0,Pt tb 0,I (fstI x)]) (Ag _ _) ho (hw _) (by simp[base]) hop' (by simp only[List.map_toArray,List.map_cons,List.map_nil,e43,e44,e47]) Tryd.func47 (by decide) rfl ?_;refine free12 (fstI x) y _ ho hvw4 hn4 (HM.out.grow hg4) (λv' w' r nn f=>?_) _ rfl;rw[hds'];exact hk a' v4 v' w' ⟨hA.1,hA.2.1,λp hp=>hA.2.2 p (by simp only[Sm,or_false] at hp ⊢;rcases hp with rfl|rfl|rfl|rfl<;>simp)⟩ r nn hg4 f
theorem push_valF {tb:Nat}(k:Nat) (hkn:k<n) (c1:v.cell? ⟨c,2,none⟩=some (.slice (some ⟨pb,0,none⟩) n n)) (c2:v.cell? ⟨pb,k*2,none⟩=some (Pt cb 0)) (hA:Fl 59 [(0,Pt c 0),(1,Pt tb 0),(2,I x)] a) (cs:List Frame)
 (hk:∀ a u v' w',Fl 59 [(0,Pt c 0),(1,Pt tb 0),(2,I x),(7,I k)] a->Rel zn v' w'->Ai Ch v'->Grows v u->Fto tb cb ((Bz (x)) y).2.1 u v'->GoT zn main Ch Stop (G (pVal a ((Bz (x)) y).2.2) cs) w')
 (hvw:Rel zn v w) (hn:Ai Ch v) (hm:Fm tb cb y v):
 GoT zn main Ch Stop (G (pTook a (.tuple #[I k,I 0])) cs) w:=by
 have HM:Hid (Fm tb cb y v):=⟨hm⟩
 clear hm;unfold pVal pO4 at hk;obtain ⟨u,rfl,hu⟩:=litF hA;clear hA;simp only[Fls] at hu;unfold pTook pO1 p2 pS Bd Tryd.f50 seq1 seq2 opsOf;simp only[Qa,lits,Nat.reduceAdd,hu];clear hu;have hkn':(k:Int)<(n:Int):=by omega
 have d1:w.cell? ⟨c,2,none⟩=some (.slice (some ⟨pb,0,none⟩) n n):=by rw[hvw.cell?];exact c1
 have d2:w.cell? ⟨pb,k*2,none⟩=some (Pt cb 0):=by rw[hvw.cell?];exact c2
 walk_nrm
 iterate 5
  (refine Ad rfl rfl (by decide) rfl λd K hK=>?_
   go_simp;refine hK _ ?_;clear hK K)
 refine Aa ?_;refine Ab ?_;refine Ab ?_;refine Ac ?_;simp only[Sz,Sr,Nat.reduceAdd];iterate 2
  (refine Ad rfl rfl (by decide) rfl λd K hK=>?_
   go_simp;refine hK _ ?_;clear hK K)
 refine Aa ?_;refine Ax (t:=false) (by simp[Act.eval]) ?_;simp only[if_true,if_false,Qh];refine Bo ?_;unfold p4 p2 pS Bd Tryd.f50 seq1 seq2 opsOf at hk;simp only[Qa] at hk;refine Ab ?_;refine Ac ?_;simp only[Sz,Sr,Nat.reduceAdd];iterate 10
  (refine Ad rfl rfl (by decide) rfl λd K hK=>?_
   go_simp;refine hK _ ?_;clear hK K)
 refine Ao (f:=47) (fn:=Tryd.f47) (args:=#[Pt cb 0,Pt tb 0,I (x)]) (Ag _ _) rfl rfl (by decide) rfl (by simp[Act.eval]) Tryd.func47 (by decide) rfl ?_;exact free12 (x) y _ rfl hvw hn HM.out (λv' w' r nn f=>hk _ v v' w' ⟨rfl,rfl,(alC rfl<|alC rfl<|alC rfl<|alC rfl<|alN)⟩ r nn (grefl v) f) _ rfl
theorem push_lookF {tb:Nat}(c0:v.cell? ⟨c,1,none⟩=some (Pt cb 0)) (hA:Fl 59 [(0,Pt c 0),(1,Pt tb 0),(2,I x),(7,I k)] a) (cs:List Frame)
 (hk:∀ a u v' w',Fl 59 [(0,Pt c 0),(1,Pt tb 0),(2,I x),(7,I k)] a->Rel zn v' w'->Ai Ch v'->Grows v u->Fto tb cb (Bm y).2.1 u v'->GoT zn main Ch Stop (G (pSeen a (Bm y).2.2) cs) w')
 (hvw:Rel zn v w) (hn:Ai Ch v) (hm:Fm tb cb y v):
 GoT zn main Ch Stop (G (pHead a) cs) w:=by
 have HM:Hid (Fm tb cb y v):=⟨hm⟩
 clear hm;unfold pSeen at hk;obtain ⟨u,rfl,hu⟩:=litF hA;clear hA;simp only[Fls] at hu;unfold pHead;simp only[Qa,lits,Nat.reduceAdd,hu];clear hu;have c0w:w.cell? ⟨c,1,none⟩=some (Pt cb 0):=by rw[hvw.cell?];exact c0
 rw[show (Item.code pL :: Item.inLoop pL :: pE')=Item.code (.block 1 pK) :: Item.inLoop pL :: pE' by rw[<-ePL]];refine Bt ?_;rw[show (Item.inBlock 1 :: Item.inLoop pL :: pE')=pE from rfl,ePK];refine Ab ?_;unfold pO5 pK pL p5 p4 p2 pS Bd Tryd.f50 seq1 seq2 Ar Be opsOf at hk ⊢;simp only[Qa] at hk ⊢;refine Ac ?_;simp only[Sz,Sr,Nat.reduceAdd];iterate 5
  (refine Ad rfl rfl (by decide) rfl λd K hK=>?_
   go_simp;refine hK _ ?_;clear hK K)
 refine Ao (f:=44) (fn:=Tryd.f44) (args:=#[Pt cb 0,Pt tb 0]) (Ag _ _) rfl rfl (by decide) rfl (by simp[Act.eval]) Tryd.func44 (by decide) rfl ?_;exact free17 y _ rfl hvw hn HM.out (λv' w' r nn f=>hk _ v v' w' ⟨rfl,rfl,(alC rfl<|alC rfl<|alC rfl<|alC rfl<|alN)⟩ r nn (grefl v) f) _ rfl
theorem push_linkF {tb:Nat}(h0:Int) (hkn:k<n) (hF:R1.Flds v) (h1:v.cell? ⟨c,2,none⟩=some (.slice (some ⟨pb,0,none⟩) n n)) (h2:v.cell? ⟨pb,k*2+1,none⟩=some (Pt cb 0)) (hA:Fl 59 [(0,Pt c 0),(1,Pt tb 0),(2,I x),(7,I k)] a) (cs:List Frame)
 (hk:∀ a u v' w',Fl 59 [(0,Pt c 0),(1,Pt tb 0),(2,I x),(7,I k),(9,I h0)] a->Rel zn v' w'->Ai Ch v'->Grows v u->Fto tb cb ((Bz (fstI h0)) y).2.1 u v'->GoT zn main Ch Stop (G (pLink a ((Bz (fstI h0)) y).2.2) cs) w')
 (hvw:Rel zn v w) (hn:Ai Ch v) (hm:Fm tb cb y v):
 GoT zn main Ch Stop (G (pSeen a (I h0)) cs) w:=by
 have HM:Hid (Fm tb cb y v):=⟨hm⟩
 clear hm;obtain ⟨u,rfl,hu⟩:=litF hA;clear hA;simp only[Fls] at hu;unfold pSeen;simp only[Qa,lits,Nat.reduceAdd,hu];clear hu;unfold pO5 pK pL p5 p4 p2 pS Bd Tryd.f50 seq1 seq2 Ar Be opsOf;simp only[Qa];walk_nrm
 refine Ad rfl rfl (by decide) rfl λd K hK=>?_;go_simp;refine hK _ ?_;clear hK K;refine Aa ?_;rw[eP6];refine Ab ?_;refine p6_pre c pb n k cb tb x h0 hkn ⟨rfl,rfl,(alC rfl<|alC rfl<|alC rfl<|alC rfl<|alC rfl<|alN)⟩ _ cs hF h1 h2 hvw hn (λv4 w4 a' o ho hw hA hvw4 hn4 hg4=>?_);have e46:a'.eval (.tmp 46)=Pt cb 0:=hA.at 46 _ (by simp);have e47:a'.eval (.tmp 47)=Pt tb 0:=hA.at 47 _ (by simp);have e50:a'.eval (.tmp 50)=I (fstI h0):=hA.at 50 _ (by simp);have hop:(pO6[12]?).map (·.op)=some (.call { callee:=.value (.func 47),args:=#[.tmp 46,.tmp 47,.tmp 50],argTypes:=#[89,52,3] }):=by kernel_rfl
 have hds:(pO6[12]?).map (·.dst)=some (some 51):=by kernel_rfl
 rw[ho] at hop hds;have hop':=Qd hop;have hds':o.dst=some 51:=Qd hds;refine Ao (f:=47) (fn:=Tryd.f47) (args:=#[Pt cb 0,Pt tb 0,I (fstI h0)]) (Ag _ _) ho (hw _) (by simp[base]) hop' (by simp only[List.map_toArray,List.map_cons,List.map_nil,e46,e47,e50]) Tryd.func47 (by decide) rfl ?_;refine free12 (fstI h0) y _ ho hvw4 hn4 (HM.out.grow hg4) (λv' w' r nn f=>?_) _ rfl;rw[hds'];exact hk a' v4 v' w' ⟨hA.1,hA.2.1,λp hp=>hA.2.2 p (by simp only[Sm,or_false] at hp ⊢;rcases hp with rfl|rfl|rfl|rfl|rfl<;>simp)⟩ r nn hg4 f
theorem pop_lookF {tb:Nat}(c0:v.cell? ⟨c,1,none⟩=some (Pt cb 0)) (hA:Fl 58 [(0,Pt c 0),(1,Pt tb 0)] a) (cs:List Frame)
 (hk:∀ a u v' w',Fl 58 [(0,Pt c 0),(1,Pt tb 0)] a->Rel zn v' w'->Ai Ch v'->Grows v u->Fto tb cb (Bm y).2.1 u v'->GoT zn main Ch Stop (G (K7 a (Bm y).2.2) cs) w')
 (hvw:Rel zn v w) (hn:Ai Ch v) (hm:Fm tb cb y v):
 GoT zn main Ch Stop (G (oHead a) cs) w:=by
 have HM:Hid (Fm tb cb y v):=⟨hm⟩
 clear hm;unfold K7 at hk;obtain ⟨u,rfl,hu⟩:=litF hA;clear hA;simp only[Fls] at hu;unfold oHead;simp only[Qa,lits,Nat.reduceAdd,hu];clear hu;have c0w:w.cell? ⟨c,1,none⟩=some (Pt cb 0):=by rw[hvw.cell?];exact c0
 rw[show (Item.code oL :: Item.inLoop oL :: oE')=Item.code (.block 1 oK) :: Item.inLoop oL :: oE' by rw[<-eOL]];refine Bt ?_;rw[show (Item.inBlock 1 :: Item.inLoop oL :: oE')=oE from rfl,eOK];refine Ab ?_;unfold oO1 oK oL oS Bd Tryd.f51 seq1 seq2 Ar Be opsOf at hk ⊢;simp only[Qa] at hk ⊢;refine Ac ?_;simp only[Sz,Sr,Nat.reduceAdd];iterate 5
  (refine Ad rfl rfl (by decide) rfl λd K hK=>?_
   go_simp;refine hK _ ?_;clear hK K)
 refine Ao (f:=44) (fn:=Tryd.f44) (args:=#[Pt cb 0,Pt tb 0]) (Ag _ _) rfl rfl (by decide) rfl (by simp[Act.eval]) Tryd.func44 (by decide) rfl ?_;exact free17 y _ rfl hvw hn HM.out (λv' w' r nn f=>hk _ v v' w' ⟨rfl,rfl,(alC rfl<|alC rfl<|alN)⟩ r nn (grefl v) f) _ rfl
theorem pop_linkF {tb:Nat}(k:Nat) (hk0:fstI x=(k:Int)+1) (hkn:k<n) (hF:R1.Flds v) (c1:v.cell? ⟨c,2,none⟩=some (.slice (some ⟨pb,0,none⟩) n n)) (c2:v.cell? ⟨pb,k*2+1,none⟩=some (Pt cb 0)) (hA:Fl 58 [(0,Pt c 0),(1,Pt tb 0)] a) (cs:List Frame)
 (hk:∀ a u v' w',Fl 58 [(0,Pt c 0),(1,Pt tb 0),(6,I x),(8,I k)] a->Rel zn v' w'->Ai Ch v'->Grows v u->Fto tb cb (Bm y).2.1 u v'->GoT zn main Ch Stop (G (oLink a (Bm y).2.2) cs) w')
 (hvw:Rel zn v w) (hn:Ai Ch v) (hm:Fm tb cb y v):
 GoT zn main Ch Stop (G (K7 a (I x)) cs) w:=by
 have HM:Hid (Fm tb cb y v):=⟨hm⟩
 clear hm;unfold oLink at hk;obtain ⟨u,rfl,hu⟩:=litF hA;clear hA;simp only[Fls] at hu;unfold K7 oO1 o2 oK oL oS Bd Tryd.f51 seq1 seq2 Ar Be opsOf;simp only[Qa,lits,Nat.reduceAdd,hu];clear hu;have HK0:Hid (fstI x=(k:Int)+1):=⟨hk0⟩
 clear hk0;have g0:w.cell? ⟨2,0,none⟩=some (I 0):=by rw[hvw.cell?];exact hF.c0
 have g1:w.cell? ⟨2,1,none⟩=some (I 32):=by rw[hvw.cell?];exact hF.c1
 walk_nrm
 refine Ad rfl rfl (by decide) rfl λd K hK=>?_;go_simp;refine hK _ ?_;clear hK K;refine Aa ?_;refine Ab ?_;refine Ac ?_;simp only[Sz,Sr,Nat.reduceAdd];iterate 2
  (refine Ad rfl rfl (by decide) rfl λd K hK=>?_
   go_simp;refine hK _ ?_;clear hK K)
 refine Ed (f:=45) (fn:=Tryd.f45) (args:=#[I x,R1.F 0 32]) hE Dn rfl rfl (by decide) rfl (by simp[Act.eval,R1.F]) Tryd.func45 (by kernel_rfl) rfl (Ci Dn (by simp[LT,Dh]) Tryd.func45 rfl) (λtmps=>⟨_,λw=>results_tmp rfl _ _ _,λw=>by simp[results,go_sem,Tryd.f45]⟩) hvw hn
  (R:=λr v4=>r=I (fstI x)∧Grows v v4) (λτ=>?_) (λr v4 w4 hR hvw4 hn4=>?_)
 exact wp_mono (R1.Ew x 0 32 (Ap v τ 0) (by decide) (by decide) (by decide) _ rfl) (Dm λr u hq=>⟨hq.1,gtape (Dv hq.2)⟩);obtain ⟨rfl,hg4⟩:=hR;walk_nrm
 have hne:¬ (fstI x=0):=by have:=HK0.out;omega
 have hwr:IntKind.i64.wrap (fstI x - 1)=(k:Int):=by have:=HK0.out;have hx:=R1.J0 x;rw[IntKind.wrap_i64];omega
 have hkn':(k:Int)<(n:Int):=by omega
 have d1:w4.cell? ⟨c,2,none⟩=some (.slice (some ⟨pb,0,none⟩) n n):=by rw[hvw4.cell?];exact hg4.cell c1
 have d2:w4.cell? ⟨pb,k*2+1,none⟩=some (Pt cb 0):=by rw[hvw4.cell?];exact hg4.cell c2
 refine Ad rfl rfl (by decide) rfl λd K hK=>?_;go_simp;refine hK _ ?_;clear hK K;refine Aa ?_;refine Ab ?_;refine Ab ?_;refine Ac ?_;simp only[Sz,Sr,Nat.reduceAdd];iterate 2
  (refine Ad rfl rfl (by decide) rfl λd K hK=>?_
   go_simp;refine hK _ ?_;clear hK K)
 refine Aa ?_;refine Ax (t:=false) (by simp[Act.eval,hne]) ?_;simp only[if_true,if_false,Qh];refine Bo ?_;refine Ab ?_;refine Ac ?_;simp only[Sz,Sr,Nat.reduceAdd];iterate 3
  (refine Ad rfl rfl (by decide) rfl λd K hK=>?_
   go_simp;refine hK _ ?_;clear hK K)
 refine Aa ?_;refine Ab ?_;unfold oO6 o6 o5 o3 o2 oK oL oS Bd Tryd.f51 seq1 seq2 Ar Be opsOf at hk;simp only[Qa] at hk;refine Ac ?_;simp only[Sz,Sr,Nat.reduceAdd];iterate 9
  (refine Ad rfl rfl (by decide) rfl λd K hK=>?_
   go_simp;refine hK _ ?_;clear hK K)
 refine Ao (f:=44) (fn:=Tryd.f44) (args:=#[Pt cb 0,Pt tb 0]) (Ag _ _) rfl rfl (by decide) rfl (by simp[Act.eval]) Tryd.func44 (by decide) rfl ?_;exact free17 y _ rfl hvw4 hn4 (HM.out.grow hg4) (λv' w' r nn f=>hk _ v4 v' w' ⟨rfl,rfl,(alC rfl<|alC rfl<|alC rfl<|alC rfl<|alN)⟩ r nn hg4 f) _ rfl
theorem pop_valF {tb:Nat}(hkn:k<n) (c1:v.cell? ⟨c,2,none⟩=some (.slice (some ⟨pb,0,none⟩) n n)) (c2:v.cell? ⟨pb,k*2,none⟩=some (Pt cb 0)) (hA:Fl 58 [(0,Pt c 0),(1,Pt tb 0),(6,I x),(8,I k)] a) (cs:List Frame)
 (hk:∀ a u v' w',Fl 58 [(0,Pt c 0),(1,Pt tb 0),(8,I k)] a->Rel zn v' w'->Ai Ch v'->Grows v u->Fto tb cb (Bm y).2.1 u v'->GoT zn main Ch Stop (G (oVal a (Bm y).2.2) cs) w')
 (hvw:Rel zn v w) (hn:Ai Ch v) (hm:Fm tb cb y v):
 GoT zn main Ch Stop (G (oTried a (.bool true)) cs) w:=by
 have HM:Hid (Fm tb cb y v):=⟨hm⟩
 clear hm;unfold oVal at hk;obtain ⟨u,rfl,hu⟩:=litF hA;clear hA;simp only[Fls] at hu;unfold oTried oO7 oC7 o7 o6 o5 o3 o2 oK oL oS Bd Tryd.f51 seq1 seq2 Ar Be opsOf;simp only[Qa,lits,Nat.reduceAdd,hu];clear hu;have hkn':(k:Int)<(n:Int):=by omega
 have d1:w.cell? ⟨c,2,none⟩=some (.slice (some ⟨pb,0,none⟩) n n):=by rw[hvw.cell?];exact c1
 have d2:w.cell? ⟨pb,k*2,none⟩=some (Pt cb 0):=by rw[hvw.cell?];exact c2
 walk_nrm
 refine Ad rfl rfl (by decide) rfl λd K hK=>?_;go_simp;refine hK _ ?_;clear hK K;refine Aa ?_;refine Ax (t:=false) (by simp[Act.eval]) ?_;simp only[if_true,if_false,Qh];refine Bo ?_;rw[eO8];refine Ab ?_;unfold oO8 o8 o7 o6 o5 o3 o2 oK oL oS Bd Tryd.f51 seq1 seq2 Ar Be opsOf at hk ⊢;simp only[Qa] at hk ⊢;refine Ac ?_;simp only[Sz,Sr,Nat.reduceAdd];iterate 9
  (refine Ad rfl rfl (by decide) rfl λd K hK=>?_
   go_simp;refine hK _ ?_;clear hK K)
 refine Ao (f:=44) (fn:=Tryd.f44) (args:=#[Pt cb 0,Pt tb 0]) (Ag _ _) rfl rfl (by decide) rfl (by simp[Act.eval]) Tryd.func44 (by decide) rfl ?_;exact free17 y _ rfl hvw hn HM.out (λv' w' r nn f=>hk _ v v' w' ⟨rfl,rfl,(alC rfl<|alC rfl<|alC rfl<|alN)⟩ r nn (grefl v) f) _ rfl
structure Fk (B:Nat) (v v':World):Prop where
 size:v.heap.size<=v'.heap.size
 old:∀ b,b<B->v'.heap[b]? = v.heap[b]?
 os:v'.os=v.os
 out:v'.output=v.output
theorem Fk.trans {v'':World}(h:Fk B v v') (k:Fk B v' v''):Fk B v v'':=⟨Qk h.size k.size,λb hb=>(k.old b hb).trans (h.old b hb),k.os.trans h.os,k.out.trans h.out⟩
structure Fst (n c s sb rb tb:Nat) (kb:List Nat) (B:Nat) (xs:List Int) (v:World):Prop where
 stk:Stk v c s sb rb n kb
 fld:R1.Flds v
 thr:v.cell? ⟨tb,0,none⟩=some (.pointer none)
 cel:∀ (j cb:Nat) (x:Int),kb[j]? = some cb->xs[j]? = some x->v.heap[cb]? = some (.cells #[I 0,I x] 123 (0,0))
 nd:kb.Nodup
 far:∀ cb∈kb,4<=cb∧cb≠c∧cb≠s∧cb≠sb∧cb≠rb∧cb≠tb∧B<=cb
section
variable {n c s sb rb tb B:Nat}{kb:List Nat}{xs:List Int}{v u v' w:World}
theorem Fst.fm (h:Fst n c s sb rb tb kb B xs v) {j:Nat}(hj:kb[j]? = some cb) (hx:xs[j]? = some x):Fm tb cb x v:=⟨h.thr,λe=>(h.far cb (List.mem_of_getElem? hj)).2.2.2.2.2.1 e.symm,h.cel j cb x hj hx⟩
theorem Stk.of (h:Stk v c s sb rb n kb) (k:∀ a:Addr,a.block=c∨a.block=s∨a.block=sb∨a.block=rb->∀ x,v.cell? a=some x->v'.cell? a=some x):Stk v' c s sb rb n kb:=by
 have k1:∀ o x,v.cell? ⟨c,o,none⟩=some x->v'.cell? ⟨c,o,none⟩=some x:=λo x h=>k _ (.inl rfl) x h;have k2:∀ o x,v.cell? ⟨s,o,none⟩=some x->v'.cell? ⟨s,o,none⟩=some x:=λo x h=>k _ (.inr (.inl rfl)) x h;have k3:∀ o x,v.cell? ⟨sb,o,none⟩=some x->v'.cell? ⟨sb,o,none⟩=some x:=λo x h=>k _ (.inr (.inr (.inl rfl))) x h;have k4:∀ o x,v.cell? ⟨rb,o,none⟩=some x->v'.cell? ⟨rb,o,none⟩=some x:=λo x h=>k _ (.inr (.inr (.inr rfl))) x h;refine ⟨⟨?_,k2 _ _ h.slt.row,λi hi=>?_,λi hi=>?_⟩,k1 _ _ h.slots,?_,k1 _ _ h.row,λi hi=>?_,λi hi=>?_,h.n1⟩;obtain ⟨b,h1,h2⟩:=h.slt.head;exact ⟨b,h1,k2 _ _ h2⟩
 .obtain ⟨b,h1,h2⟩:=h.slt.next i hi;exact ⟨b,h1,k3 _ _ h2⟩
 obtain ⟨b,h1,h2⟩:=h.slt.used i hi;exact ⟨b,h1,k3 _ _ h2⟩;obtain ⟨b,h1,h2⟩:=h.head;exact ⟨b,h1,k1 _ _ h2⟩;obtain ⟨b,h1,h2⟩:=h.value i hi;exact ⟨b,h1,k4 _ _ h2⟩;obtain ⟨b,h1,h2⟩:=h.link i hi;exact ⟨b,h1,k4 _ _ h2⟩
theorem Fst.step (h:Fst n c s sb rb tb kb B xs v) {j cb:Nat}{y:Int}(hj:kb[j]? = some cb) (g:Grows v u) (f:Fto tb cb y u v') (hB:B<=v.heap.size):Fst n c s sb rb tb kb B (xs.set j y) v'∧Fk B v v':=by
 have hf:=h.far cb (List.mem_of_getElem? hj);have kc:∀ a:Addr,a.block≠cb->∀ x,v.cell? a=some x->v'.cell? a=some x:=λa ha x hx=>by rw[World.cell?_of_block (w:=u) (f.old _ ha)];exact g.cell hx
 refine ⟨⟨h.stk.of (λa ha x hx=>kc a (by omega) x hx),?_,f.fm.thr,λi ci x hi hx=>?_,h.nd,h.far⟩,⟨by rw[f.size];exact g.size,λb hb=>?_,f.os.trans g.os,f.out.trans g.output⟩⟩
 .have q:∀ (b o:Nat) (x:Value),b<4->v.cell? ⟨b,o,none⟩=some x->v'.cell? ⟨b,o,none⟩=some x:=λb o x hb hx=>kc _ (by show b≠cb;omega) x hx
  have F:=h.fld;exact ⟨q _ _ _ (by omega) F.a0,q _ _ _ (by omega) F.a1,q _ _ _ (by omega) F.b0,q _ _ _ (by omega) F.b1,q _ _ _ (by omega) F.c0,q _ _ _ (by omega) F.c1,q _ _ _ (by omega) F.d0,q _ _ _ (by omega) F.d1⟩
 .rw[Qq] at hx
  by_cases e:j=i
  .subst e
   rw[hj] at hi;cases hi;split at hx
   .split at hx
    cases hx;exact f.fm.cel;cases hx
   .rename_i hne;exact absurd rfl hne
  .rw[if_neg e] at hx
   have hne:ci≠cb:=λe2=>by subst e2;exact e ((List.getElem?_inj (Qc hj).1 h.nd).1 (hj.trans hi.symm))
   have hc:=h.cel i ci x hi hx;rw[f.old ci hne,g.old ci (Qb hc).1];exact hc
 rw[f.old b (by omega),g.old b (by omega)]
end
theorem Fst.grow {tb:Nat}{kb:List Nat}{xs:List Int}{v1:World}(h:Fst n c s sb rb tb kb B xs v) (g:Grows v v1):Fst n c s sb rb tb kb B xs v1:=⟨h.stk.of (λa _ x hx=>g.cell hx),flds_grows h.fld g,g.cell h.thr,λj cb x hj hx=>by have hc:=h.cel j cb x hj hx;rw[g.old cb (Qb hc).1];exact hc,h.nd,h.far⟩
theorem Fk.grow {v1:World}(g:Grows v v1) (hB:B<=v.heap.size):Fk B v v1:=⟨g.size,λb hb=>g.old b (by omega),g.os,g.output⟩
theorem fpush {tb:Nat}{kb:List Nat}(x:Int) (hx:fstI h0=((0:Nat):Int)+1) (h:Fst 1 c s sb rb tb kb B [h0,nx,us,hd,vl,lk] v) (hB:B<=v.heap.size) (cs:List Frame) (hoc:ops[q]? = some oc) (hvw:Rel zn v w) (hn:Ai Ch v)
 (hk:∀ v' w',Rel zn v' w'->Ai Ch v'->Fst 1 c s sb rb tb kb B [hdI nx (verI h0+1),nx,1,hdI 1 (verI hd+1),x,fstI hd] v'->Fk B v v'->GoT zn main Ch Stop (G (bc.at (ac.put oc.dst (I 0)) (.inRegion ops rest :: k0)) cs) w') (code:Code) (hc:Tryd.f50.body=some code):
 GoT zn main Ch Stop (G ((base 50).at { tmps:=#[Pt c 0,Pt tb 0,I x]++Array.replicate 56 undef,defers:=[] } [.code code]) (bc.at ac (.inRegion ops (q :: rest) :: k0) :: cs)) w:=by
 refine push_in h.stk.slots _ hvw (λap code hc hP=>?_) code hc;refine take_in _ (λa hA=>?_) code hc;obtain ⟨cb1,jb1,cc1⟩:=h.stk.slt.head;refine take_lookF cc1 hA _ (λa1 u1 v1 w1 hA1 r1 n1 gg1 f1=>?_) hvw hn (h.fm jb1 rfl);obtain ⟨h1,k1⟩:=h.step jb1 gg1 f1 hB;have b1:=Qk hB k1.size;have h1:Fst 1 c s sb rb tb kb B [h0,nx,us,hd,vl,lk] v1:=h1;obtain ⟨cb2,jb2,cc2⟩:=h1.stk.slt.next 0 (by decide)
 refine take_nextF 0 hx (by decide) h1.fld h1.stk.slt.row cc2 hA1 _ (λa2 u2 v2 w2 hA2 r2 n2 gg2 f2=>?_) r1 n1 (h1.fm jb2 rfl);obtain ⟨h2,k2⟩:=h1.step jb2 gg2 f2 b1;have b2:=Qk b1 k2.size;have h2:Fst 1 c s sb rb tb kb B [h0,nx,us,hd,vl,lk] v2:=h2;refine take_try nx hA2 _ (λa3 code3 hc3 hA3=>?_);obtain ⟨cb4,jb4,cc4⟩:=h2.stk.slt.head;refine ch46_goF h0 nx h2.fld cc4 _ (λa4 u4 v4 w4 hA4 r4 n4 gg4 f4=>?_) r2 n2 (h2.fm jb4 rfl) code3 hc3;rw[Hy];obtain ⟨h4,k4⟩:=h2.step jb4 gg4 f4 b2;have b4:=Qk b2 k4.size;rw[show (Bn h0 (hdI nx (verI h0+1)) h0).2.1=hdI nx (verI h0+1) by unfold Bn;rw[if_pos rfl]] at h4;have h4:Fst 1 c s sb rb tb kb B [hdI nx (verI h0+1),nx,us,hd,vl,lk] v4:=h4;obtain ⟨oc1,ho1,ho2⟩:=G1 tO6_13;refine Ja (bc:=base 25) (ac:=a3) (ops:=tO6) (q:=13) (rest:=[14]) (oc:=oc1) (k0:=(.code tC6 :: .code t7 :: tE)) true hA4 _ ho1 r4 n4 (λx1 rx1=>?_);rw[ho2];clear ho1 ho2 oc1;obtain ⟨cb5,jb5,cc5⟩:=h4.stk.slt.used 0 (by decide);refine take_wonF (by decide) h4.stk.slt.row cc5 hA3 _ (λa5 u5 v5 w5 hA5 r5 n5 gg5 f5=>?_) rx1 n4 (h4.fm jb5 rfl);obtain ⟨h5,k5⟩:=h4.step jb5 gg5 f5 b4;have b5:=Qk b4 k5.size;have h5:Fst 1 c s sb rb tb kb B [hdI nx (verI h0+1),nx,1,hd,vl,lk] v5:=h5;obtain ⟨oc1,ho1,ho2⟩:=G1 pO1_5;refine take_done (bc:=base 50) (ac:=ap) (ops:=pO1) (q:=5) (rest:=[6,7,8,9,10]) (oc:=oc1) (k0:=(.code p2 :: [.inScope pS])) _ hA5 _ ho1 r5 n5 (λx2 rx2=>?_);rw[ho2];clear ho1 ho2 oc1;obtain ⟨cb6,jb6,cc6⟩:=h5.stk.value 0 (by decide)
 refine push_valF 0 (by decide) h5.stk.row cc6 hP _ (λa6 u6 v6 w6 hA6 r6 n6 gg6 f6=>?_) rx2 n5 (h5.fm jb6 rfl);obtain ⟨h6,k6⟩:=h5.step jb6 gg6 f6 b5;have b6:=Qk b5 k6.size;have h6:Fst 1 c s sb rb tb kb B [hdI nx (verI h0+1),nx,1,hd,x,lk] v6:=h6;refine push_head _ hA6 _ (λa7 hA7p=>?_);obtain ⟨cb7,jb7,cc7⟩:=h6.stk.head;refine push_lookF cc7 hA7p _ (λa8 u7 v7 w7 hA7 r7 n7 gg7 f7=>?_) r6 n6 (h6.fm jb7 rfl);obtain ⟨h7,k7⟩:=h6.step jb7 gg7 f7 b6;have b7:=Qk b6 k7.size;have h7:Fst 1 c s sb rb tb kb B [hdI nx (verI h0+1),nx,1,hd,x,lk] v7:=h7;obtain ⟨cb8,jb8,cc8⟩:=h7.stk.link 0 (by decide);refine push_linkF hd (by decide) h7.fld h7.stk.row cc8 hA7 _ (λa9 u8 v8 w8 hA8 r8 n8 gg8 f8=>?_) r7 n7 (h7.fm jb8 rfl);obtain ⟨h8,k8⟩:=h7.step jb8 gg8 f8 b7;have b8:=Qk b7 k8.size;have h8:Fst 1 c s sb rb tb kb B [hdI nx (verI h0+1),nx,1,hd,x,fstI hd] v8:=h8;refine push_try (by decide) _ hA8 _ (λa10 code4 hc4 hA10=>?_);obtain ⟨cb9,jb9,cc9⟩:=h8.stk.head;refine ch73_goF hd (((0:Nat):Int)+1) h8.fld cc9 _ (λa9 u9 v9 w9 hA9 r9 n9 gg9 f9=>?_) r8 n8 (h8.fm jb9 rfl) code4 hc4;rw[Hy];obtain ⟨h9,k9⟩:=h8.step jb9 gg9 f9 b8;rw[show (Bn hd (hdI (((0:Nat):Int)+1) (verI hd+1)) hd).2.1=hdI 1 (verI hd+1) by unfold Bn;rw[if_pos rfl];rfl] at h9;have h9:Fst 1 c s sb rb tb kb B [hdI nx (verI h0+1),nx,1,hdI 1 (verI hd+1),x,fstI hd] v9:=h9;obtain ⟨oc1,ho1,ho2⟩:=G1 pO7_5
 refine I9 (bc:=base 50) (ac:=a10) (ops:=pO7) (q:=5) (rest:=[6]) (oc:=oc1) (k0:=(.code pC7 :: .code p8 :: pE)) true hA9 _ ho1 r9 n9 (λx3 rx3=>?_);rw[ho2];clear ho1 ho2 oc1;exact push_done (bc:=bc) (ac:=ac) (ops:=ops) (q:=q) (rest:=rest) (oc:=oc) (k0:=k0) hA10 cs hoc rx3 n9 (λw' r'=>hk v9 w' r' n9 h9 (((((((k1.trans k2).trans k4).trans k5).trans k6).trans k7).trans k8).trans k9))
theorem fpush_full {tb:Nat}{kb:List Nat}(x:Int) (hx:fstI h0=0) (h:Fst 1 c s sb rb tb kb B [h0,nx,us,hd,vl,lk] v) (hB:B<=v.heap.size) (cs:List Frame) (hoc:ops[q]? = some oc) (hvw:Rel zn v w) (hn:Ai Ch v)
 (hk:∀ v' w',Rel zn v' w'->Ai Ch v'->Fst 1 c s sb rb tb kb B [h0,nx,us,hd,vl,lk] v'->Fk B v v'->GoT zn main Ch Stop (G (bc.at (ac.put oc.dst (I 80)) (.inRegion ops rest :: k0)) cs) w') (code:Code) (hc:Tryd.f50.body=some code):
 GoT zn main Ch Stop (G ((base 50).at { tmps:=#[Pt c 0,Pt tb 0,I x]++Array.replicate 56 undef,defers:=[] } [.code code]) (bc.at ac (.inRegion ops (q :: rest) :: k0) :: cs)) w:=by
 refine push_in h.stk.slots _ hvw (λap code hc hP=>?_) code hc;refine take_in _ (λa hA=>?_) code hc;obtain ⟨cb1,jb1,cc1⟩:=h.stk.slt.head;refine take_lookF cc1 hA _ (λa1 u1 v1 w1 hA1 r1 n1 gg1 f1=>?_) hvw hn (h.fm jb1 rfl);obtain ⟨h1,k1⟩:=h.step jb1 gg1 f1 hB;have b1:=Qk hB k1.size;have h1:Fst 1 c s sb rb tb kb B [h0,nx,us,hd,vl,lk] v1:=h1;obtain ⟨oc1,ho1,ho2⟩:=G1 pO1_5;refine take_full (bc:=base 50) (ac:=ap) (ops:=pO1) (q:=5) (rest:=[6,7,8,9,10]) (oc:=oc1) (k0:=(.code p2 :: [.inScope pS])) h0 hx h1.fld hA1 _ ho1 r1 n1 (λv2 w2 r2 n2 g2=>?_);rw[ho2];clear ho1 ho2 oc1;exact push_full (bc:=bc) (ac:=ac) (ops:=ops) (q:=q) (rest:=rest) (oc:=oc) (k0:=k0) hP cs hoc r2 n2 (λw' r'=>hk v2 w' r' n2 (h1.grow g2) (k1.trans (.grow g2 b1)))
theorem fpop_empty {tb:Nat}{kb:List Nat}(hx:fstI hd=0) (h:Fst 1 c s sb rb tb kb B [h0,nx,us,hd,vl,lk] v) (hB:B<=v.heap.size) (cs:List Frame) (hoc:ops[q]? = some oc) (hvw:Rel zn v w) (hn:Ai Ch v)
 (hk:∀ v' w',Rel zn v' w'->Ai Ch v'->Fst 1 c s sb rb tb kb B [h0,nx,us,hd,vl,lk] v'->Fk B v v'->GoT zn main Ch Stop (G (bc.at (ac.put oc.dst (.tuple #[I 0,I 90])) (.inRegion ops rest :: k0)) cs) w') (code:Code) (hc:Tryd.f51.body=some code):
 GoT zn main Ch Stop (G ((base 51).at { tmps:=#[Pt c 0,Pt tb 0]++Array.replicate 56 undef,defers:=[] } [.code code]) (bc.at ac (.inRegion ops (q :: rest) :: k0) :: cs)) w:=by
 refine pop_in _ (λa hA=>?_) code hc;obtain ⟨cb1,jb1,cc1⟩:=h.stk.head;refine pop_lookF cc1 hA _ (λa1 u1 v1 w1 hA1 r1 n1 gg1 f1=>?_) hvw hn (h.fm jb1 rfl);obtain ⟨h1,k1⟩:=h.step jb1 gg1 f1 hB;have b1:=Qk hB k1.size;have h1:Fst 1 c s sb rb tb kb B [h0,nx,us,hd,vl,lk] v1:=h1;exact pop_empty (bc:=bc) (ac:=ac) (ops:=ops) (q:=q) (rest:=rest) (oc:=oc) (k0:=k0) hd hx h1.fld hA1 cs hoc r1 n1 (λv2 w2 r2 n2 g2=>hk v2 w2 r2 n2 (h1.grow g2) (k1.trans (.grow g2 b1)))
theorem fpop {tb:Nat}{kb:List Nat}(hx:fstI hd=((0:Nat):Int)+1) (hus:us=1) (h:Fst 1 c s sb rb tb kb B [h0,nx,us,hd,vl,lk] v) (hB:B<=v.heap.size) (cs:List Frame) (hoc:ops[q]? = some oc) (hvw:Rel zn v w) (hn:Ai Ch v)
 (hk:∀ v' w',Rel zn v' w'->Ai Ch v'->Fst 1 c s sb rb tb kb B [hdI 1 (verI h0+1),fstI h0,0,hdI lk (verI hd+1),vl,lk] v'->Fk B v v'->GoT zn main Ch Stop (G (bc.at (ac.put oc.dst (.tuple #[I vl,I 0])) (.inRegion ops rest :: k0)) cs) w') (code:Code) (hc:Tryd.f51.body=some code):
 GoT zn main Ch Stop (G ((base 51).at { tmps:=#[Pt c 0,Pt tb 0]++Array.replicate 56 undef,defers:=[] } [.code code]) (bc.at ac (.inRegion ops (q :: rest) :: k0) :: cs)) w:=by
 refine pop_in _ (λa hA=>?_) code hc;obtain ⟨cb1,jb1,cc1⟩:=h.stk.head;refine pop_lookF cc1 hA _ (λa1 u1 v1 w1 hA1 r1 n1 gg1 f1=>?_) hvw hn (h.fm jb1 rfl);obtain ⟨h1,k1⟩:=h.step jb1 gg1 f1 hB;have b1:=Qk hB k1.size;have h1:Fst 1 c s sb rb tb kb B [h0,nx,us,hd,vl,lk] v1:=h1;obtain ⟨cb2,jb2,cc2⟩:=h1.stk.link 0 (by decide);refine pop_linkF 0 hx (by decide) h1.fld h1.stk.row cc2 hA1 _ (λa2 u2 v2 w2 hA2 r2 n2 gg2 f2=>?_) r1 n1 (h1.fm jb2 rfl);obtain ⟨h2,k2⟩:=h1.step jb2 gg2 f2 b1;have b2:=Qk b1 k2.size;have h2:Fst 1 c s sb rb tb kb B [h0,nx,us,hd,vl,lk] v2:=h2;refine pop_try lk hA2 _ (λa3 code3 hc3 hA3=>?_);obtain ⟨cb4,jb4,cc4⟩:=h2.stk.head;refine ch73_goF hd lk h2.fld cc4 _ (λa4 u4 v4 w4 hA4 r4 n4 gg4 f4=>?_) r2 n2 (h2.fm jb4 rfl) code3 hc3;rw[Hy];obtain ⟨h4,k4⟩:=h2.step jb4 gg4 f4 b2;have b4:=Qk b2 k4.size;rw[show (Bn hd (hdI lk (verI hd+1)) hd).2.1=hdI lk (verI hd+1) by unfold Bn;rw[if_pos rfl]] at h4;have h4:Fst 1 c s sb rb tb kb B [h0,nx,us,hdI lk (verI hd+1),vl,lk] v4:=h4;obtain ⟨oc1,ho1,ho2⟩:=G1 oO7_4;refine I9 (bc:=base 51) (ac:=a3) (ops:=oO7) (q:=4) (rest:=[5]) (oc:=oc1) (k0:=(.code oC7 :: .code o8 :: oE)) true hA4 _ ho1 r4 n4 (λx1 rx1=>?_);rw[ho2];clear ho1 ho2 oc1;obtain ⟨cb5,jb5,cc5⟩:=h4.stk.value 0 (by decide);refine pop_valF (by decide) h4.stk.row cc5 hA3 _ (λa5 u5 v5 w5 hA5 r5 n5 gg5 f5=>?_) rx1 n4 (h4.fm jb5 rfl);obtain ⟨h5,k5⟩:=h4.step jb5 gg5 f5 b4;have b5:=Qk b4 k5.size
 have h5:Fst 1 c s sb rb tb kb B [h0,nx,us,hdI lk (verI hd+1),vl,lk] v5:=h5;refine pop_give vl h5.stk.slots hA5 _ r5 (λao code4 hc4 hO=>?_);obtain ⟨cb6,jb6,cc6⟩:=h5.stk.slt.used 0 (by decide);refine give_inF (by decide) h5.stk.slt.row cc6 _ (λa6 u6 v6 w6 hA6 r6 n6 gg6 f6=>?_) r5 n5 (h5.fm jb6 rfl) code4 hc4;subst hus;rw[Hy];obtain ⟨h6,k6⟩:=h5.step jb6 gg6 f6 b5;have b6:=Qk b5 k6.size;rw[show (Bn 1 0 1).2.1=0 by unfold Bn;rw[if_pos rfl]] at h6;have h6:Fst 1 c s sb rb tb kb B [h0,nx,0,hdI lk (verI hd+1),vl,lk] v6:=h6;refine give_goes hA6 _ (λa7 hA7=>?_);obtain ⟨cb8,jb8,cc8⟩:=h6.stk.slt.head;refine give_lookF cc8 hA7 _ (λa8 u8 v8 w8 hA8 r8 n8 gg8 f8=>?_) r6 n6 (h6.fm jb8 rfl);obtain ⟨h8,k8⟩:=h6.step jb8 gg8 f8 b6;have b8:=Qk b6 k8.size;have h8:Fst 1 c s sb rb tb kb B [h0,nx,0,hdI lk (verI hd+1),vl,lk] v8:=h8;obtain ⟨cb9,jb9,cc9⟩:=h8.stk.slt.next 0 (by decide)
 refine give_nextF (by decide) h8.fld h8.stk.slt.row cc9 hA8 _ (λa9 u9 v9 w9 hA9 r9 n9 gg9 f9=>?_) r8 n8 (h8.fm jb9 rfl);obtain ⟨h9,k9⟩:=h8.step jb9 gg9 f9 b8;have b9:=Qk b8 k9.size;have h9:Fst 1 c s sb rb tb kb B [h0,fstI h0,0,hdI lk (verI hd+1),vl,lk] v9:=h9;refine give_try (by decide) _ hA9 _ (λa10 code5 hc5 hA10=>?_);obtain ⟨cb11,jb11,cc11⟩:=h9.stk.slt.head;refine ch46_goF h0 (((0:Nat):Int)+1) h9.fld cc11 _ (λa11 u11 v11 w11 hA11 r11 n11 gg11 f11=>?_) r9 n9 (h9.fm jb11 rfl) code5 hc5;rw[Hy];obtain ⟨h11,k11⟩:=h9.step jb11 gg11 f11 b9;rw[show (Bn h0 (hdI (((0:Nat):Int)+1) (verI h0+1)) h0).2.1=hdI 1 (verI h0+1) by unfold Bn;rw[if_pos rfl];rfl] at h11;have h11:Fst 1 c s sb rb tb kb B [hdI 1 (verI h0+1),fstI h0,0,hdI lk (verI hd+1),vl,lk] v11:=h11;obtain ⟨oc1,ho1,ho2⟩:=G1 gO7_5;refine Ja (bc:=base 26) (ac:=a10) (ops:=gO7) (q:=5) (rest:=[6]) (oc:=oc1) (k0:=(.code gC7 :: .code g8 :: gE)) true hA11 _ ho1 r11 n11 (λx3 rx3=>?_);rw[ho2];clear ho1 ho2 oc1;obtain ⟨oc1,ho1,ho2⟩:=G1 oO9_6;refine give_done (bc:=base 51) (ac:=ao) (ops:=oO9) (q:=6) (rest:=[]) (oc:=oc1) (k0:=(.code o10 :: oE)) hA10 _ ho1 rx3 n11 (λx4 rx4=>?_);rw[ho2];clear ho1 ho2 oc1;exact pop_done (bc:=bc) (ac:=ac) (ops:=ops) (q:=q) (rest:=rest) (oc:=oc) (k0:=k0) _ hO cs hoc rx4 n11 (λw' r'=>hk v11 w' r' n11 h11 ((((((((k1).trans k2).trans k4).trans k5).trans k6).trans k8).trans k9).trans k11))
end Go.Proofs.YtbbhahigofeacaaDoor.Gen
