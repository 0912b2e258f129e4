/- CounterLinear, whatever the schedule, the shards and the scripts: what a Play of counters tells is what calls one behind the other tell, by the document's chapter 3. No conditions. CounterLinear, part 24 of 24: La13b, GOpens, GRowL, La13Row, La13Card. -/
import Derived.Test.YtfjjoohflcchnaaDoorCounterLinear01
import Derived.Test.YtfjjoohflcchnaaDoorCounterLinear14
import Derived.Test.YtfjjoohflcchnaaDoorCounterLinear16
import Derived.Test.YtfjjoohflcchnaaDoorCounterLinear17
import Derived.Test.YtfjjoohflcchnaaDoorCounterLinear18
import Derived.Test.YtfjjoohflcchnaaDoorCounterLinear23
import Derived.Conc.LeavingOf
import Derived.ProofKit
import Derived.OpenShut
import Derived.ChangeOld
import Derived.SizedLaws
import Derived.Lib.SmallJoins
import Derived.Deep.SlicePairs
import Derived.Test.YtfjjoohflcchnaaDoorRows
import Derived.LaidLaws
import Derived.LaidHandle
import Derived.Lay
import Derived.Test.YtfjjoohflcchnaaDoorTie
import Derived.Test.YtfjjoohflcchnaaDoorCards
import Derived.SevenTiedAt
set_option linter.unusedSimpArgs false
set_option linter.unusedVariables false
set_option maxHeartbeats 4000000
set_option maxRecDepth 100000
noncomputable section
namespace Go.Proofs.YtfjjoohflcchnaaDoor.Gen
open Go Go.Lift Go.Conc Go.RowKit
theorem run13 (W:World) (hGl:Gl W) (n0:Int) {sp:Option Addr}{sb so scap:Nat}{sched:List Int}(hS:InI W sp sb so sched) {p:Option Addr}{b o n cap:Nat}{pc:Nat->Option Addr}{ln cp rb:Nat->Nat}{cl:Nat->List Cl}(hC:InS W p b o n pc ln cp rb cl):
 ∃ M last o w' t',runNT Tryd.prog (M+1) (solo (G (Frame.enter Tryd.prog 13 #[.slice sp sched.length scap,I n0,.slice p n cap] .normal) []) W) #[]=(.ended o w',t') ∧
   runN Tryd.prog M (solo (G (Frame.enter Tryd.prog 13 #[.slice sp sched.length scap,I n0,.slice p n cap] .normal) []) W)=.next last∧step Tryd.prog last=.ended o w'∧Go.Conc.Good Tryd.prog (PostT W) last o w' t':=by
 have e:Frame.enter Tryd.prog 13 #[.slice sp sched.length scap,I n0,.slice p n cap] .normal=(base 13).at { tmps:=#[.slice sp sched.length scap,I n0,.slice p n cap]++Array.replicate 40 undef,defers:=[] } [.code LB13]:=enter_at (fn:=Tryd.f13) (c:=LB13) _ Tryd.func13 (by rfl);rw[e,solo_eq_crowd];have A:Alone #[G ((base 13).at { tmps:=#[.slice sp sched.length scap,I n0,.slice p n cap]++Array.replicate 40 undef,defers:=[] } [.code LB13]) []] W #[] (λ_=>0):=⟨leavers_one _ _,0,Nat.zero_le _,past_nil⟩
 obtain ⟨N1,gs1,a1,w1,sl1,T1,q1,r1,z1,h1,⟨bd,ad,od,qd,rd,oe,kd,⟨d1,rfl⟩,hoe,hback,rfl⟩,A1⟩:=alone_goes A rfl none (Stop:=λg w'=>∃ (bd:Frame) (ad:Act) (od:Array Oper) (qd:Nat) (rd:List Nat) (oe:Oper) (kd:List Item),(∃ d,w'=W.at d)∧od[qd]? = some oe ∧
  (∀ (Ch:Nat->Prop) (Stop:Goroutine->World->Prop) (w1:World),(∀ a,Fl 43 [(0,.slice sp sched.length scap),(1,I n0),(2,.slice p n cap),(7,.bool true)] a->GoesI Tryd.prog true (DT (ScZ zn) Ch) Stop (G ((base 13).at a [.code P13]) []) w1)->GoesI Tryd.prog true (DT (ScZ zn) Ch) Stop (G (bd.at (ad.put oe.dst (.bool true)) (.inRegion od rd :: kd)) []) w1) ∧
  g=G ((base 51).at { tmps:=Array.replicate 28 undef,defers:=[] } [.code B51]) [bd.at ad (.inRegion od (qd :: rd) :: kd)])
  (law13_in _ _ _ (λw' bd ad od qd rd oe kd hw ho hback=>GoesI.stop λd=>⟨bd,ad,od,qd,rd,oe,kd,by obtain ⟨d0,rfl⟩:=hw;exact ⟨d,rfl⟩,ho,hback,rfl⟩))
 obtain ⟨N2,gs2,w2,sl2,T2,q2,r2,h2,A2,g2⟩:=cawake_all hoe sl1 A1 (w:=W.at d1) (show Gl (W.at d1) from ⟨hGl.a,hGl.b⟩) h1;have g2':Grows W w2:=⟨g2.size,g2.old,g2.os,g2.output⟩
 have hS2:=hS.grows g2';have hC2:=hC.grows g2';obtain ⟨N3,gs3,a3,w3,sl3,T3',q3,r3,z3,h3,⟨wb,bk,sc,bd,ad,od,qd,rd,oe,kd,hnew,hoe3,hend3,rfl⟩,A3⟩:=alone_goes A2 h2 sl2 (Stop:=λg w'=>∃ (wb bk:Nat) (sc:Value) (bd:Frame) (ad:Act) (od:Array Oper) (qd:Nat) (rd:List Nat) (oe:Oper) (kd:List Item),IsNew w2 sched wb bk sc w'∧od[qd]? = some oe ∧
  (∀ (Ch:Nat->Prop) (Stop:Goroutine->World->Prop) (w2:World) (A:Value) (E:Int),(∀ a,Fl 43 [(1,I n0),(2,.slice p n cap),(7,.bool true),(8,Pt wb 0),(9,A),(10,I E)] a->GoesI Tryd.prog true (DT (ScZ zn) Ch) Stop (G ((base 13).at a [.code (.seq l13c P13s)]) []) w2) ->
    GoesI Tryd.prog true (DT (ScZ zn) Ch) Stop (G (bd.at (ad.put oe.dst (.tuple #[A,I E])) (.inRegion od rd :: kd)) []) w2) ∧
  g=G ((base 52).at { tmps:=#[Pt wb 0,I n0,.slice p n cap]++Array.replicate 25 undef,defers:=[] } [.code B52]) [bd.at ad (.inRegion od (qd :: rd) :: kd)])
  (hback (λ_=>False) _ w2 (law13_b sp scap sb so sched hS2.at_ hS2.len hS2.cell _ _ (Rel.refl w2) (λc hc=>hc.elim) (λv' w' wb bk sc bd ad od qd rd oe kd hr hn hnew ho hend=>GoesI.stop λd=>⟨wb,bk,sc,bd,ad,od,qd,rd,oe,kd,by
    have e:(w'.at d).heap=v'.heap:=hr.eq;have hgr:Grows v' (w'.at d):=⟨by rw[e];exact Qi _,λb _=>by rw[e],hr.os,hr.output⟩
    refine ⟨(hnew.mem.grows hgr).mem,?_,hnew.new,⟨by rw[e];exact hnew.old.size,λb hb=>by rw[e];exact hnew.old.old b hb,hr.os.trans hnew.old.os,hr.output.trans hnew.old.output⟩⟩;obtain ⟨c,m,h⟩:=hnew.opn;exact ⟨c,m,by rw[e];exact h⟩,ho,hend,rfl⟩)))
 have g3:Grows W w3:=g2'.trans' hnew.old;have hC3:=hC2.grows hnew.old;have fin:∀ (N4:Nat) (gs4:Array Goroutine) (w4:World) (sl4:Option (Nat×Nat)) (T4:Trace) (q4:Nat->Nat) (a4:Goroutine),runNT Tryd.prog N4 (crowd gs3 w3 sl3) T3'=(.next (crowd gs4 w4 sl4),T4)->gs4[0]? = some a4->Alone gs4 w4 T4 q4->(∃ a' todo,a'.defers=[]∧a'.tmps.getD 6 undef=.bool true∧Grows W w4∧a4=G { (base 13).at a' todo with mode:=.returning } []) ->
  ∃ M last o w' t',runNT Tryd.prog (M+1) (crowd #[G ((base 13).at { tmps:=#[.slice sp sched.length scap,I n0,.slice p n cap]++Array.replicate 40 undef,defers:=[] } [.code LB13]) []] W none) #[]=(.ended o w',t')∧runN Tryd.prog M (crowd #[G ((base 13).at { tmps:=#[.slice sp sched.length scap,I n0,.slice p n cap]++Array.replicate 40 undef,defers:=[] } [.code LB13]) []] W none)=.next last∧step Tryd.prog last=.ended o w'∧Go.Conc.Good Tryd.prog (PostT W) last o w' t':=by
  intro N4 gs4 w4 sl4 T4 q4 a4 r4 h4 A4 ⟨a',todo,hd,h6,g4,ea⟩;subst ea;obtain ⟨M5,last,o,w',t',e1,e2,e3,e4⟩:=alone_ends A4 h4 sl4 (Post:=PostT W) (λB d=>⟨rfl,.bool true,#[],end13 hd h6,λe he=>by simp at he,rfl,⟨g4.size,g4.old,g4.os,g4.output⟩⟩);have hrun:=runNT_then (runNT_then (runNT_then r1 r2) r3) r4;refine ⟨N1+N2+N3+N4+M5,last,o,w',t',?_,?_,e3,e4⟩;rw[Nat.add_assoc,runNT_add,hrun];exact e1;rw[runN_add,<-runNT_fst Tryd.prog _ _ #[],hrun];exact e2
 by_cases hyes:(∀ k,k<n->ln k<=64)∧(0<n∧n<=8)∧1<=n0∧n0<=16
 .obtain ⟨h64,hn8,hx0,hx1⟩:=hyes
  obtain ⟨s,rfl⟩:∃ s:Nat,n0=(s:Int):=⟨n0.toNat,by omega⟩
  have hs0:0<s:=by omega
  have hs1:s<=16:=by omega
  have hl64:∀ j,j<n->(cl j).length<=64:=λj hj=>by rw[hC.len j hj];exact h64 j hj
  have hlens:∀ caps pk N K,lens (scrs (mcC s) 86 caps pk N n K pc ln cp rb cl)<=512:=λcaps pk N K=>Qk (lens_scrs _ _ _ _ _ _ _ _ _ _ _ _ hl64) (by omega);have hpp:=hC.at_ hn8.1;subst hpp;have hG3:=hGl.grows g3;have hGlt:=hGl.lt;have hpf:∀ b,glP w3 b≠none->¬ Own (newS wb bk w2.heap.size sc sched) [] b∧b≠(newS wb bk w2.heap.size sc sched).bk:=λb hb=>by have hb':=glP_in hb;have hs2:=g2'.size;exact ⟨λh=>by have:=hnew.new b (.inl h);omega,λh=>by have:=hnew.new b (.inr h);omega⟩
  have hcs:((List.range n).map λi=>(cl i).length).sum<=512:=by
   have h1:∀ k,k<=n->((List.range k).map λi=>(cl i).length).sum<=64*k:=λk=>by
    induction k with
    |zero=>intro _;simp
    |succ k ih =>intro hk;rw[List.range_succ,List.map_append,List.sum_append];have h2:=ih (by omega);have h3:=hl64 k (by omega);simp only[List.map_cons,List.map_nil,List.sum_cons,List.sum_nil,Nat.add_zero];omega
   have:=h1 n (Qi _);omega
  obtain ⟨N4,gs4,w4,sl4,T4',q4,caps,pk,N,cv,K,S',S1,l1,m,p',r4,z4,h4,A4,hK,hnv,hH,hT,O⟩:=cplay_all s hs0 hs1 (S:=newS wb bk w2.heap.size sc sched) (n:=n) (sb:=b) (so:=o) (cap:=cap) (pc:=pc) (ln:=ln) (cp:=cp) (rb:=rb) (cl:=cl) hoe3 sl3 320000 A3 h3 hnew.mem rfl rfl rfl hnew.opn (glP_gf hG3) (glP_has w3) hpf (glP_row hG3) (asked_of hC2 hnew h64 hn8.1) hn8 (λcaps pk N K=>by have:=hlens caps pk N K;show 0+2*_<=1000000;omega) (by have:=hS.len;show sched.length<=_;omega) (λx hx=>hS.inr x hx) (λ_=>.done []) (λcaps pk N cv K hK S1 l1 hH=>Mf.play_ends (metC s hs0 hs1) hH rfl (by rw[scrs_len];exact hn8.2) (hlens caps pk N K) (Qi _) rfl)
  have scA:∀ x∈scrs (mcC s) 86 caps pk N n K pc ln cp rb cl,x.ans=List.replicate x.calls.length (0,0):=λx hx=>by simp only[scrs,List.mem_map,List.mem_range'] at hx;obtain ⟨j,⟨i,hi,rfl⟩,rfl⟩:=hx;show List.replicate (ln (0+1*i)) (0,0)=List.replicate (cl (0+1*i)).length (0,0);rw[hC.len _ (by omega)]
  have scC:(scrs (mcC s) 86 caps pk N n K pc ln cp rb cl).map (·.calls)=(List.range' 0 n).map cl:=by unfold scrs;rw[List.map_map];rfl
  obtain ⟨vw,t1,t2,t3,t4,hI,_⟩:=ctr_run (n:=n) (cl:=cl) hs0 hs1 (scrs_len _ _ _ _ _ _ _ _ _ _ _ _) hn8.2 hcs scC scA rfl rfl rfl rfl hK hH hT;have hsm:=Mf.play_small (metC s hs0 hs1) hH hT rfl (by rw[scrs_len];exact hn8.2) (hlens caps pk N _) (Qi _) rfl;generalize vw.L=L at t1 t2;have hSn:S'.n=L.length:=by have:=congrArg TS.n hnv;exact this.trans t2
  have hStr:S'.tr=flat L:=by have:=congrArg TS.tr hnv;exact this.trans t1
  have hSw:S'.wb=wb:=by have h5:=congrArg TS.wb hnv;have h6:=(turns_wb hT).trans (hires_wb hH);exact h5.trans h6
  have hn1:S'.n<=400000:=by
   have:S'.n=p'.S.n:=by have:=congrArg TS.n hnv;exact this
   omega
  have hg34:∀ b,b<w2.heap.size->w4.heap[b]? = w3.heap[b]?:=λb hb=>by have hs:=hnew.old.size;exact (O.old b (by omega) (λh=>by have:=hnew.new b (.inl h);omega) (λh=>by have:=hnew.new b (.inr h);omega)).1
  have hgW:Grows W w4:=⟨by have:=g3.size;have:=O.size;omega,λb hb=>by rw[hg34 b (by have:=g2'.size;omega)];exact g3.old b hb,O.os.trans g3.os,O.out.trans g3.output⟩
  have hC4:=hC.grows hgW;subst hSw;have hans:R3.SSw 2 R3.ansL w4 (.slice (some ⟨N+1,0,none⟩) n n) (anL n λi=>(p'.l i).ans):=ss_answers h64 hn8.2 O.rows (λj hj=>⟨(O.ans j hj).1,(O.ans j hj).2.1⟩);have hscr:R3.SSw 4 R3.callL w4 (.slice (some ⟨b,o,none⟩) n cap) (scL n cl):=ss_scripts hC4 h64 hn8.2;have hX:∀ (u:World) (tv:Value),Grows w4 u->R3.SLw 5 R3.stepL u tv (L.map toStep)->Calls Tryd.prog 24 #[I 3,I 0,I 2,.slice (some ⟨b,o,none⟩) n cap,.slice (some ⟨N+1,0,none⟩) n n,tv] u λe w'=>e=.returned (.bool true)∧Below u.heap.size u w':=λu tv hg ht =>
   R3.explained_any 3 0 2 (R3.waysC_counter 0) _ _ tv (scL n cl) (anL n λi=>(p'.l i).ans) (L.map toStep) u (SSw_grows hg hscr) (SSw_grows hg hans) ht (by rw[scL_len];exact hn8.2)
    (λi=>by by_cases hi:i<n;rw[scL_get cl hi,List.length_map,hC.len i hi];exact h64 i hi;rw[Ql,List.getElem?_eq_none (by rw[scL_len];omega)];exact Nat.zero_le _)
    (fun i=>by
      by_cases hi:i<n
      .rw[anL_get _ hi]
       have:=(O.ans i hi).1;have:=h64 i hi;omega
      rw[Ql,List.getElem?_eq_none (by rw[anL_len];omega)];exact Nat.zero_le _)
    (by rw[List.length_map];omega)
    (λhop h12=>ctr_lin hs0 hs1 (λ_=>rfl) (scrs_len _ _ _ _ _ _ _ _ _ _ _ _) hn8.2 hcs scC scA rfl rfl rfl rfl hK hH hT t1 hop h12)
  obtain ⟨N5,gs5,a5,w5,sl5,T5,q5,r5,z5,h5,hs5,A5⟩:=alone_goes A4 h4 sl4 (hend3 (λ_=>False) (λg w'=>∃ a' todo,a'.defers=[]∧a'.tmps.getD 6 undef=.bool true∧Grows W w'∧g=G { (base 13).at a' todo with mode:=.returning } []) w4 _ 0 (λa hA=>law13_yes (v:=w4) (S:=S') O.mem.rep hStr hSn hn1 hX (Rel.refl w4) (λc hc=>hc.elim) (show Fl 43 [(1,I (s:Int)),(2,.slice (some ⟨b,o,none⟩) n cap),(8,Pt S'.wb 0),(9,.slice (some ⟨N+1,0,none⟩) n n),(7,.bool true),(10,I 0)] a from hA.sub (by simp)) (λa' v' w' todo hr hgr hd h6=>GoesI.stop λd=>⟨a',todo,hd,h6,by
   have e:(w'.at d).heap=v'.heap:=hr.eq;have:=hgW.trans' hgr;exact ⟨by rw[e];exact this.size,λb hb=>by rw[e];exact this.old b hb,hr.os.trans this.os,hr.output.trans this.output⟩,rfl⟩)))
  exact fin _ gs5 w5 sl5 T5 q5 a5 (runNT_then r4 r5) h5 A5 hs5
 .obtain ⟨E,hE0,hE⟩:∃ E:Int,(E=1∨E=2)∧(Refused n ln E∨((∀ k,k<n->ln k<=64)∧(0<n∧n<=8)∧(n0<1∨16<n0)∧E=1)):=by
   by_cases h64:∀ k,k<n->ln k<=64
   .by_cases hn8:0<n∧n<=8
    .refine ⟨1,.inl rfl,.inr ⟨h64,hn8,?_,rfl⟩⟩
     have:¬ (1<=n0∧n0<=16):=λh=>hyes ⟨h64,hn8,h⟩;omega
    exact ⟨1,.inl rfl,.inl (.inr ⟨h64,by omega,rfl⟩)⟩
   .refine ⟨2,.inr rfl,.inl (.inl ⟨?_,rfl⟩)⟩
    simp only[Classical.not_forall] at h64;obtain ⟨k,hk,hk2⟩:=h64;exact ⟨k,hk,by omega⟩
  obtain ⟨N5,gs5,a5,w5,sl5,T5,q5,r5,z5,h5,hs5,A5⟩:=alone_goes A3 h3 sl3 (Stop:=λg w'=>∃ a' todo,a'.defers=[]∧a'.tmps.getD 6 undef=.bool true∧Grows W w'∧g=G { (base 13).at a' todo with mode:=.returning } []) (cplay_no (S:=newS wb bk w2.heap.size sc sched) (v:=w3) n0 p n cap pc ln cp (λk hk=>⟨b,o,hC3.at_ (by omega),hC3.row k hk⟩) hC.n rfl hnew.mem hE [] hoe3 (Rel.refl w3) (λc hc=>hc.elim) (λv' w' hr hn e1 e2 e3=>hend3 (λ_=>False) _ w' _ E (λa hA=>law13_no hE0 hr hn (show Fl 43 [(1,I n0),(2,.slice p n cap),(8,Pt wb 0),(9,.slice none 0 0),(7,.bool true),(10,I E)] a from hA.sub (by simp)) (λa' v'' w'' todo hr' hgr hd h6=>GoesI.stop λd=>⟨a',todo,hd,h6,by
   have e:(w''.at d).heap=v''.heap:=hr'.eq;have:Grows W v':=⟨by rw[e1];exact g3.size,λb hb=>by rw[e1];exact g3.old b hb,e2.trans g3.os,e3.trans g3.output⟩
   have:=this.trans' hgr;exact ⟨by rw[e];exact this.size,λb hb=>by rw[e];exact this.old b hb,hr'.os.trans this.os,hr'.output.trans this.output⟩,rfl⟩))))
  exact fin _ gs5 w5 sl5 T5 q5 a5 r5 h5 A5 hs5
end Go.Proofs.YtfjjoohflcchnaaDoor.Gen
namespace Go.Proofs.YtfjjoohflcchnaaDoor.Gen
open Go Go.Lift Go.Conc
open Go.ChangeShapes Go.WideShapes Go.ChangeAt Go.RowKit Go.Joins Go.Deep
variable {v:Value} {ps:List MemPlace} {W:World}
theorem op_knob:ownKnob Tryd.prog.godebug=none:=by kernel_rfl
theorem op_cells3:Tryd.prog.cellsOf 3=1:=by kernel_rfl
theorem op_cells39:Tryd.prog.cellsOf 35=4:=by kernel_rfl
theorem op_cells37:Tryd.prog.cellsOf 33=1:=by kernel_rfl
theorem op_bytes3:Tryd.prog.bytesOf 3=8:=by kernel_rfl
theorem op_bytes37:Tryd.prog.bytesOf 33=24:=by kernel_rfl
def clV (c:Cl):List Value:=[I c.po,I c.ca,I c.cb,I c.cc]
theorem inr_of {n:Int}(h:(Lit.int .i64 n).wf=true):InR n:=by have:=bounds_i64 h;unfold InR;omega
section
variable {H:Type}{enc:TypeId×Value->H}{w:World}
theorem ints_in {r:Reach}{b0:Nat}{d:DataW H}(hv:Value.okWide Tryd.prog w r b0 22 v) (h:DataW.Trod enc Tryd.prog w 0 (λ_=>true) true 22 v d ps) (hsz:∀ elems spare,d=.slice elems spare->(elems.length+spare.length)*Tryd.prog.bytesOf 3<=reachBytes):
 ∃ (p:Option Addr) (cap b o:Nat) (xs:List Int),v=.slice p xs.length cap∧InI w p b o xs:=by
 obtain ⟨a0,len0,cap0,rfl⟩:=okWide_slice Tryd.underlying22 hv;obtain ⟨fuel,hf⟩:=h;rcases open_ints Tryd.underlying22 Tryd.underlying3 op_cells3 hf with ⟨hcs,_⟩|⟨x,l,c,zs,hcs,_,hl,hm,hz,hx,hcell,hwf⟩
 .simp[Value.cells] at hcs
  obtain ⟨rfl,rfl,rfl⟩:=hcs;exact ⟨none,0,0,0,[],rfl,⟨λh=>by simp at h,λk x hk=>by simp at hk,λx hx=>by simp at hx,Nat.zero_le _⟩⟩
 .simp[Value.cells] at hcs
  obtain ⟨rfl,rfl,rfl⟩:=hcs;have hz':zs.length=cap0:=by simpa using hz
  have ht:(zs.take len0).length=len0:=by rw[List.length_take];omega
  have hb:=hsz _ _ (congrArg Prod.fst hx);have hlz:∀ (k:IntKind) (l:List Int),(ChangeShapes.lits (H:=H) k l).length=l.length:=λk l=>by simp[ChangeShapes.lits]
  rw[op_bytes3,hlz,hlz,ht] at hb;have hlen:len0<=17592186043904:=by unfold reachBytes at hb;omega
  obtain ⟨b,off,spot⟩:=x;by_cases h0:len0=0
  .subst h0
   exact ⟨_,_,0,0,[],rfl,⟨λh=>by simp at h,λk x hk=>by simp at hk,λx hx=>by simp at hx,Nat.zero_le _⟩⟩
  .have hspot:spot=none:=by simpa [Addr.add] using World.cell?_spot (hcell 0 (by omega))
   subst hspot;refine ⟨_,_,b,off,zs.take len0,by rw[ht],⟨λ_=>rfl,λi a hi=>?_,λx hx=>inr_of (hwf x (List.mem_of_mem_take hx)),by rw[ht];exact hlen⟩⟩;have hil:i<len0:=by have:=(Qc hi).1;omega
   have hc:=hcell i (by omega);have hadd:(⟨b,off,none⟩:Addr).add i=⟨b,off+i,none⟩:=by unfold Addr.add;split<;>simp_all
   rw[hadd] at hc;have ha:zs.getD i 0=a:=by rw[List.getElem?_take_of_lt hil] at hi;rw[Ql,hi];rfl
   rw[ha] at hc;exact hc
theorem clV_open:∀ fuel cs (y:DataW H×List MemPlace),cs.length=4->DataW.trod enc Tryd.prog w 0 (λ_=>true) true fuel 35 cs=some y->∃ a,cs=clV a∧InR a.ca∧a.ok:=by
 intro fuel cs y hl h;obtain ⟨xs,k,hk,hxy,_,hxl,hf⟩:=DataW.trod_struct Tryd.underlying35 h
 match xs,hxl,cs,hl with
 | [y0,y1,y2,y3],_,[c0,c1,c2,c3],_ =>have g0:=hf 0 _ rfl;have g1:=hf 1 _ rfl;have g2:=hf 2 _ rfl;have g3:=hf 3 _ rfl;simp[op_cells3] at g0 g1 g2 g3;obtain ⟨a0,e0,_,f0⟩:=DataW.trod_int Tryd.underlying3 g0;obtain ⟨a1,e1,_,f1⟩:=DataW.trod_int Tryd.underlying3 g1;obtain ⟨a2,e2,_,f2⟩:=DataW.trod_int Tryd.underlying3 g2;obtain ⟨a3,e3,_,f3⟩:=DataW.trod_int Tryd.underlying3 g3;simp at e0 e1 e2 e3;subst e0 e1 e2 e3;exact ⟨⟨a0,a1,a2,a3⟩,rfl,inr_of f1,inr_of f2,inr_of f3⟩
def Sc (w:World) (v:Value) (q:Option Addr×Nat×Nat×List Cl):Prop :=
 v=.slice q.1 q.2.2.2.length q.2.1∧(0<q.2.2.2.length->q.1=some ⟨q.2.2.1,roOf q.1,none⟩)∧(∀ (k:Nat) (c:Cl),q.2.2.2[k]? = some c->w.cell? ⟨q.2.2.1,roOf q.1+k*4,none⟩=some (I c.po)∧w.cell? ⟨q.2.2.1,roOf q.1+k*4+1,none⟩=some (I c.ca)∧w.cell? ⟨q.2.2.1,roOf q.1+k*4+2,none⟩=some (I c.cb)∧w.cell? ⟨q.2.2.1,roOf q.1+k*4+3,none⟩=some (I c.cc))∧∀ c∈q.2.2.2,InR c.ca∧c.ok
theorem script_in {fuel:Nat}{cs:List Value}{y:DataW H×List MemPlace}(h:DataW.trod enc Tryd.prog w 0 (λ_=>true) true fuel 33 cs=some y):∃ v q,cs=[v]∧Sc w v q:=by
 rcases open_slice Tryd.underlying33 h with ⟨hcs,hx⟩|⟨ad,len,cap,m,k,D,Pl,hcs,_,hl,hm,hmm,hxe,hx⟩
 exact ⟨_,(none,0,0,[]),hcs,rfl,λh=>by simp at h,λk c h=>by simp at h,λc hc=>by simp at hc⟩
 .simp only[if_true] at hmm
  subst hmm;have each:∀ i,i<len->∃ a:Cl,(∀ j,j<4->w.cell? ((ad.add (i*4)).add j)=(clV a)[j]?)∧InR a.ca∧a.ok:=by intro i hi;obtain ⟨cs',h1,h2⟩:=hx i (by omega);rw[op_cells39] at h1;obtain ⟨_,hlen,hc⟩:=World.cells?_some h1;obtain ⟨a,rfl,ha⟩:=clV_open _ _ _ hlen h2;exact ⟨a,hc,ha⟩
  have ie:Inhabited Cl:=⟨⟨0,0,0,0⟩⟩
  obtain ⟨q,hq⟩:=choose_lt each;obtain ⟨b,off,spot⟩:=ad;by_cases h0:len=0
  .subst h0
   exact ⟨_,(some ⟨b,off,spot⟩,m,0,[]),hcs,rfl,λh=>by simp at h,λk c h=>by simp at h,λc hc=>by simp at hc⟩
  .have c01:w.cell? (((⟨b,off,spot⟩:Addr).add (0*4)).add 0)=some (I (q 0).po):=(hq 0 (by omega)).1 0 (by omega)
   have hspot:spot=none:=by have:=World.cell?_spot c01;simpa [Addr.add] using this
   subst hspot;have hadd:∀ (o j:Nat),(⟨b,o,none⟩:Addr).add j=⟨b,o+j,none⟩:=by intro o j;unfold Addr.add;split<;>simp_all
   refine ⟨_,(some ⟨b,off,none⟩,m,b,(List.range len).map q),hcs,?_,λ_=>rfl,λi a hi=>?_,λc hc=>?_⟩;simp
   .have hil:i<len:=by simpa using (Qc hi).1
    have ha:a=q i:=by simp[hil] at hi;exact hi.symm
    subst ha;have k0:=(hq i hil).1 0 (by omega);have k1:=(hq i hil).1 1 (by omega);have k2:=(hq i hil).1 2 (by omega);have k3:=(hq i hil).1 3 (by omega);rw[hadd,hadd] at k0 k1 k2 k3;exact ⟨k0,k1,k2,k3⟩
   .obtain ⟨i,hi,rfl⟩:=List.mem_map.1 hc
    exact (hq i (List.mem_range.1 hi)).2
theorem scripts_in {r:Reach}{b0:Nat}{d:DataW H}(hv:Value.okWide Tryd.prog w r b0 23 v) (h:DataW.Trod enc Tryd.prog w 0 (λ_=>true) true 23 v d ps) (hsz:∀ elems spare,d=.slice elems spare->(elems.length+spare.length)*Tryd.prog.bytesOf 33<=reachBytes):
 ∃ (p:Option Addr) (b o n cap:Nat) (pc:Nat->Option Addr) (ln cp rb:Nat->Nat) (cl:Nat->List Cl),v=.slice p n cap∧InS w p b o n pc ln cp rb cl:=by
 obtain ⟨a0,len0,cap0,rfl⟩:=okWide_slice Tryd.underlying23 hv;obtain ⟨fuel,hf⟩:=h;have nothing:∀ p cap,∃ (p':Option Addr) (b o n cap':Nat) (pc:Nat->Option Addr) (ln cp rb:Nat->Nat) (cl:Nat->List Cl),(Value.slice p 0 cap)=.slice p' n cap'∧InS w p' b o n pc ln cp rb cl:=λp cap =>⟨p,0,0,0,cap,λ_=>none,λ_=>0,λ_=>0,λ_=>0,λ_=>[],rfl,⟨λh=>by omega,λk hk=>by omega,λk hk=>by omega,λk hk=>by omega,λk hk=>by omega,λk hk=>by omega,Nat.zero_le _⟩⟩
 rcases open_slice Tryd.underlying23 hf with ⟨hcs,_⟩|⟨ad,len,cap,m,k,D,Pl,hcs,_,hl,hm,hmm,hxe,hx⟩
 .simp[Value.cells] at hcs
  obtain ⟨rfl,rfl,rfl⟩:=hcs;exact nothing _ _
 .simp[Value.cells] at hcs
  obtain ⟨rfl,rfl,rfl⟩:=hcs;simp only[if_true] at hmm;subst hmm;have hb:=hsz _ _ (congrArg Prod.fst hxe);rw[op_bytes37] at hb;simp only[List.length_map,List.length_range] at hb;have hlen:len0<=17592186043904:=by unfold reachBytes at hb;omega
  have each:∀ i,i<len0->∃ q:Option Addr×Nat×Nat×List Cl,∃ v,w.cell? ((ad.add (i*1)).add 0)=some v∧Sc w v q:=by intro i hi;obtain ⟨cs',h1,h2⟩:=hx i (by omega);rw[op_cells37] at h1;obtain ⟨_,hlen,hc⟩:=World.cells?_some h1;obtain ⟨v,q,rfl,hq⟩:=script_in h2;exact ⟨q,v,hc 0 (by omega),hq⟩
  have ie:Inhabited (Option Addr×Nat×Nat×List Cl):=⟨(none,0,0,[])⟩
  obtain ⟨q,hq⟩:=choose_lt each;obtain ⟨b,off,spot⟩:=ad;by_cases h0:len0=0
  .subst h0
   exact nothing _ _
  .obtain ⟨v0,hv0,_⟩:=hq 0 (by omega)
   have hspot:spot=none:=by have:=World.cell?_spot hv0;simpa [Addr.add] using this
   subst hspot;have hadd:∀ (o j:Nat),(⟨b,o,none⟩:Addr).add j=⟨b,o+j,none⟩:=by intro o j;unfold Addr.add;split<;>simp_all
   refine ⟨some ⟨b,off,none⟩,b,off,len0,_,λi=>(q i).1,λi=>(q i).2.2.2.length,λi=>(q i).2.1,λi=>(q i).2.2.1,λi=>(q i).2.2.2,rfl,⟨λ_=>rfl,λi hi=>?_,λ_ _=>rfl,λi hi h=>?_,λi hi k c hc=>?_,λi hi c hc=>?_,hlen⟩⟩
   .obtain ⟨v,h1,h2⟩:=hq i hi
    rw[hadd,hadd,Nat.mul_one,h2.1] at h1;exact h1
   .obtain ⟨v,h1,h2⟩:=hq i hi
    exact h2.2.1 h
   .obtain ⟨v,h1,h2⟩:=hq i hi
    exact h2.2.2.1 k c hc
   .obtain ⟨v,h1,h2⟩:=hq i hi
    exact h2.2.2.2 c hc
end
theorem grows_frame {w':World}(h:Grows W w') (may:MemPlace->Prop):W.keptBut w' may:=by refine ⟨h.os,h.output,λi hi=>?_⟩;rw[h.old i hi];split<;>simp_all
theorem grows_same {w':World}(h:Grows W w') {p:MemPlace}(hp:p.block<W.heap.size):W.sameAt w' p:=by
 cases p with
 |cell b o=>exact World.cell?_of_block (w:=W) (h.old b hp)
 |map b=>exact h.old b hp
theorem op_laid:laidOutB Tryd.prog=true:=by kernel_rfl
theorem grows_trod {H:Type}{enc:TypeId×Value->H}{t:TypeId}(hr:Tryd.prog.readableRec t=true) (hrow:t<Tryd.prog.types.size) {W':World}{d:DataW H}
 (h:DataW.Trod enc Tryd.prog W 0 (λ_=>true) true t v d ps) (hb:Grows W W') (hlt:∀ x∈ps,x.block<W.heap.size):
 DataW.Trod enc Tryd.prog W' 0 (λb=>decide (b<W.heap.size)) true t v d ps :=
 WideElems.Trod_stays op_laid hr hrow h (λx hx=>grows_same hb (hlt x hx)) (λx hx=>by simpa using hlt x hx)
end Go.Proofs.YtfjjoohflcchnaaDoor.Gen
namespace Go.Proofs.YtfjjoohflcchnaaDoor
open Go Go.Lift Go.Conc
open Go.ChangeShapes Go.WideShapes Go.ChangeAt Go.RowKit Go.Joins Go.Deep
open Gen
section
variable {H:Type}{enc:TypeId×Value->H}
theorem leaving_and {a:Assume}{C:Checked}{os:Os}{f:FuncId}{fn:Func}{s:ChangeSpec}{X:World->Array Value->Prop}
 (hX:∀ (w w':World) (args:Array Value),w.heap=w'.heap->X w args->X w' args)
 (own:ownKnob C.prog.godebug=none) (started:os.Started) (hfn:C.prog.funcs[f]? = some fn)
 (wit:∃ (w:World) (tape:Tape) (i:Input),w.os=os∧(w.forCall tape i).Shaped C.prog∧i.vars=[]∧Input.okWide C.prog (w.forCall tape i) .any w.heap.size f i ∧
   ((s.pre enc C.prog fn [] false (w.forCall tape i).memory i.args∧X (w.forCall tape i).memory i.args)∧sizedMet enc C.prog fn (OpenSpec.ofChange s) false (w.forCall tape i).memory i.args)∧a.holds C.prog (lone (Frame.enter C.prog f i.args .normal) [] (w.forCall tape i)))
 (runs:∀ (W:World) (base:Nat) (args:Array Value) (ds gs:List (DataW H)) (before:List MemPlace),
   (∀ (j:Nat) t v,fn.params[j]? = some t->args[j]? = some v->Value.okWide C.prog W .any base t v) ->
   DataW.Whole enc C.prog fn.params.toList s.vars false W args.toList ds gs before ->
   (DataW.weightsEach C.prog (fn.params.toList++s.plain.varTypes C.prog) (ds++gs)).all (·<=reachBytes)=true->X W args ->
   ∃ M last o w' t',runNT C.prog (M+1) (solo (G (Frame.enter C.prog f args .normal) []) W) #[]=(.ended o w',t')∧runN C.prog M (solo (G (Frame.enter C.prog f args .normal) []) W)=.next last ∧
     step C.prog last=.ended o w'∧Conc.Good C.prog (λv W'=>s.post enc C.prog fn false true false false W args v W') last o w' t'):
 ReturnsInLeavingWide a C os f .any (λw args=>(s.pre enc C.prog fn [] false w args∧X w args)∧sizedMet enc C.prog fn (OpenSpec.ofChange s) false w args) (s.post enc C.prog fn false true false false):=by
 refine returnsInLeavingWide_of_good own started wit ?_;intro w tape i _ _ _ hok hpre _;obtain ⟨_,_,_,fn',hfn',_,_,_,_,hval⟩:=hok;have e:fn'=fn:=Qd (hfn'.symm.trans hfn);subst e;obtain ⟨⟨⟨ds,gs,before,hw,hc⟩,hx⟩,hz⟩:=hpre;have hw':=DataW.Whole.of_heap (w':=w.forCall tape i) (by rfl) hw;obtain ⟨M,last,o,w',t',h1,h2,h3,h4⟩:=runs (w.forCall tape i) w.heap.size i.args ds gs before hval hw' (hz.weights hw) (hX _ _ _ (by rfl) hx);exact ⟨M,last,o,w',t',h1,h2,h3,h4.mono λv hp=>ChangeSpec.post_blind hp⟩
end
theorem fieldT6:(Tryd.prog.globals[6]?).map (·.type)=some 124:=by kernel_rfl
theorem fieldT7:(Tryd.prog.globals[7]?).map (·.type)=some 124:=by kernel_rfl
theorem cells110:Tryd.prog.cellsOf 124=2:=by kernel_rfl
theorem field_open {w:World}{fuel:Nat}{cs:List Value}{x y:Int}{p:List MemPlace}(h:DataW.trod (λ_=>()) Tryd.prog w 0 (λ_=>true) false fuel 124 cs=some (.agg [.lit (.int .i64 x),.lit (.int .i64 y)],p)):cs=[I x,I y]:=by
 obtain ⟨xs,k,hk,hxy,hl,hxl,hf⟩:=DataW.trod_struct Tryd.underlying124 h;rw[cells110] at hl
 match xs,hxl,cs,hl with
 | [y0,y1],_,[c0,c1],_ =>have g0:=hf 0 _ rfl;have g1:=hf 1 _ rfl;simp[op_cells3] at g0 g1;obtain ⟨a0,e0,f0,_⟩:=DataW.trod_int Tryd.underlying3 g0;obtain ⟨a1,e1,f1,_⟩:=DataW.trod_int Tryd.underlying3 g1;simp at e0 e1;subst e0 e1 f0 f1;simp at hxy;obtain ⟨⟨rfl,rfl⟩,_⟩:=hxy;rfl
theorem var_row {w:World}{n:String}{g:Nat}{cs:Array Value}(hg:Tryd.prog.globalNamed n=some g) (h:w.var? Tryd.prog n=some cs):∃ t f,w.heap[g]? = some (.cells cs t f):=by
 simp only[World.var?,hg,Option.bind_some] at h;split at h
 .rename_i c t f e
  cases h;exact ⟨t,f,e⟩
 cases h
abbrev laidC : List (String × DataW Unit) := [("butler/counter.fieldAmount", Rows.laid_butler_counter_fieldAmount), ("butler/counter.fieldVersion", Rows.laid_butler_counter_fieldVersion)]
theorem gA : Tryd.prog.globalNamed "butler/counter.fieldAmount" = some 6 := by kernel_rfl
theorem gV : Tryd.prog.globalNamed "butler/counter.fieldVersion" = some 7 := by kernel_rfl
theorem gl_laid {W:World}(h:laidMetH Tryd.prog laidC W):Gl W:=by
 have h':laidMet Tryd.prog laidC W:=h;obtain ⟨ps,hv,_,_⟩:=h';obtain ⟨g,t,cs,fuel,p,q,e1,e2,e3,e4,hr,rfl⟩:=hv;obtain ⟨g',t',cs',fuel',p',q',k1,k2,k3,k4,hr',rfl⟩:=hr;obtain rfl:=Qd (gA.symm.trans e1);obtain rfl:=Qd (gV.symm.trans k1);obtain rfl:=Qd (fieldT6.symm.trans e2);obtain rfl:=Qd (fieldT7.symm.trans k2);have f1:=field_open e4;have f2:=field_open k4;obtain ⟨ty,fz,r1⟩:=var_row gA e3;obtain ⟨ty',fz',r2⟩:=var_row gV k3;have c1:cs=#[I 0,I 32]:=by rw[<-f1]
 have c2:cs'=#[I 32,I 30]:=by rw[<-f2]
 subst c1 c2;exact ⟨⟨_,_,_,r1,rfl,rfl⟩,⟨_,_,_,r2,rfl,rfl⟩⟩
def laidW13 (os:Os):World:=World.laidAll Tryd.prog os laidC
theorem laidW13_met (os:Os) (args:Array Value):laidMetH Tryd.prog laidC ((laidW13 os).forCall (λ_ _=>0) ⟨#[],args,[]⟩).memory:=laidMet_laidAll (laid:=laidC) args (by kernel_rfl) (by kernel_rfl)
theorem counterLinear_lifted (os:Os) (started:os.Started) (H:Type) (enc:TypeId×Value->H):
 ReturnsInLeavingWide {} Tryd.checked os 13 .any (λw args=>(Rows.counterLinearSpec.pre enc Tryd.prog Tryd.f13 [] false w args∧laidMetH Tryd.prog laidC w)∧sizedMet enc Tryd.prog Tryd.f13 (OpenSpec.ofChange Rows.counterLinearSpec) false w args) (Rows.counterLinearSpec.post enc Tryd.prog Tryd.f13 false true false false):=by
 refine leaving_and (C:=Tryd.checked) (X:=λw _=>laidMetH Tryd.prog laidC w) (λ_ _ _ hh h=>laidMet.of_heap (l:=laidC) hh h) op_knob started Tryd.func13
  (ChangeSpec.witness_at (enc:=enc) (C:=Tryd.checked) (os:=os) (X:=λw _=>laidMetH Tryd.prog laidC w) false (laidW13 os) #[.slice none 0 0,.int .i64 0,.slice none 0 0] 8 (World.laidAll_os _ _ _) (by kernel_rfl) (by kernel_rfl) (by kernel_rfl) (by kernel_rfl) (by kernel_rfl) (laidW13_met os _)) ?_
 intro W base args ds gs before hval0 hW hsz0 hL;have hval:∀ (j:Nat) t v,Tryd.f13.params[j]? = some t->args[j]? = some v->Value.okWide Tryd.prog W .any base t v:=hval0;have hW':=hW;obtain ⟨p,q,hA0,hV,rfl,_,_⟩:=hW;have hA:DataW.TrodAll enc Tryd.prog W 0 (λ_=>true) true Tryd.f13.params.toList args.toList ds p:=hA0;have hsz:(DataW.weightsEach Tryd.prog (Tryd.f13.params.toList++Rows.counterLinearSpec.plain.varTypes Tryd.prog) (ds++gs)).all (·<=reachBytes)=true:=hsz0;rw[Tryd.params13] at hA hval hsz;obtain ⟨v0,vs0,d0,ds0,p0,q0,hargs,rfl,rfl,h0,r0⟩:=trodAll_cons hA;obtain ⟨v1,vs1,d1,ds1,p1,q1,rfl,rfl,rfl,h1,r1⟩:=trodAll_cons r0;obtain ⟨v2,vs2,d2,ds2,p2,q2,rfl,rfl,rfl,h2,r2⟩:=trodAll_cons r1;obtain ⟨rfl,rfl,rfl⟩:=trodAll_nil r2;obtain rfl:args=#[v0,v1,v2]:=by cases args;simp_all
 obtain ⟨rfl,rfl⟩:=trodVars_none hV;have k0:=h0;have k1:=h1;have k2:=h2;have lt0:∀ x∈p0,x.block<W.heap.size:=by obtain ⟨m,hm⟩:=k0;exact DataW.trod_lt m _ _ _ hm
 have lt1:∀ x∈p1,x.block<W.heap.size:=by obtain ⟨m,hm⟩:=k1;exact DataW.trod_lt m _ _ _ hm
 have lt2:∀ x∈p2,x.block<W.heap.size:=by obtain ⟨m,hm⟩:=k2;exact DataW.trod_lt m _ _ _ hm
 obtain ⟨sp,scap,sb,so,sched,e0,hS⟩:=ints_in (hval 0 22 v0 rfl rfl) h0 (λel sp e=>sized_slice hsz (j:=0) rfl (by rw[e];rfl) Tryd.underlying22);obtain ⟨x0,hx0,j1,j2,j3⟩:=open_int Tryd.underlying3 (hval 1 3 v1 rfl rfl) h1;obtain ⟨cp0,b,o,n,cap,pc,ln,cp,rb,cl,e2,hC⟩:=scripts_in (hval 2 23 v2 rfl rfl) h2 (λel sp e=>sized_slice hsz (j:=2) rfl (by rw[e];rfl) Tryd.underlying23);clear hA0 hval0 hsz0;subst e0 hx0 e2;simp only[List.append_nil] at hW';obtain ⟨M,last,o',w',t',g1,g2,g3,g4⟩:=run13 (scap:=scap) (cap:=cap) W (gl_laid hL) x0 hS hC;refine ⟨M,last,o',w',t',g1,g2,g3,g4.mono λv hF=>?_⟩;obtain ⟨rfl,bel⟩:PostT W v w':=hF;exact ⟨_,_,_,[],_,[],hW',trodAll_mk1 (shut_bool Tryd.underlying4 _),
  (trodAll_cons_mk (grows_trod (by kernel_rfl) (of_decide_eq_true (by kernel_rfl)) k0 bel lt0)
  (trodAll_cons_mk (grows_trod (by kernel_rfl) (of_decide_eq_true (by kernel_rfl)) k1 bel lt1)
  (trodAll_cons_mk (grows_trod (by kernel_rfl) (of_decide_eq_true (by kernel_rfl)) k2 bel lt2) trodAll_mk0))),rfl,grows_frame bel _,λh=>by cases h⟩
theorem counterLinear_holds:Rows.CounterLinearSaid :=
 OpenClaim.holds_of_wide_leaving 13 Tryd.f13 rfl rfl rfl rfl rfl rfl rfl ⟨rfl,rfl,rfl,rfl,rfl⟩ rfl rfl rfl rfl rfl (by kernel_rfl) Tryd.func13 (by kernel_rfl)
  (of_decide_eq_true (by kernel_rfl)) (by unfold Func.isWrapper;first|(rw[if_pos (by decide +kernel)];kernel_rfl)|(rw[if_neg (by decide +kernel)];exact ⟨rfl,rfl⟩))
  (λos started H enc _=>counterLinear_lifted os started H enc)
end Go.Proofs.YtfjjoohflcchnaaDoor
namespace Go.Proofs.YtfjjoohflcchnaaDoor
open Go
theorem card_goes13 {p:Pinned}{s:OpenSpec}{c:OpenClaim}{kinds:List LaidKind}{tests:Bool}{har:Bool×String}{lk:Bool}(Lk:Looks)
 (hc:c.holds p s) (hw:c.wfByText s=true) (htie:c.laidByTextAt Lk p kinds tests)
 (hst:c.start=.entering) (hnb:c.noBlocks=false∧c.again=false) (hm:p.checked.prog.mainIs=some (har.1,har.2.toList)) (hn:(!har.1&&har.2.isEmpty&&!lk)=false)
 (hl:∀ f fn,p.checked.prog.funcNamed c.func=some f->p.checked.prog.funcs[f]? = some fn->lk=p.checked.prog.looks []∧∀ (j:Nat) t,fn.params[j]? = some t->p.checked.prog.wantsStandIn t=false)
 (hg:true=c.goesBy p.checked.prog):
 Claim7.holds p (.plain s) { stood:={ row:=c,standIns:=[],harness:=har,looks:=lk },kinds:=[],alts:=[],goes:=true,laidByText:=true,laidKinds:=kinds,laidTests:=tests,laidLooks:=Lk }:=by
 have h6:Claim7.isSixth { stood:={ row:=c,standIns:=[],harness:=har,looks:=lk },kinds:=[] }=false:=by simpa [Claim7.isSixth] using hn
 have h1:=Claim7.new_of_sixth hc har lk hst hnb hm h6 hl;obtain ⟨_,rest⟩:=h1;exact ⟨⟨hw,rest⟩,λD hD=>(by cases hD),htie,(λh=>by cases h),hg⟩
theorem counterLinear_card:Rows.CounterLinearCardSaid :=
 card_goes13 .later counterLinear_holds (by kernel_rfl) counterLinear_row_tie rfl ⟨rfl,rfl⟩ (by kernel_rfl) rfl
  (fun f fn hf hfn=>by
    obtain rfl : f = 13 := Qd ((show Tryd.prog.funcNamed "butler/butlerlaw10.CounterLinear" = some 13 by kernel_rfl).symm.trans hf) |>.symm
    obtain rfl:fn=Tryd.f13:=(Qd (Tryd.func13.symm.trans hfn)).symm;exact ⟨by kernel_rfl,λj t ht=>by
     rw[Tryd.params13] at ht;have hm:t∈[22,3,23]:=by simpa using Array.mem_of_getElem? ht
     have hall:([22,3,23].all λu=>!Tryd.prog.wantsStandIn u)=true:=by kernel_rfl
     exact (show Tryd.prog.wantsStandIn t=false by simpa using List.all_eq_true.1 hall t hm)⟩)
  (by kernel_rfl)
#print axioms counterLinear_card
end Go.Proofs.YtfjjoohflcchnaaDoor
