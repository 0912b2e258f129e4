/- LatchLinear: whatever the schedule, the number and the scripts, what a latch's calls are told could have been one call behind the other, as chapter 3's own functions say; no conditions. Part 27 of 27. (Joined, by program, and written short, of: La11b, GOpens, La11Row.) -/
import Derived.Test.YtfjjoohflcchnaaLatchLinear19
import Derived.Test.YtfjjoohflcchnaaLatchLinear20
import Derived.Test.YtfjjoohflcchnaaLatchLinear21
import Derived.Test.YtfjjoohflcchnaaLatchLinear26
import Derived.Conc.LeavingOf
import Derived.ProofKit
import Derived.OpenShut
import Derived.ChangeOld
import Derived.SizedLaws
import Derived.Lib.SmallJoins
import Derived.Deep.SlicePairs
import Derived.Test.YtfjjoohflcchnaaRows
set_option linter.unusedSimpArgs false
set_option linter.unusedVariables false
set_option maxHeartbeats 4000000
set_option maxRecDepth 100000
namespace Go.Proofs.Ytfjjoohflcchnaa.Gen
open Go Go.Lift Go.Conc Go.RowKit
theorem run11 (W:World) (n0:Int) (h63:n0≤9223372036854775807) {sp:Option Addr} {sb so scap:Nat} {sched:List Int} (hS:InI W sp sb so sched) {p:Option Addr} {b o n cap:Nat} {pc:Nat→Option Addr} {ln cp rb:Nat→Nat} {cl:Nat→List Cl} (hC:InS W p b o n pc ln cp rb cl) :
 ∃ M last o w' t',runNT Try.prog (M+1) (solo (G (Frame.enter Try.prog 11 #[.slice sp sched.length scap,I n0,.slice p n cap] .normal) []) W) #[]=(.ended o w',t') ∧
   runN Try.prog M (solo (G (Frame.enter Try.prog 11 #[.slice sp sched.length scap,I n0,.slice p n cap] .normal) []) W)=.next last∧step Try.prog last=.ended o w'∧Go.Conc.Good Try.prog (PostT W) last o w' t':=by
 have e:Frame.enter Try.prog 11 #[.slice sp sched.length scap,I n0,.slice p n cap] .normal=(base 11).at { tmps:=#[.slice sp sched.length scap,I n0,.slice p n cap]++Array.replicate 33 undef,defers:=[] } [.code LB11]:=enter_at (fn:=Try.f11) (c:=LB11) _ Try.func11 (by rfl)
 rw [e,solo_eq_crowd]
 have A:Alone #[G ((base 11).at { tmps:=#[.slice sp sched.length scap,I n0,.slice p n cap]++Array.replicate 33 undef,defers:=[] } [.code LB11]) []] W #[] (fun _=>0):=⟨leavers_one _ _,0,Nat.zero_le _,past_nil⟩
 obtain ⟨N1,gs1,a1,w1,sl1,T1,q1,r1,z1,h1,⟨bd,ad,od,qd,rd,oe,kd,⟨d1,rfl⟩,hoe,hback,rfl⟩,A1⟩:=alone_goes A rfl none (Stop:=fun g w'=>∃ (bd:Frame) (ad:Act) (od:Array Oper) (qd:Nat) (rd:List Nat) (oe:Oper) (kd:List Item),(∃ d,w'=W.at d)∧od[qd]? = some oe ∧
  (∀ (Ch:Nat→Prop) (Stop:Goroutine→World→Prop) (w1:World),(∀ a,Fl 36 [(0,.slice sp sched.length scap),(1,I n0),(2,.slice p n cap),(7,.bool true)] a→GoesI Try.prog true (DT (ScZ zn) Ch) Stop (G ((base 11).at a [.code P11]) []) w1)→GoesI Try.prog true (DT (ScZ zn) Ch) Stop (G (bd.at (ad.put oe.dst (.bool true)) (.inRegion od rd :: kd)) []) w1) ∧
  g=G ((base 41).at { tmps:=Array.replicate 36 undef,defers:=[] } [.code B39]) [bd.at ad (.inRegion od (qd :: rd) :: kd)])
  (law11_in _ _ _ (fun w' bd ad od qd rd oe kd hw ho hback=>GoesI.stop fun d=>⟨bd,ad,od,qd,rd,oe,kd,by obtain ⟨d0,rfl⟩:=hw;exact ⟨d,rfl⟩,ho,hback,rfl⟩))
 obtain ⟨N2,gs2,w2,sl2,T2,q2,r2,h2,A2,g2⟩:=tawake_all hoe sl1 A1 h1
 have g2':Grows W w2:=⟨g2.size,g2.old,g2.os,g2.output⟩
 have hS2:=hS.grows g2'
 have hC2:=hC.grows g2'
 obtain ⟨N3,gs3,a3,w3,sl3,T3',q3,r3,z3,h3,⟨wb,bk,sc,bd,ad,od,qd,rd,oe,kd,hnew,hoe3,hend3,rfl⟩,A3⟩:=alone_goes A2 h2 sl2 (Stop:=fun g w'=>∃ (wb bk:Nat) (sc:Value) (bd:Frame) (ad:Act) (od:Array Oper) (qd:Nat) (rd:List Nat) (oe:Oper) (kd:List Item),IsNew w2 sched wb bk sc w'∧od[qd]? = some oe ∧
  (∀ (Ch:Nat→Prop) (Stop:Goroutine→World→Prop) (w2:World) (A:Value) (E:Int),(∀ a,Fl 36 [(1,I n0),(2,.slice p n cap),(7,.bool true),(8,Pt wb 0),(9,A),(10,I E)] a→GoesI Try.prog true (DT (ScZ zn) Ch) Stop (G ((base 11).at a [.code (.seq l11c P11s)]) []) w2) →
    GoesI Try.prog true (DT (ScZ zn) Ch) Stop (G (bd.at (ad.put oe.dst (.tuple #[A,I E])) (.inRegion od rd :: kd)) []) w2) ∧
  g=G ((base 42).at { tmps:=#[Pt wb 0,I n0,.slice p n cap]++Array.replicate 22 undef,defers:=[] } [.code B40]) [bd.at ad (.inRegion od (qd :: rd) :: kd)])
  (hback (fun _=>False) _ w2 (law11_b sp scap sb so sched hS2.at_ hS2.len hS2.cell _ _ (Rel.refl w2) (fun c hc=>hc.elim) (fun v' w' wb bk sc bd ad od qd rd oe kd hr hn hnew ho hend=>GoesI.stop fun d=>⟨wb,bk,sc,bd,ad,od,qd,rd,oe,kd,by
    have e:(w'.at d).heap=v'.heap:=hr.eq
    have hgr:Grows v' (w'.at d):=⟨by rw [e];exact Nat.le_refl _,fun b _=>by rw [e],hr.os,hr.output⟩
    refine ⟨(hnew.mem.grows hgr).mem,?_,hnew.new,⟨by rw [e];exact hnew.old.size,fun b hb=>by rw [e];exact hnew.old.old b hb,hr.os.trans hnew.old.os,hr.output.trans hnew.old.output⟩⟩
    obtain ⟨c,m,h⟩:=hnew.opn
    exact ⟨c,m,by rw [e];exact h⟩,ho,hend,rfl⟩)))
 have g3:Grows W w3:=g2'.trans' hnew.old
 have hC3:=hC2.grows hnew.old
 have fin:∀ (N4:Nat) (gs4:Array Goroutine) (w4:World) (sl4:Option (Nat×Nat)) (T4:Trace) (q4:Nat→Nat) (a4:Goroutine),runNT Try.prog N4 (crowd gs3 w3 sl3) T3'=(.next (crowd gs4 w4 sl4),T4)→gs4[0]? = some a4→Alone gs4 w4 T4 q4→(∃ a' todo,a'.defers=[]∧a'.tmps.getD 6 undef=.bool true∧Grows W w4∧a4=G { (base 11).at a' todo with mode:=.returning } []) →
  ∃ M last o w' t',runNT Try.prog (M+1) (crowd #[G ((base 11).at { tmps:=#[.slice sp sched.length scap,I n0,.slice p n cap]++Array.replicate 33 undef,defers:=[] } [.code LB11]) []] W none) #[]=(.ended o w',t')∧runN Try.prog M (crowd #[G ((base 11).at { tmps:=#[.slice sp sched.length scap,I n0,.slice p n cap]++Array.replicate 33 undef,defers:=[] } [.code LB11]) []] W none)=.next last∧step Try.prog last=.ended o w'∧Go.Conc.Good Try.prog (PostT W) last o w' t':=by
  intro N4 gs4 w4 sl4 T4 q4 a4 r4 h4 A4 ⟨a',todo,hd,h6,g4,ea⟩
  subst ea
  obtain ⟨M5,last,o,w',t',e1,e2,e3,e4⟩:=alone_ends A4 h4 sl4 (Post:=PostT W) (fun B d=>⟨rfl,.bool true,#[],end11 hd h6,fun e he=>by simp at he,rfl,⟨g4.size,g4.old,g4.os,g4.output⟩⟩)
  have hrun:=runNT_then (runNT_then (runNT_then r1 r2) r3) r4
  refine ⟨N1+N2+N3+N4+M5,last,o,w',t',?_,?_,e3,e4⟩
  ·rw [Nat.add_assoc,runNT_add,hrun];exact e1
  ·rw [runN_add,←runNT_fst Try.prog _ _ #[],hrun];exact e2
 by_cases hyes:(∀ k,k<n→ln k≤64)∧(0<n∧n≤8)∧0≤n0
 ·obtain ⟨h64,hn8,hx0⟩:=hyes
  have hl64:∀ j,j<n→(cl j).length≤64:=fun j hj=>by rw [hC.len j hj];exact h64 j hj
  have hlens:∀ caps pk N K,lens (scrs mcLatch 69 caps pk N n K pc ln cp rb cl)≤512:=fun caps pk N K=>Nat.le_trans (lens_scrs _ _ _ _ _ _ _ _ _ _ _ _ hl64) (by omega)
  have hpp:=hC.at_ hn8.1
  subst hpp
  obtain ⟨N4,gs4,w4,sl4,T4,q4,caps,pk,N,cv,K,S',S1,l1,m,p',r4,z4,h4,A4,hK,hnv,hH,hT,O⟩:=tplay_all n0 hx0 (S:=newS wb bk w2.heap.size sc sched) (n:=n) (sb:=b) (so:=o) (cap:=cap) (pc:=pc) (ln:=ln) (cp:=cp) (rb:=rb) (cl:=cl) hoe3 sl3 300000 A3 h3 hnew.mem rfl rfl rfl hnew.opn (asked_of hC2 hnew h64 hn8.1) hn8 (fun caps pk N K=>by
   have:=hlens caps pk N K
   show 0+2*_≤1000000
   omega) (by have:=hS.len;show sched.length≤_;omega) (fun x hx=>hS.inr x hx) (fun _=>.done []) (fun caps pk N cv K hK S1 l1 hH=>play_ends metLatch hH rfl (by rw [scrs_len];exact hn8.2) (hlens caps pk N K) (by decide) rfl)
  obtain ⟨cb,rfl⟩:=K_one hK
  obtain ⟨L,t1,t2,_⟩:=latch_run hx0 h63 (fun _=>rfl) (fun j hj=>⟨hC.len j hj,h64 j hj⟩) hn8.2 hH hT
  have hSn:S'.n=L.length:=by have:=congrArg TS.n hnv;exact this.trans t2
  have hStr:S'.tr=flat L:=by have:=congrArg TS.tr hnv;exact this.trans t1
  have hsm:=play_small metLatch hH hT rfl (by rw [scrs_len];exact hn8.2) (hlens caps pk N _) (by decide) rfl
  have hSw:S'.wb=wb:=by
   have h5:=congrArg TS.wb hnv
   have h6:=(turns_wb hT).trans (hires_wb hH)
   exact h5.trans h6
  have hn1:S'.n≤400000:=by
   have:S'.n=p'.S.n:=by have:=congrArg TS.n hnv;exact this
   omega
  have hg34:∀ b,b<w2.heap.size→w4.heap[b]? = w3.heap[b]?:=fun b hb=>by
   have hs:=hnew.old.size
   exact (O.old b (by omega) (fun h=>by have:=hnew.new b (.inl h);omega) (fun h=>by have:=hnew.new b (.inr h);omega)).1
  have hgW:Grows W w4:=⟨by have:=g3.size;have:=O.size;omega,fun b hb=>by rw [hg34 b (by have:=g2'.size;omega)];exact g3.old b hb,O.os.trans g3.os,O.out.trans g3.output⟩
  have hC4:=hC.grows hgW
  subst hSw
  have hans:R3.SSw 2 R3.ansL w4 (.slice (some ⟨N+1,0,none⟩) n n) (anL n fun i=>(p'.l i).ans):=ss_answers h64 hn8.2 O.rows (fun j hj=>⟨(O.ans j hj).1,(O.ans j hj).2.1⟩)
  have hscr:R3.SSw 4 R3.callL w4 (.slice (some ⟨b,o,none⟩) n cap) (scL n cl):=ss_scripts hC4 h64 hn8.2
  have hX:∀ (u:World) (tv:Value),Grows w4 u→R3.SLw 5 R3.stepL u tv (L.map toStep)→Calls Try.prog 43 #[I 4,I n0,I 2,.slice (some ⟨b,o,none⟩) n cap,.slice (some ⟨N+1,0,none⟩) n n,tv] u fun e w'=>e=.returned (.bool true)∧Below u.heap.size u w':=fun u tv hg ht =>
   R3.explained_any 4 n0 2 (R3.waysC_latch n0) _ _ tv (scL n cl) (anL n fun i=>(p'.l i).ans) (L.map toStep) u (SSw_grows hg hscr) (SSw_grows hg hans) ht (by rw [scL_len];exact hn8.2)
    (fun i=>by
      by_cases hi:i<n
      ·rw [scL_get cl hi,List.length_map,hC.len i hi];exact h64 i hi
      ·rw [List.getD_eq_getElem?_getD,List.getElem?_eq_none (by rw [scL_len];omega)];exact Nat.zero_le _)
    (fun i=>by
      by_cases hi:i<n
      ·rw [anL_get _ hi]
       have:=(O.ans i hi).1
       have:=h64 i hi
       omega
      ·rw [List.getD_eq_getElem?_getD,List.getElem?_eq_none (by rw [anL_len];omega)];exact Nat.zero_le _)
    (by rw [List.length_map];omega)
    (fun hop h12=>latch_lin hx0 h63 (fun _=>rfl) (fun j hj=>⟨hC.len j hj,h64 j hj⟩) hn8.2 hH hT t1 hop h12)
  obtain ⟨N5,gs5,a5,w5,sl5,T5,q5,r5,z5,h5,hs5,A5⟩:=alone_goes A4 h4 sl4 (hend3 (fun _=>False) (fun g w'=>∃ a' todo,a'.defers=[]∧a'.tmps.getD 6 undef=.bool true∧Grows W w'∧g=G { (base 11).at a' todo with mode:=.returning } []) w4 _ 0 (fun a hA=>law11_yes (v:=w4) (S:=S') O.mem.rep hStr hSn hn1 hX (Rel.refl w4) (fun c hc=>hc.elim) (show Fl 36 [(1,I n0),(2,.slice (some ⟨b,o,none⟩) n cap),(8,Pt S'.wb 0),(9,.slice (some ⟨N+1,0,none⟩) n n),(7,.bool true),(10,I 0)] a from hA.sub (by simp)) (fun a' v' w' todo hr hgr hd h6=>GoesI.stop fun d=>⟨a',todo,hd,h6,by
   have e:(w'.at d).heap=v'.heap:=hr.eq
   have:=hgW.trans' hgr
   exact ⟨by rw [e];exact this.size,fun b hb=>by rw [e];exact this.old b hb,hr.os.trans this.os,hr.output.trans this.output⟩,rfl⟩)))
  exact fin _ gs5 w5 sl5 T5 q5 a5 (runNT_then r4 r5) h5 A5 hs5
 ·obtain ⟨E,hE0,hE⟩:∃ E:Int,(E=1∨E=2)∧(Refused n ln E∨((∀ k,k<n→ln k≤64)∧(0<n∧n≤8)∧n0<0∧E=1)):=by
   by_cases h64:∀ k,k<n→ln k≤64
   ·by_cases hn8:0<n∧n≤8
    ·refine ⟨1,.inl rfl,.inr ⟨h64,hn8,?_,rfl⟩⟩
     have:¬ 0≤n0:=fun h=>hyes ⟨h64,hn8,h⟩
     omega
    ·exact ⟨1,.inl rfl,.inl (.inr ⟨h64,by omega,rfl⟩)⟩
   ·refine ⟨2,.inr rfl,.inl (.inl ⟨?_,rfl⟩)⟩
    simp only [Classical.not_forall] at h64
    obtain ⟨k,hk,hk2⟩:=h64
    exact ⟨k,hk,by omega⟩
  obtain ⟨N5,gs5,a5,w5,sl5,T5,q5,r5,z5,h5,hs5,A5⟩:=alone_goes A3 h3 sl3 (Stop:=fun g w'=>∃ a' todo,a'.defers=[]∧a'.tmps.getD 6 undef=.bool true∧Grows W w'∧g=G { (base 11).at a' todo with mode:=.returning } []) (tplay_no (S:=newS wb bk w2.heap.size sc sched) (v:=w3) n0 p n cap pc ln cp (fun k hk=>⟨b,o,hC3.at_ (by omega),hC3.row k hk⟩) hC.n rfl hnew.mem hE [] hoe3 (Rel.refl w3) (fun c hc=>hc.elim) (fun v' w' hr hn e1 e2 e3=>hend3 (fun _=>False) _ w' _ E (fun a hA=>law11_no hE0 hr hn (show Fl 36 [(1,I n0),(2,.slice p n cap),(8,Pt wb 0),(9,.slice none 0 0),(7,.bool true),(10,I E)] a from hA.sub (by simp)) (fun a' v'' w'' todo hr' hgr hd h6=>GoesI.stop fun d=>⟨a',todo,hd,h6,by
   have e:(w''.at d).heap=v''.heap:=hr'.eq
   have:Grows W v':=⟨by rw [e1];exact g3.size,fun b hb=>by rw [e1];exact g3.old b hb,e2.trans g3.os,e3.trans g3.output⟩
   have:=this.trans' hgr
   exact ⟨by rw [e];exact this.size,fun b hb=>by rw [e];exact this.old b hb,hr'.os.trans this.os,hr'.output.trans this.output⟩,rfl⟩))))
  exact fin _ gs5 w5 sl5 T5 q5 a5 r5 h5 A5 hs5
end Go.Proofs.Ytfjjoohflcchnaa.Gen
namespace Go.Proofs.Ytfjjoohflcchnaa.Gen
open Go Go.Lift Go.Conc
open Go.ChangeShapes Go.WideShapes Go.ChangeAt Go.RowKit Go.Joins Go.Deep
theorem op_knob:ownKnob Try.prog.godebug=none:=by kernel_rfl
theorem op_cells3:Try.prog.cellsOf 3=1:=by kernel_rfl
theorem op_cells39:Try.prog.cellsOf 39=4:=by kernel_rfl
theorem op_cells37:Try.prog.cellsOf 37=1:=by kernel_rfl
theorem op_bytes3:Try.prog.bytesOf 3=8:=by kernel_rfl
theorem op_bytes37:Try.prog.bytesOf 37=24:=by kernel_rfl
def clV (c:Cl):List Value:=[I c.po,I c.ca,I c.cb,I c.cc]
theorem inr_of {n:Int} (h:(Lit.int .i64 n).wf=true):InR n:=by
 have:=bounds_i64 h
 unfold InR
 omega
section
variable {H:Type} {enc:TypeId×Value→H} {w:World}
theorem ints_in {r:Reach} {b0:Nat} {v:Value} {d:DataW H} {ps:List MemPlace} (hv:Value.okWide Try.prog w r b0 22 v) (h:DataW.Trod enc Try.prog w 0 (fun _=>true) true 22 v d ps) (hsz:∀ elems spare,d=.slice elems spare→(elems.length+spare.length)*Try.prog.bytesOf 3≤reachBytes) :
 ∃ (p:Option Addr) (cap b o:Nat) (xs:List Int),v=.slice p xs.length cap∧InI w p b o xs:=by
 obtain ⟨a0,len0,cap0,rfl⟩:=okWide_slice Try.underlying22 hv
 obtain ⟨fuel,hf⟩:=h
 rcases open_ints Try.underlying22 Try.underlying3 op_cells3 hf with ⟨hcs,_⟩|⟨x,l,c,zs,hcs,_,hl,hm,hz,hx,hcell,hwf⟩
 ·simp [Value.cells] at hcs
  obtain ⟨rfl,rfl,rfl⟩:=hcs
  exact ⟨none,0,0,0,[],rfl,⟨fun h=>by simp at h,fun k x hk=>by simp at hk,fun x hx=>by simp at hx,Nat.zero_le _⟩⟩
 ·simp [Value.cells] at hcs
  obtain ⟨rfl,rfl,rfl⟩:=hcs
  have hz':zs.length=cap0:=by simpa using hz
  have ht:(zs.take len0).length=len0:=by rw [List.length_take];omega
  have hb:=hsz _ _ (congrArg Prod.fst hx)
  have hlz:∀ (k:IntKind) (l:List Int),(ChangeShapes.lits (H:=H) k l).length=l.length:=fun k l=>by simp [ChangeShapes.lits]
  rw [op_bytes3,hlz,hlz,ht] at hb
  have hlen:len0≤17592186043904:=by unfold reachBytes at hb;omega
  obtain ⟨b,off,spot⟩:=x
  by_cases h0:len0=0
  ·subst h0
   exact ⟨_,_,0,0,[],rfl,⟨fun h=>by simp at h,fun k x hk=>by simp at hk,fun x hx=>by simp at hx,Nat.zero_le _⟩⟩
  ·have hspot:spot=none:=by simpa [Addr.add] using World.cell?_spot (hcell 0 (by omega))
   subst hspot
   refine ⟨_,_,b,off,zs.take len0,by rw [ht],⟨fun _=>rfl,fun i a hi=>?_,fun x hx=>inr_of (hwf x (List.mem_of_mem_take hx)),by rw [ht];exact hlen⟩⟩
   have hil:i<len0:=by have:=(List.getElem?_eq_some_iff.1 hi).1;omega
   have hc:=hcell i (by omega)
   have hadd:(⟨b,off,none⟩:Addr).add i=⟨b,off+i,none⟩:=by unfold Addr.add;split<;>simp_all
   rw [hadd] at hc
   have ha:zs.getD i 0=a:=by
    rw [List.getElem?_take_of_lt hil] at hi
    rw [List.getD_eq_getElem?_getD,hi]
    rfl
   rw [ha] at hc
   exact hc
theorem clV_open:∀ fuel cs (y:DataW H×List MemPlace),cs.length=4→DataW.trod enc Try.prog w 0 (fun _=>true) true fuel 39 cs=some y→∃ a,cs=clV a∧InR a.ca∧a.ok:=by
 intro fuel cs y hl h
 obtain ⟨xs,k,hk,hxy,_,hxl,hf⟩:=DataW.trod_struct Try.underlying39 h
 match xs,hxl,cs,hl with
 | [y0,y1,y2,y3],_,[c0,c1,c2,c3],_ =>
  have g0:=hf 0 _ rfl
  have g1:=hf 1 _ rfl
  have g2:=hf 2 _ rfl
  have g3:=hf 3 _ rfl
  simp [op_cells3] at g0 g1 g2 g3
  obtain ⟨a0,e0,_,f0⟩:=DataW.trod_int Try.underlying3 g0
  obtain ⟨a1,e1,_,f1⟩:=DataW.trod_int Try.underlying3 g1
  obtain ⟨a2,e2,_,f2⟩:=DataW.trod_int Try.underlying3 g2
  obtain ⟨a3,e3,_,f3⟩:=DataW.trod_int Try.underlying3 g3
  simp at e0 e1 e2 e3
  subst e0 e1 e2 e3
  exact ⟨⟨a0,a1,a2,a3⟩,rfl,inr_of f1,inr_of f2,inr_of f3⟩
def Sc (w:World) (v:Value) (q:Option Addr×Nat×Nat×List Cl):Prop :=
 v=.slice q.1 q.2.2.2.length q.2.1∧(0<q.2.2.2.length→q.1=some ⟨q.2.2.1,roOf q.1,none⟩)∧(∀ (k:Nat) (c:Cl),q.2.2.2[k]? = some c→w.cell? ⟨q.2.2.1,roOf q.1+k*4,none⟩=some (I c.po)∧w.cell? ⟨q.2.2.1,roOf q.1+k*4+1,none⟩=some (I c.ca)∧w.cell? ⟨q.2.2.1,roOf q.1+k*4+2,none⟩=some (I c.cb)∧w.cell? ⟨q.2.2.1,roOf q.1+k*4+3,none⟩=some (I c.cc))∧∀ c∈q.2.2.2,InR c.ca∧c.ok
theorem script_in {fuel:Nat} {cs:List Value} {y:DataW H×List MemPlace} (h:DataW.trod enc Try.prog w 0 (fun _=>true) true fuel 37 cs=some y):∃ v q,cs=[v]∧Sc w v q:=by
 rcases open_slice Try.underlying37 h with ⟨hcs,hx⟩|⟨ad,len,cap,m,k,D,Pl,hcs,_,hl,hm,hmm,hxe,hx⟩
 ·exact ⟨_,(none,0,0,[]),hcs,rfl,fun h=>by simp at h,fun k c h=>by simp at h,fun c hc=>by simp at hc⟩
 ·simp only [if_true] at hmm
  subst hmm
  have each:∀ i,i<len→∃ a:Cl,(∀ j,j<4→w.cell? ((ad.add (i*4)).add j)=(clV a)[j]?)∧InR a.ca∧a.ok:=by
   intro i hi
   obtain ⟨cs',h1,h2⟩:=hx i (by omega)
   rw [op_cells39] at h1
   obtain ⟨_,hlen,hc⟩:=World.cells?_some h1
   obtain ⟨a,rfl,ha⟩:=clV_open _ _ _ hlen h2
   exact ⟨a,hc,ha⟩
  have ie:Inhabited Cl:=⟨⟨0,0,0,0⟩⟩
  obtain ⟨q,hq⟩:=choose_lt each
  obtain ⟨b,off,spot⟩:=ad
  by_cases h0:len=0
  ·subst h0
   exact ⟨_,(some ⟨b,off,spot⟩,m,0,[]),hcs,rfl,fun h=>by simp at h,fun k c h=>by simp at h,fun c hc=>by simp at hc⟩
  ·have c01:w.cell? (((⟨b,off,spot⟩:Addr).add (0*4)).add 0)=some (I (q 0).po):=(hq 0 (by omega)).1 0 (by omega)
   have hspot:spot=none:=by
    have:=World.cell?_spot c01
    simpa [Addr.add] using this
   subst hspot
   have hadd:∀ (o j:Nat),(⟨b,o,none⟩:Addr).add j=⟨b,o+j,none⟩:=by intro o j;unfold Addr.add;split<;>simp_all
   refine ⟨_,(some ⟨b,off,none⟩,m,b,(List.range len).map q),hcs,?_,fun _=>rfl,fun i a hi=>?_,fun c hc=>?_⟩
   ·simp
   ·have hil:i<len:=by simpa using (List.getElem?_eq_some_iff.1 hi).1
    have ha:a=q i:=by simp [hil] at hi;exact hi.symm
    subst ha
    have k0:=(hq i hil).1 0 (by omega)
    have k1:=(hq i hil).1 1 (by omega)
    have k2:=(hq i hil).1 2 (by omega)
    have k3:=(hq i hil).1 3 (by omega)
    rw [hadd,hadd] at k0 k1 k2 k3
    exact ⟨k0,k1,k2,k3⟩
   ·obtain ⟨i,hi,rfl⟩:=List.mem_map.1 hc
    exact (hq i (List.mem_range.1 hi)).2
theorem scripts_in {r:Reach} {b0:Nat} {v:Value} {d:DataW H} {ps:List MemPlace} (hv:Value.okWide Try.prog w r b0 23 v) (h:DataW.Trod enc Try.prog w 0 (fun _=>true) true 23 v d ps) (hsz:∀ elems spare,d=.slice elems spare→(elems.length+spare.length)*Try.prog.bytesOf 37≤reachBytes) :
 ∃ (p:Option Addr) (b o n cap:Nat) (pc:Nat→Option Addr) (ln cp rb:Nat→Nat) (cl:Nat→List Cl),v=.slice p n cap∧InS w p b o n pc ln cp rb cl:=by
 obtain ⟨a0,len0,cap0,rfl⟩:=okWide_slice Try.underlying23 hv
 obtain ⟨fuel,hf⟩:=h
 have nothing:∀ p cap,∃ (p':Option Addr) (b o n cap':Nat) (pc:Nat→Option Addr) (ln cp rb:Nat→Nat) (cl:Nat→List Cl),(Value.slice p 0 cap)=.slice p' n cap'∧InS w p' b o n pc ln cp rb cl:=fun p cap =>
  ⟨p,0,0,0,cap,fun _=>none,fun _=>0,fun _=>0,fun _=>0,fun _=>[],rfl,⟨fun h=>by omega,fun k hk=>by omega,fun k hk=>by omega,fun k hk=>by omega,fun k hk=>by omega,fun k hk=>by omega,Nat.zero_le _⟩⟩
 rcases open_slice Try.underlying23 hf with ⟨hcs,_⟩|⟨ad,len,cap,m,k,D,Pl,hcs,_,hl,hm,hmm,hxe,hx⟩
 ·simp [Value.cells] at hcs
  obtain ⟨rfl,rfl,rfl⟩:=hcs
  exact nothing _ _
 ·simp [Value.cells] at hcs
  obtain ⟨rfl,rfl,rfl⟩:=hcs
  simp only [if_true] at hmm
  subst hmm
  have hb:=hsz _ _ (congrArg Prod.fst hxe)
  rw [op_bytes37] at hb
  simp only [List.length_map,List.length_range] at hb
  have hlen:len0≤17592186043904:=by unfold reachBytes at hb;omega
  have each:∀ i,i<len0→∃ q:Option Addr×Nat×Nat×List Cl,∃ v,w.cell? ((ad.add (i*1)).add 0)=some v∧Sc w v q:=by
   intro i hi
   obtain ⟨cs',h1,h2⟩:=hx i (by omega)
   rw [op_cells37] at h1
   obtain ⟨_,hlen,hc⟩:=World.cells?_some h1
   obtain ⟨v,q,rfl,hq⟩:=script_in h2
   exact ⟨q,v,hc 0 (by omega),hq⟩
  have ie:Inhabited (Option Addr×Nat×Nat×List Cl):=⟨(none,0,0,[])⟩
  obtain ⟨q,hq⟩:=choose_lt each
  obtain ⟨b,off,spot⟩:=ad
  by_cases h0:len0=0
  ·subst h0
   exact nothing _ _
  ·obtain ⟨v0,hv0,_⟩:=hq 0 (by omega)
   have hspot:spot=none:=by
    have:=World.cell?_spot hv0
    simpa [Addr.add] using this
   subst hspot
   have hadd:∀ (o j:Nat),(⟨b,o,none⟩:Addr).add j=⟨b,o+j,none⟩:=by intro o j;unfold Addr.add;split<;>simp_all
   refine ⟨some ⟨b,off,none⟩,b,off,len0,_,fun i=>(q i).1,fun i=>(q i).2.2.2.length,fun i=>(q i).2.1,fun i=>(q i).2.2.1,fun i=>(q i).2.2.2,rfl,⟨fun _=>rfl,fun i hi=>?_,fun _ _=>rfl,fun i hi h=>?_,fun i hi k c hc=>?_,fun i hi c hc=>?_,hlen⟩⟩
   ·obtain ⟨v,h1,h2⟩:=hq i hi
    rw [hadd,hadd,Nat.mul_one,h2.1] at h1
    exact h1
   ·obtain ⟨v,h1,h2⟩:=hq i hi
    exact h2.2.1 h
   ·obtain ⟨v,h1,h2⟩:=hq i hi
    exact h2.2.2.1 k c hc
   ·obtain ⟨v,h1,h2⟩:=hq i hi
    exact h2.2.2.2 c hc
end
theorem grows_frame {W w':World} (h:Grows W w') (may:MemPlace→Prop):W.keptBut w' may:=by
 refine ⟨h.os,h.output,fun i hi=>?_⟩
 rw [h.old i hi]
 split<;>simp_all
theorem grows_same {W w':World} (h:Grows W w') {p:MemPlace} (hp:p.block<W.heap.size):W.sameAt w' p:=by
 cases p with
 |cell b o=>exact World.cell?_of_block (w:=W) (h.old b hp)
 |map b=>exact h.old b hp
theorem op_laid:laidOutB Try.prog=true:=by kernel_rfl
theorem grows_trod {H:Type} {enc:TypeId×Value→H} {t:TypeId} (hr:Try.prog.readableRec t=true) (hrow:t<Try.prog.types.size) {W W':World} {v:Value} {d:DataW H} {ps:List MemPlace}
 (h:DataW.Trod enc Try.prog W 0 (fun _=>true) true t v d ps) (hb:Grows W W') (hlt:∀ x∈ps,x.block<W.heap.size) :
 DataW.Trod enc Try.prog W' 0 (fun b=>decide (b<W.heap.size)) true t v d ps :=
 WideElems.Trod_stays op_laid hr hrow h (fun x hx=>grows_same hb (hlt x hx)) (fun x hx=>by simpa using hlt x hx)
end Go.Proofs.Ytfjjoohflcchnaa.Gen
namespace Go.Proofs.Ytfjjoohflcchnaa
open Go Go.Lift Go.Conc
open Go.ChangeShapes Go.WideShapes Go.ChangeAt Go.RowKit Go.Joins Go.Deep
open Gen
theorem latchLinear_lifted (os:Os) (started:os.Started) (H:Type) (enc:TypeId×Value→H) :
 ReturnsInLeavingWide {} Try.checked os 11 .any (Rows.latchLinearSpec.pre6 enc Try.prog Try.f11 Rows.latchLinearRow.domain false) (Rows.latchLinearSpec.post enc Try.prog Try.f11 false true false false):=by
 refine returnsInLeavingWide_of_change_sized (C:=Try.checked) op_knob started Try.func11
  (ChangeSpec.witness6 (enc:=enc) (C:=Try.checked) false ⟨#[],#[.slice none 0 0,.int .i64 0,.slice none 0 0],[]⟩ 8 (by kernel_rfl) (by kernel_rfl) (by kernel_rfl) (by kernel_rfl)) ?_
 intro W base args ds gs before hval0 hW _ hsz0 _
 have hval:∀ (j:Nat) t v,Try.f11.params[j]? = some t→args[j]? = some v→Value.okWide Try.prog W .any base t v:=hval0
 have hW':=hW
 obtain ⟨p,q,hA0,hV,rfl,_,_⟩:=hW
 have hA:DataW.TrodAll enc Try.prog W 0 (fun _=>true) true Try.f11.params.toList args.toList ds p:=hA0
 have hsz:(DataW.weightsEach Try.prog (Try.f11.params.toList++Rows.latchLinearSpec.plain.varTypes Try.prog) (ds++gs)).all (·≤reachBytes)=true:=hsz0
 rw [Try.params11] at hA hval hsz
 obtain ⟨v0,vs0,d0,ds0,p0,q0,hargs,rfl,rfl,h0,r0⟩:=trodAll_cons hA
 obtain ⟨v1,vs1,d1,ds1,p1,q1,rfl,rfl,rfl,h1,r1⟩:=trodAll_cons r0
 obtain ⟨v2,vs2,d2,ds2,p2,q2,rfl,rfl,rfl,h2,r2⟩:=trodAll_cons r1
 obtain ⟨rfl,rfl,rfl⟩:=trodAll_nil r2
 obtain rfl:args=#[v0,v1,v2]:=by cases args;simp_all
 obtain ⟨rfl,rfl⟩:=trodVars_none hV
 have k0:=h0
 have k1:=h1
 have k2:=h2
 have lt0:∀ x∈p0,x.block<W.heap.size:=by obtain ⟨m,hm⟩:=k0;exact DataW.trod_lt m _ _ _ hm
 have lt1:∀ x∈p1,x.block<W.heap.size:=by obtain ⟨m,hm⟩:=k1;exact DataW.trod_lt m _ _ _ hm
 have lt2:∀ x∈p2,x.block<W.heap.size:=by obtain ⟨m,hm⟩:=k2;exact DataW.trod_lt m _ _ _ hm
 obtain ⟨sp,scap,sb,so,sched,e0,hS⟩:=ints_in (hval 0 22 v0 rfl rfl) h0 (fun el sp e=>sized_slice hsz (j:=0) rfl (by rw [e];rfl) Try.underlying22)
 obtain ⟨x0,hx0,j1,j2,j3⟩:=open_int Try.underlying3 (hval 1 3 v1 rfl rfl) h1
 obtain ⟨cp0,b,o,n,cap,pc,ln,cp,rb,cl,e2,hC⟩:=scripts_in (hval 2 23 v2 rfl rfl) h2 (fun el sp e=>sized_slice hsz (j:=2) rfl (by rw [e];rfl) Try.underlying23)
 clear hA0 hval0 hsz0
 subst e0 hx0 e2
 simp only [List.append_nil] at hW'
 obtain ⟨M,last,o',w',t',g1,g2,g3,g4⟩:=run11 (scap:=scap) (cap:=cap) W x0 (by have:=inr_of j3;unfold InR at this;omega) hS hC
 refine ⟨M,last,o',w',t',g1,g2,g3,g4.mono fun v hF=>?_⟩
 obtain ⟨rfl,bel⟩:PostT W v w':=hF
 exact ⟨_,_,_,[],_,[],hW',trodAll_mk1 (shut_bool Try.underlying4 _),
  (trodAll_cons_mk (grows_trod (by kernel_rfl) (of_decide_eq_true (by kernel_rfl)) k0 bel lt0)
  (trodAll_cons_mk (grows_trod (by kernel_rfl) (of_decide_eq_true (by kernel_rfl)) k1 bel lt1)
  (trodAll_cons_mk (grows_trod (by kernel_rfl) (of_decide_eq_true (by kernel_rfl)) k2 bel lt2) trodAll_mk0))),rfl,grows_frame bel _,fun h=>by cases h⟩
theorem latchLinear_holds:Rows.LatchLinearSaid :=
 OpenClaim.holds_of_wide_leaving 11 Try.f11 rfl rfl rfl rfl rfl rfl rfl ⟨rfl,rfl,rfl,rfl,rfl⟩ rfl rfl rfl rfl rfl (by kernel_rfl) Try.func11 (by kernel_rfl)
  (of_decide_eq_true (by kernel_rfl)) (by unfold Func.isWrapper;first|(rw [if_pos (by decide +kernel)];kernel_rfl)|(rw [if_neg (by decide +kernel)];exact ⟨rfl,rfl⟩))
  (fun os started H enc _=>latchLinear_lifted os started H enc)
#print axioms latchLinear_holds
end Go.Proofs.Ytfjjoohflcchnaa
