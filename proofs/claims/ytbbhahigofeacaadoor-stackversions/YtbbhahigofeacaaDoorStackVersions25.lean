/- Of the proof of StackVersions. Part 25 of 34. (Joined, by program, and written short, of: StV3, GWp, GRK, GL12, GEnd, GIns, GWb, GFin.) -/
import Derived.Test.YtbbhahigofeacaaDoorStackVersions12
import Derived.Test.YtbbhahigofeacaaDoorStackVersions15
import Derived.Test.YtbbhahigofeacaaDoorStackVersions18
import Derived.Test.YtbbhahigofeacaaDoorStackVersions24
import Derived.Deep.LoopGhost
import Derived.Deep.OwnRows
import Derived.Deep.RegionWith
import Derived.Deep.RegionHeld3
import Derived.BigQuiet
set_option linter.unusedSimpArgs false
set_option linter.unusedVariables false
set_option maxHeartbeats 4000000
set_option maxRecDepth 100000
namespace Go.Proofs.YtbbhahigofeacaaDoor.Gen
open Go Go.Lift Go.Conc Go.RowKit
open R1 (fstI verI hdI)
open Go.ConcN (upd upd_same upd_ne)
theorem hi_v {n k:Nat} {cs:List (List Cl)} {v v':Vw} (h:Hi (mcT n) k cs v v'):(∀ s∈v.L,s.ce=-1)→(∀ i,i<k→SeatV vr0 i (v.l i))→(∀ s∈v'.L,s.ce=-1)∧(∀ i,i<k+cs.length→SeatV vr0 i (v'.l i))∧v'.K=v.K∧v'.stk=v.stk:=by
 induction h with
 |nil=>exact fun h1 h2=>⟨h1,fun i hi=>h2 i (by simpa using hi),rfl,rfl⟩
 |@cons k c cs v v1 v2 X l' hf hK hsk _ hL els _ ih =>
  intro h1 h2
  obtain ⟨hX,hl'⟩:=fw_notes hf
  obtain ⟨i1,i2,i3⟩:=ih (fun s hs=>by
   rw [hL] at hs
   rcases List.mem_append.1 hs with hs|hs
   ·exact h1 s hs
   ·exact hX s hs) (fun i hi=>by
   rw [els.l]
   by_cases e:i=k
   ·subst e
    rw [upd_same]
    rcases hl' with ⟨a,rfl⟩|⟨c,op,j,q,r,k1,a,e,rfl⟩|⟨c,j,q,r,k1,a,e,rfl⟩
    ·trivial
    ·exact start_seat e _ _ _ _ _
    ·trivial
   ·rw [upd_ne _ _ e]
    exact h2 i (by omega))
  exact ⟨i1,fun i hi=>i2 i (by simp only [List.length_cons] at hi;omega),i3.1.trans hK,i3.2.trans hsk⟩
theorem sts_hd (n:Nat):(sts n n).getD (hdJ n) 0=0:=by
 rw [List.getD_eq_getElem?_getD]
 cases h:(sts n n)[hdJ n]? with
 |none=>rfl
 |some x =>
  show x=0
  rcases sts_get n n (hdJ n) x h with h|⟨_,rfl⟩
  ·have:=(List.getElem?_eq_some_iff.1 h).1
   rw [nxs_len] at this
   unfold hdJ at this
   omega
  ·rfl
theorem versions_run {n:Nat} (hn:n≤1000) {ss:List (Scr (mcT n))} {N:Nat} {S S1:TS} {l0 l1:Nat→Ph} {K:List (Nat×Int)} {m:Nat} {p':PSt}
 (hN:ss.length=N) (hN8:N≤8) (hl:lens ss≤512) (ha:∀ x∈ss,x.ans=List.replicate x.calls.length (0,0)) (ht:S.thr=[]) (htr:S.tr=[]) (hSn:S.n=0) (hsk:S.stk=false) (hK:K.map (·.2)=sts n n)
 (hH:Hires (mcT n) 0 ss S l0 S1 l1) (hT:Turns (mcT n) m ⟨S1,K,l1⟩ p') :
 ∃ L,p'.S.tr=flat L∧p'.S.n=L.length∧L.length≤400000∧p'.S.stk=false∧vall (hdJ n) N vr0 L:=by
 have hcell:=cells_T hn hK
 have hkok:=kok_T hK
 let v0:Vw:=⟨K.map (·.2),false,S.chg,fun i=>(thrI S i).se,l0,[]⟩
 have hs0:Seen ⟨S,K,l0⟩ v0:=⟨rfl,hsk.symm,rfl,fun i=>rfl,rfl,htr,hSn,fun i t h=>by rw [ht] at h;cases h⟩
 obtain ⟨v1,hi1,hs1⟩:=hires_hi (K:=K) hH v0 (by rw [ht];rfl) ha hs0
 obtain ⟨w1,w2,w3,w4⟩:=hi_v hi1 (fun s hs=>by cases hs) (fun i hi=>by omega)
 rw [List.length_map,hN,Nat.zero_add] at w2
 have hnot:=v_notes (hd:=hdJ n) (N:=N) v1.L vr0 w1
 have hKl:K.length=2*n+2+2*n:=by have:=congrArg List.length hK;rw [List.length_map,sts_len] at this;exact this
 have hv1K:v1.K=sts n n:=by rw [w3];exact hK
 have hV:VI N n v1:=by
  refine ⟨hnot.2,?_,?_,?_,?_,?_,fun i hi=>?_⟩
  ·rw [hv1K,sts_len];unfold hdJ;omega
  ·rw [hnot.1,hv1K,sts_hd];rfl
  ·rw [hnot.1,hv1K,sts_hd];rfl
  ·rw [hv1K,sts_hd];omega
  ·rw [hnot.1];exact Nat.zero_le _
  ·rw [hnot.1];exact w2 i hi
 obtain ⟨a1,a2,a3,a4⟩:=Mw.hires_gd (metT n hn) K.length hcell hH (by rw [ht];rfl) (by omega) (fun i t h=>by rw [ht] at h;cases h)
 have g:Mw.Gd (mc:=mcT n) ⟨S1,K,l1⟩:=⟨by show S1.thr.length≤8;omega,hkok,a2⟩
 have hm:=Mw.mu_le (metT n hn) ⟨S1,K,l1⟩ g.len
 have hL6:(metT n hn).L=6:=rfl
 rw [ht] at a4
 simp only [List.length_nil,List.range_zero,List.map_nil,List.sum_nil] at a4
 have hmu:S1.n+Mw.mu (metT n hn) ⟨S1,K,l1⟩≤400000:=by
  have:Mw.mu (metT n hn) ⟨S1,K,l1⟩≤40+64*((List.range S1.thr.length).map fun i=>Mw.tot (metT n hn) (l1 i)).sum:=hm
  rw [hL6] at a4
  omega
 have hlen1:S1.thr.length=N:=by omega
 obtain ⟨v',hI,hs',hlen,hd,g',hB'⟩:=turns_mvW (metT n hn) (N:=N) (B:=400000) (Inv:=fun v=>VI N n v) (fun p v v1 gp hN hB sp hv hmv=>stack_mv hn gp hB sp hN hv hmv) hT v1 (by show S1.thr.length=N;omega) g (by show Mw.Cells K.length;exact hcell) hmu hs1 hV
 have hst:=(Mw.turns_gd (metT n hn) hT g (by show Mw.Cells K.length;exact hcell)).2.2.1
 have hst1:S1.stk=false:=by have:=hs1.stk;rw [w4] at this;exact this.symm
 exact ⟨v'.L,hs'.tr,hs'.n,by have:=hs'.n;omega,hst.trans hst1,hI.all⟩
end Go.Proofs.YtbbhahigofeacaaDoor.Gen
namespace Go.Proofs.YtbbhahigofeacaaDoor.Gen
open Go Go.Lift Go.Conc Go.RowKit
section
variable {P:Program} {Q:Exit→Act→World→Prop} {a:Act} {w:World} {x y c:Code} {R:Act→World→Prop}
theorem wp_then (h:x.wp P (fun e a' w'=>e=.normal∧R a' w') a w) (k:∀ a' w',R a' w'→y.wp P Q a' w'):(Code.seq x y).wp P Q a w :=
 wp_seq (wp_mono h (fun e a w h=>by obtain ⟨rfl,hr⟩:=h;exact k a w hr))
theorem wp_last (h:x.wp P (fun e a' w'=>e=.normal∧R a' w') a w) (k:∀ a' w',R a' w'→Q .normal a' w'):x.wp P Q a w :=
 wp_mono h (fun e a w h=>by obtain ⟨rfl,hr⟩:=h;exact k a w hr)
theorem wp_while {id:Nat} {hd body:Code} {t:Nat} (I:Nat→Act→World→Prop) (n:Nat) (h0:I n a w)
 (head:∀ n a w,I n a w→∃ (J:Act→World→Prop),hd.wp P (fun e a' w'=>e=.normal∧J a' w') a w ∧
   ∀ a' w',J a' w'→(a'.eval (.tmp t)=.bool false∧Q .normal a' w')∨(a'.eval (.tmp t)=.bool true∧body.wp P (Exit.then (fun a'' w''=>∃ n',n'<n∧I n' a'' w'') (Exit.inBlock id Q)) a' w')) :
 (Code.block id (.loop (.seq (.seq hd (.cond (.tmp t) .skip (.exit id))) body))).wp P Q a w:=by
 refine wp_block (wp_loop_ghost I n h0 fun n a w hI=>?_)
 obtain ⟨J,h1,h2⟩:=head n a w hI
 refine wp_seq (wp_then h1 fun a' w' hJ=>?_)
 rcases h2 a' w' hJ with ⟨e,hq⟩|⟨e,hb⟩
 ·refine wp_cond_false e (wp_exit ?_)
  show if id=id then Q .normal a' w' else _
  rw [if_pos rfl]
  exact hq
 ·exact wp_cond_true e (wp_skip hb)
end
def TrL (g:Nat) (L:List Stp) (v:World):Prop:=∀ (k:Nat) (s:Stp),L[k]? = some s→v.cell? ⟨g,k*5,none⟩=some (I s.th)∧v.cell? ⟨g,k*5+1,none⟩=some (I s.ce)∧v.cell? ⟨g,k*5+2,none⟩=some (I s.op)∧v.cell? ⟨g,k*5+3,none⟩=some (I s.ol)∧v.cell? ⟨g,k*5+4,none⟩=some (I s.ne)
theorem grow_same {v v':World} (e:v'.heap=v.heap) (e1:v'.os=v.os) (e2:v'.output=v.output):Grows v v':=⟨by rw [e];exact Nat.le_refl _,fun b _=>by rw [e],e1,e2⟩
theorem grow_push {v v':World} {x:Obj} (e:v'.heap=v.heap.push x) (e1:v'.os=v.os) (e2:v'.output=v.output):Grows v v':=⟨by rw [e];simp,fun b hb=>by rw [e,Array.getElem?_push,if_neg (by omega)],e1,e2⟩
theorem grow_trans {v v' v2:World} (a:Grows v v') (b:Grows v' v2):Grows v v2:=⟨Nat.le_trans a.size b.size,fun q hq=>by rw [b.old q (Nat.lt_of_lt_of_le hq a.size),a.old q hq],b.os.trans a.os,b.output.trans a.output⟩
structure RK (n M b o:Nat) (A ln cp rb ro:Nat→Nat) (pc:Nat→Option Addr) (cl:Nat→List Cl) (l:Nat→Ph) (v:World):Prop where
 ar:∀ k,k<n→v.cell? ⟨M,k,none⟩=some (.slice (some ⟨A k,0,none⟩) (ln k) (ln k))
 an:∀ k,k<n→∀ (j:Nat) (q:Int×Int),(l k).ans[j]? = some q→v.cell? ⟨A k,j*2,none⟩=some (I q.1)∧v.cell? ⟨A k,j*2+1,none⟩=some (I q.2)
 sr:∀ k,k<n→v.cell? ⟨b,o+k,none⟩=some (.slice (pc k) (ln k) (cp k))
 pq:∀ k,k<n→0<ln k→pc k=some ⟨rb k,ro k,none⟩
 sa:∀ k,k<n→∀ (j:Nat) (c:Cl),(cl k)[j]? = some c→v.cell? ⟨rb k,ro k+j*4,none⟩=some (I c.po)∧v.cell? ⟨rb k,ro k+j*4+1,none⟩=some (I c.ca)
theorem RK.go {n M b o:Nat} {A ln cp rb ro:Nat→Nat} {pc:Nat→Option Addr} {cl:Nat→List Cl} {l:Nat→Ph} {v v':World} (h:RK n M b o A ln cp rb ro pc cl l v) (g:∀ q,q<v.heap.size→v'.heap[q]? = v.heap[q]?):RK n M b o A ln cp rb ro pc cl l v':=by
 have hc:∀ (a:Addr) (x:Value),v.cell? a=some x→v'.cell? a=some x:=fun a x ha=>by rw [World.cell?_of_block (w:=v) (w':=v') (g _ (World.block_lt_of_cell? _ _ ha))];exact ha
 exact ⟨fun k hk=>hc _ _ (h.ar k hk),fun k hk j q hq=>⟨hc _ _ (h.an k hk j q hq).1,hc _ _ (h.an k hk j q hq).2⟩,fun k hk=>hc _ _ (h.sr k hk),h.pq,fun k hk j c hj=>⟨hc _ _ (h.sa k hk j c hj).1,hc _ _ (h.sa k hk j c hj).2⟩⟩
theorem TrL.go {g:Nat} {L:List Stp} {v v':World} (h:TrL g L v) (q:∀ b,b<v.heap.size→v'.heap[b]? = v.heap[b]?):TrL g L v':=fun k s hs=>by
 have hc:∀ (a:Addr) (x:Value),v.cell? a=some x→v'.cell? a=some x:=fun a x ha=>by rw [World.cell?_of_block (w:=v) (w':=v') (q _ (World.block_lt_of_cell? _ _ ha))];exact ha
 obtain ⟨h1,h2,h3,h4,h5⟩:=h k s hs
 exact ⟨hc _ _ h1,hc _ _ h2,hc _ _ h3,hc _ _ h4,hc _ _ h5⟩
theorem Fl.hd {n k:Nat} {c:Bool} {l:List (Nat×Value)} {a:Act} (h:Fl n ((k,.bool c) :: l) a) (hc:c=true):a.eval (.tmp k)=.bool true:=by subst hc;exact h.2.2 (k,.bool true) (.head _)
theorem Fl.hf {n k:Nat} {c:Bool} {l:List (Nat×Value)} {a:Act} (h:Fl n ((k,.bool c) :: l) a) (hc:c=false):a.eval (.tmp k)=.bool false:=by subst hc;exact h.2.2 (k,.bool false) (.head _)
theorem Fl.tl {n:Nat} {x:Nat×Value} {l:List (Nat×Value)} {a:Act} (h:Fl n (x :: l) a):Fl n l a:=⟨h.1,h.2.1,fun p hp=>h.2.2 p (.tail _ hp)⟩
structure Kq (B:Nat) (w w':World):Prop where
 os:w'.os=w.os
 out:w'.output=w.output
 size:w.heap.size≤w'.heap.size
 old:∀ k,k<B→w'.heap[k]? = w.heap[k]?
section
variable {B:Nat} {u v w:World}
theorem Kq.refl (B:Nat) (w:World):Kq B w w:=⟨rfl,rfl,Nat.le_refl _,fun _ _=>rfl⟩
theorem Kq.trans (h:Kq B u v) (k:Kq B v w):Kq B u w:=⟨k.os.trans h.os,k.out.trans h.out,Nat.le_trans h.size k.size,fun i hi=>(k.old i hi).trans (h.old i hi)⟩
theorem Kq.same (e1:w.heap=v.heap) (e2:w.os=v.os) (e3:w.output=v.output):Kq B v w:=⟨e2,e3,by rw [e1];exact Nat.le_refl _,fun i _=>by rw [e1]⟩
theorem Kq.alloc (o:Obj) (h:B≤v.heap.size):Kq B v (v.alloc o):=⟨rfl,rfl,by show _≤(v.heap.push o).size;simp,fun i hi=>by show (v.heap.push o)[i]? = _;rw [Array.getElem?_push,if_neg (by omega)]⟩
theorem Kq.set {b o:Nat} (x:Value) (h:B≤b):Kq B v (v.setCell ⟨b,o,none⟩ x):=⟨rfl,rfl,by simp [World.setCell],fun i hi=>Below.heap_setCell _ _ _ _ (by show i≠b;omega)⟩
theorem Kq.cell (k:Kq B u v) {a:Addr} {x:Value} (h:u.cell? a=some x) (hb:a.block<B):v.cell? a=some x:=by rw [World.cell?_of_block (w:=u) (w':=v) (k.old _ hb)];exact h
theorem Kq.grows (k:Kq B u v) (h:u.heap.size≤B):Grows u v:=⟨k.size,fun b hb=>k.old b (by omega),k.os,k.out⟩
theorem Kq.le {B':Nat} (k:Kq B u v) (h:B'≤B):Kq B' u v:=⟨k.os,k.out,k.size,fun i hi=>k.old i (by omega)⟩
end
structure SL (N b o:Nat) (ln cp rb ro:Nat→Nat) (pc:Nat→Option Addr) (cl:Nat→List Cl) (v:World):Prop where
 len:∀ k,k<N→(cl k).length=ln k
 sr:∀ k,k<N→v.cell? ⟨b,o+k,none⟩=some (.slice (pc k) (ln k) (cp k))
 pq:∀ k,k<N→0<ln k→pc k=some ⟨rb k,ro k,none⟩
 sa:∀ k,k<N→∀ (j:Nat) (c:Cl),(cl k)[j]? = some c→v.cell? ⟨rb k,ro k+j*4,none⟩=some (I c.po)∧v.cell? ⟨rb k,ro k+j*4+1,none⟩=some (I c.ca)∧v.cell? ⟨rb k,ro k+j*4+2,none⟩=some (I c.cb)∧v.cell? ⟨rb k,ro k+j*4+3,none⟩=some (I c.cc)
structure AL (N M:Nat) (A ln:Nat→Nat) (l:Nat→Ph) (v:World):Prop where
 ar:∀ k,k<N→v.cell? ⟨M,k,none⟩=some (.slice (some ⟨A k,0,none⟩) (ln k) (ln k))
 al:∀ k,k<N→(l k).ans.length=ln k
 an:∀ k,k<N→∀ (j:Nat) (q:Int×Int),(l k).ans[j]? = some q→v.cell? ⟨A k,j*2,none⟩=some (I q.1)∧v.cell? ⟨A k,j*2+1,none⟩=some (I q.2)
theorem kq_all {v u:World} (k:Kq v.heap.size v u) (a:Addr) (x:Value) (h:v.cell? a=some x):u.cell? a=some x:=k.cell h (World.block_lt_of_cell? _ _ h)
theorem SL.go {N b o:Nat} {ln cp rb ro:Nat→Nat} {pc:Nat→Option Addr} {cl:Nat→List Cl} {v u:World} (h:SL N b o ln cp rb ro pc cl v) (k:Kq v.heap.size v u):SL N b o ln cp rb ro pc cl u:=by
 have hc:=kq_all k
 exact ⟨h.len,fun i hi=>hc _ _ (h.sr i hi),h.pq,fun i hi j c hj=>⟨hc _ _ (h.sa i hi j c hj).1,hc _ _ (h.sa i hi j c hj).2.1,hc _ _ (h.sa i hi j c hj).2.2.1,hc _ _ (h.sa i hi j c hj).2.2.2⟩⟩
theorem AL.go {N M:Nat} {A ln:Nat→Nat} {l:Nat→Ph} {v u:World} (h:AL N M A ln l v) (k:Kq v.heap.size v u):AL N M A ln l u:=by
 have hc:=kq_all k
 exact ⟨fun i hi=>hc _ _ (h.ar i hi),h.al,fun i hi j q hj=>⟨hc _ _ (h.an i hi j q hj).1,hc _ _ (h.an i hi j q hj).2⟩⟩
theorem info3b:(Tryd.prog.info? 3).map (fun i=>(i.zero,i.size,i.bytes))=some (some (I 0),1,8):=by kernel_rfl
theorem make_3 (n:Nat) (hn:n≤1048576) (w:World) :
 (Instr.makeSlice 25 (.int .i64 (n:Int)) (.int .i64 (n:Int))).run Tryd.prog w=.ok (.slice (some ⟨w.heap.size,0,none⟩) n n) (w.alloc (.cells (madeCells #[I 0] n) 3)):=by
 cases hq:Tryd.prog.info? 3 with
 |none=>have:=info3b;rw [hq] at this;cases this
 |some i =>
  have hi:=info3b
  rw [hq] at hi
  simp only [Option.map_some,Option.some.injEq,Prod.mk.injEq] at hi
  obtain ⟨hz,hs,hb⟩:=hi
  have:=run_make (P:=Tryd.prog) w 25 3 i _ Tryd.underlying25 hq hz .i64 .i64 (n:Int) (n:Int) (by omega) (by omega) (by rw [hb];omega) (by omega)
  rw [hs] at this
  rw [this]
  simp [Value.cells]
theorem goesI_retZ {Ch:Nat→Prop} {Stop:Goroutine→World→Prop} {main:Bool} {f:FuncId} {c:Code} {act:Act} {more:List Item} {cs:List Frame} {v w:World} {Q:Act→World→Prop} (hvw:Rel zn v w) (hn:NoRow Ch v) (hc:fineCode Tryd.prog true LV c) (ha:act.defers=[])
 (hwp:∀ τ,c.wp Tryd.prog (fun e a w'=>e=.ret∧Q a w') act (onTape v τ 0))
 (h:∀ a' v' w' todo,Q a' v'→a'.defers=[]→Rel zn v' w'→NoRow Ch v'→GoesI Tryd.prog main (DT (ScZ zn) Ch) Stop (G { (base f).at a' todo with mode:=.returning } cs) w') :
 GoesI Tryd.prog main (DT (ScZ zn) Ch) Stop (G ((base f).at act (.code c :: more)) cs) w:=by
 have hfin:=lift_code (P:=Tryd.prog) (z:=zn) (wr:=true) (L:=LV) (D:=DT (ScZ zn) Ch) (I:=NoRow Ch) (main:=main) (b:=base f) (k:=more) (cs:=cs) hE fineV noRow_keeps (fun v v' w w' es hi hr ho he=>dt_of_z v v' w w' es hi hr ho he) hvw hc ha (by simp [base]) hn
  (Q:=fun e a w'=>e=.ret∧Q a w') hwp (fun e a w hq=>.inr hq.1)
 refine hfin.then ?_
 rintro g w' ⟨a',v',hr,hiv,hd,⟨⟨hq,_⟩,_⟩|⟨⟨_,hQ⟩,todo,rfl⟩⟩
 ·cases hq
 ·exact h a' v' w' todo hQ hd hr hiv
theorem _root_.Go.Proofs.YtbbhahigofeacaaDoor.Grows.toAt {W v w:World} (h:Grows W v) (hr:Rel zn v w) (d:Nat):Grows W (w.at d):=by
 have e:(w.at d).heap=v.heap:=hr.eq
 exact ⟨by rw [e];exact h.size,fun b hb=>by rw [e];exact h.old b hb,hr.os.trans h.os,hr.output.trans h.output⟩
theorem _root_.Go.Proofs.YtbbhahigofeacaaDoor.Grows.andThen {W v w:World} (h:Grows W v) (k:Grows v w):Grows W w:=⟨Nat.le_trans h.size k.size,fun b hb=>by rw [k.old b (by have:=h.size;omega),h.old b hb],k.os.trans h.os,k.output.trans h.output⟩
def PostT (W:World) (r:Value) (w':World):Prop:=r=.bool true∧Grows W w'
def InR (x:Int):Prop:=-9223372036854775808≤x∧x<9223372036854775808
def Cl.ok (c:Cl):Prop:=InR c.cb∧InR c.cc
structure InI (W:World) (p:Option Addr) (b o:Nat) (xs:List Int):Prop where
 at_:0<xs.length→p=some ⟨b,o,none⟩
 cell:∀ k x,xs[k]? = some x→W.cell? ⟨b,o+k,none⟩=some (I x)
 inr:∀ x∈xs,InR x
 len:xs.length≤17592186043904
theorem InI.grows {W W':World} {p:Option Addr} {b o:Nat} {xs:List Int} (h:InI W p b o xs) (g:Grows W W'):InI W' p b o xs :=
 ⟨h.at_,fun k x hk=>g.cell (h.cell k x hk),h.inr,h.len⟩
structure InS (W:World) (p:Option Addr) (b o n:Nat) (pc:Nat→Option Addr) (ln cp rb:Nat→Nat) (cl:Nat→List Cl):Prop where
 at_:0<n→p=some ⟨b,o,none⟩
 row:∀ k,k<n→W.cell? ⟨b,o+k,none⟩=some (.slice (pc k) (ln k) (cp k))
 len:∀ j,j<n→(cl j).length=ln j
 pq:∀ j,j<n→0<ln j→pc j=some ⟨rb j,roOf (pc j),none⟩
 call:∀ j,j<n→∀ (k:Nat) (c:Cl),(cl j)[k]? = some c→W.cell? ⟨rb j,roOf (pc j)+k*4,none⟩=some (I c.po)∧W.cell? ⟨rb j,roOf (pc j)+k*4+1,none⟩=some (I c.ca)∧W.cell? ⟨rb j,roOf (pc j)+k*4+2,none⟩=some (I c.cb)∧W.cell? ⟨rb j,roOf (pc j)+k*4+3,none⟩=some (I c.cc)
 ok:∀ j,j<n→∀ c∈cl j,InR c.ca∧c.ok
 n:n≤17592186043904
theorem InS.grows {W W':World} {p:Option Addr} {b o n:Nat} {pc:Nat→Option Addr} {ln cp rb:Nat→Nat} {cl:Nat→List Cl} (h:InS W p b o n pc ln cp rb cl) (g:Grows W W'):InS W' p b o n pc ln cp rb cl :=
 ⟨h.at_,fun k hk=>g.cell (h.row k hk),h.len,h.pq,fun j hj k c hc=>by
  have:=h.call j hj k c hc
  exact ⟨g.cell this.1,g.cell this.2.1,g.cell this.2.2.1,g.cell this.2.2.2⟩,h.ok,h.n⟩
theorem lens_scrs (mc:Mc) (fid:FuncId) (caps:Array Value) (pk:Nat→Option Obj) (N n:Nat) (K:List (Nat×Int)) (pc:Nat→Option Addr) (ln cp rb:Nat→Nat) (cl:Nat→List Cl) (hl:∀ j,j<n→(cl j).length≤64):lens (scrs mc fid caps pk N n K pc ln cp rb cl)≤64*n:=by
 unfold lens scrs
 rw [List.map_map]
 have:∀ (m j:Nat),j+m≤n→((List.range' j m).map ((fun s:Scr mc=>s.calls.length) ∘ scrOf mc fid caps pk N n (K.map (·.1)) pc ln cp rb cl)).sum≤64*m:=by
  intro m
  induction m with
  |zero=>intro j _;simp
  |succ m ih =>
   intro j hj
   rw [List.range'_succ,List.map_cons,List.sum_cons]
   have h1:=ih (j+1) (by omega)
   have h2:((fun s:Scr mc=>s.calls.length) ∘ scrOf mc fid caps pk N n (K.map (·.1)) pc ln cp rb cl) j≤64:=hl j (by omega)
   omega
 exact this n 0 (by omega)
theorem scrs_len (mc:Mc) (fid:FuncId) (caps:Array Value) (pk:Nat→Option Obj) (N n:Nat) (K:List (Nat×Int)) (pc:Nat→Option Addr) (ln cp rb:Nat→Nat) (cl:Nat→List Cl):(scrs mc fid caps pk N n K pc ln cp rb cl).length=n:=by simp [scrs]
theorem asked_of {W v:World} {p:Option Addr} {b o n:Nat} {pc:Nat→Option Addr} {ln cp rb:Nat→Nat} {cl:Nat→List Cl} (h:InS W p b o n pc ln cp rb cl) {xs:List Int} {wb bk:Nat} {sc:Value} (hn:IsNew W xs wb bk sc v) (h64:∀ j,j<n→ln j≤64) (h0:0<n):Asked v (newS wb bk W.heap.size sc xs) n b o pc ln cp rb cl:=by
 have g:=h.grows hn.old
 have far:∀ (a:Addr) (x:Value),W.cell? a=some x→¬ Own (newS wb bk W.heap.size sc xs) [] a.block:=fun a x ha ho=>by
  have:=hn.new _ (.inl ho)
  have:=World.block_lt_of_cell? _ _ ha
  omega
 refine ⟨fun j hj=>⟨h.len j hj,h64 j hj⟩,g.row,far _ _ (h.row 0 h0),fun j hj hl=>⟨h.pq j hj hl,?_⟩,g.call,fun j hj c hc=>(h.ok j hj c hc).1⟩
 obtain ⟨c,hc⟩:∃ c,(cl j)[0]? = some c:=⟨_,List.getElem?_eq_getElem (by rw [h.len j hj];exact hl)⟩
 exact far _ _ (h.call j hj 0 c hc).1
theorem going_wb (S:TS) (i:Nat) (t:Thr):(going S i t).wb=S.wb:=by
 unfold going
 first
  |rfl
  |(unfold picked;split<;>rfl)
  |(split<;>rfl)
theorem pturn_wb {mc:Mc} {p p':PSt} (h:pturn mc p=some p'):p'.S.wb=p.S.wb:=by
 unfold pturn at h
 split at h
 ·split at h
  ·cases h;rfl
  ·cases h
 ·cases h
  exact (resume_sta _ _ _ _ _).wb.trans (going_wb _ _ _)
theorem turns_wb {mc:Mc} {m:Nat} {p p':PSt} (h:Turns mc m p p'):p'.S.wb=p.S.wb:=by
 induction h with
 |stop _=>rfl
 |step h1 _ ih=>exact ih.trans (pturn_wb h1)
theorem hires_wb {mc:Mc} {k:Nat} {ss:List (Scr mc)} {S S':TS} {l l':Nat→Ph} (h:Hires mc k ss S l S' l'):S'.wb=S.wb:=by
 induction h with
 |nil=>rfl
 |cons tv tb gc _ ih=>exact ih.trans (flow_sta _ _ _ _ _ _ _).wb
section
variable (mc:Mc) (fid:FuncId) (caps:Array Value) (pk:Nat→Option Obj) (N n:Nat) (K:List (Nat×Int)) (pc:Nat→Option Addr) (ln cp rb:Nat→Nat) (cl:Nat→List Cl)
theorem scrs_ans (hlen:∀ j,j<n→(cl j).length=ln j):∀ x∈scrs mc fid caps pk N n K pc ln cp rb cl,x.ans=List.replicate x.calls.length (0,0):=fun s hs=>by
 simp only [scrs,List.mem_map,List.mem_range'] at hs
 obtain ⟨j,⟨i,hi,rfl⟩,rfl⟩:=hs
 show List.replicate (ln (0+1*i)) (0,0)=List.replicate (cl (0+1*i)).length (0,0)
 rw [hlen _ (by omega)]
end
end Go.Proofs.YtbbhahigofeacaaDoor.Gen
