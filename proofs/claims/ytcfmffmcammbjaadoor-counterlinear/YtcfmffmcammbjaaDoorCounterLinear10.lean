/- Of the proof of CounterLinear. Part 10 of 26. (Joined, by program, and written short, of: GRun20d, Lift29, Lift30, GLone, GNew, GPlay, GLit, GObj, GEnd, GLoneX.) -/
import Derived.Test.YtcfmffmcammbjaaDoorCounterLinear02
import Derived.Test.YtcfmffmcammbjaaDoorCounterLinear03
import Derived.Test.YtcfmffmcammbjaaDoorCounterLinear09
import Derived.Deep.RegionLaw
set_option linter.unusedSimpArgs false
set_option linter.unusedVariables false
set_option maxHeartbeats 4000000
set_option maxRecDepth 100000
namespace Go.Proofs.YtcfmffmcammbjaaDoor.Gen
open Go Go.Lift Go.Conc Go.RowKit
variable {mc:Mc}{fid:FuncId}{P:Pkg mc fid}
section
variable {S:TS}{K:List (Nat×Int)}{caps:Array Value}{pk:Nat->Option Obj}{n:Nat}{pc:Nat->Option Addr}{ln cp rb:Nat->Nat}{cl:Nat->List Cl}
abbrev scrs (mc:Mc) (fid:FuncId) (caps:Array Value) (pk:Nat->Option Obj) (N n:Nat) (K:List (Nat×Int)) (pc:Nat->Option Addr) (ln cp rb:Nat->Nat) (cl:Nat->List Cl):List (Scr mc):=(List.range' 0 n).map (Hv mc fid caps pk N n (K.map (·.1)) pc ln cp rb cl)
structure Out20 (w:World) (S:TS) (K:List (Nat×Int)) (n:Nat) (ln:Nat->Nat) (S':TS) (K':List (Nat×Int)) (l:Nat->Ph) (w':World):Prop where
 mem:Mem zn S' K' w'
 size:w.heap.size≤w'.heap.size
 old:∀ b,b<w.heap.size->¬ Own S K b->b≠S.bk->w'.heap[b]? = w.heap[b]?∧¬ Own S' K' b
 rows:∀ j,j<n->w'.cell? ⟨w.heap.size+1,j,none⟩=some (.slice (some ⟨w.heap.size+4+3*j+2,0,none⟩) (ln j) (ln j))
 ans:∀ j,j<n->(l j).ans.length=ln j∧(0<ln j->w'.heap[w.heap.size+4+3*j+2]? = some (.cells (arow (l j).ans).toArray 38 (0,0)))∧∃ a,l j=.done a
 os:w'.os=w.os
 out:w'.output=w.output
theorem run20_all (P:Pkg mc fid) (hmine:∀ X:Fix mc,X.fid=fid->X.caps=caps->X.pk=pk->X.kb=K.map (·.1)->P.Mine X) {sb so cap:Nat}{cs:List Frame}{bc:Frame}{ac:Act}{ops:Array Oper}{q0:Nat}{rest:List Nat}{oc:Oper}{k0:List Item}(hoc:ops[q0]? = some oc) {w:World}{T:Trace}{gs:Array Goroutine}{q:Nat->Nat}(sl:Option (Nat×Nat)) (NT:Nat) (A:Alone gs w T q)
 (hg:gs[0]? = some (G ((base 60).at { tmps:=#[Pt S.wb 0,.slice (some ⟨sb,so,none⟩) n cap,.func (.func fid) (mc.bn caps) (mc.fr caps)]++Array.replicate 36 undef,defers:=[] } [.code B20]) (bc.at ac (.inRegion ops (q0 :: rest) :: k0) :: cs)))
 (hm:Mem zn S K w) (hthr:S.thr=[]) (hran:S.ran=false) (hbk:Open w S.bk) (t:Told w S K pk n pc ln cp rb cl) (hs:∀ k,k<n->w.cell? ⟨sb,so+k,none⟩=some (.slice (pc k) (ln k) (cp k))) (hsb:sb<w.heap.size) (hn8:n≤8)
 (hlen:S.n+2*lens (scrs mc fid caps pk w.heap.size n K pc ln cp rb cl)≤1000000) (hsl:S.sched.length≤4611686018427387904) (hsc:∀ x∈S.sched,-9223372036854775808≤x∧x<9223372036854775808) (l0:Nat->Ph)
 (hturn:∀ S1 l1,Hires mc 0 (scrs mc fid caps pk w.heap.size n K pc ln cp rb cl) (nv { S with ran:=true }) l0 S1 l1->∃ m p',m≤NT∧Turns mc m ⟨S1,K,l1⟩ p'∧p'.S.n*40≤140737488355328) :
 ∃ (N':Nat) (gs':Array Goroutine) (w':World) (sl':Option (Nat×Nat)) (T':Trace) (q':Nat->Nat) (S':TS) (S1:TS) (l1:Nat->Ph) (m:Nat) (p':PSt),
   runNT Tryd.prog N' (crowd gs w sl) T=(.next (crowd gs' w' sl'),T')∧gs'.size=gs.size+n∧gs'[0]? = some (G (bc.at (ac.put oc.dst (.slice (some ⟨w.heap.size+1,0,none⟩) n n)) (.inRegion ops rest :: k0)) cs) ∧
   Alone gs' w' T' q'∧nv S'=p'.S∧Hires mc 0 (scrs mc fid caps pk w.heap.size n K pc ln cp rb cl) (nv { S with ran:=true }) l0 S1 l1∧Turns mc m ⟨S1,K,l1⟩ p'∧Out20 w S K n ln S' p'.K p'.l w':=by
 have hG:GoesI Tryd.prog true (DT (ScZ zn) (fun _=>False)) (fun g w'=>∃ (bd:Frame) (ad:Act) (od:Array Oper) (qd:Nat) (rd:List Nat) (oe:Oper) (kd:List Item),Set20 w fid (mc.bn caps) (mc.fr caps) n pc ln cp w'∧od[qd]? = some oe ∧
  (∀ (Ch:Nat->Prop) (Stop:Goroutine->World->Prop) (w1:World) (x:Value),w1.cell? ⟨w.heap.size+2,0,none⟩=some x->(∀ d,GoesI Tryd.prog true (DT (ScZ zn) Ch) Stop (G (bc.at (ac.put oc.dst x) (.inRegion ops rest :: k0)) cs) (w1.at d))->GoesI Tryd.prog true (DT (ScZ zn) Ch) Stop (G (bd.at (ad.put oe.dst (.tuple #[])) (.inRegion od rd :: kd)) (bc.at ac (.inRegion ops (q0 :: rest) :: k0) :: cs)) w1) ∧
  g=G ((base 94).at { tmps:=#[Pt S.wb 0,.slice (some ⟨w.heap.size+3,0,none⟩) n n]++Array.replicate 60 undef,defers:=[] } [.code B35]) (bd.at ad (.inRegion od (qd :: rd) :: kd) :: bc.at ac (.inRegion ops (q0 :: rest) :: k0) :: cs)) (G ((base 60).at { tmps:=#[Pt S.wb 0,.slice (some ⟨sb,so,none⟩) n cap,.func (.func fid) (mc.bn caps) (mc.fr caps)]++Array.replicate 36 undef,defers:=[] } [.code B20]) (bc.at ac (.inRegion ops (q0 :: rest) :: k0) :: cs)) w:=by
  refine run20_in fid (mc.bn caps) (mc.fr caps) S.wb sb so n cap hn8 pc ln cp (fun k hk=>(t.len k hk).2) hs cs hoc hsb (Rel.refl w) (fun c hc=>hc.elim) (fun v' w' bd ad od qd rd oe kd hr hn hset ho hback=>GoesI.stop fun d=>⟨bd,ad,od,qd,rd,oe,kd,?_,ho,hback,rfl⟩)
  have e:(w'.at d).heap=v'.heap:=hr.eq
  exact ⟨by rw[e];exact hset.size,by rw[e];exact hset.p2,hset.rrow.of_block (by rw[e]),by rw[e];exact hset.p3,hset.brow.of_block (by rw[e]),fun j hj=>by rw[e];exact hset.blk j hj,fun b hb=>by rw[e];exact hset.old b hb,hr.os.trans hset.os,hr.output.trans hset.out⟩
 obtain ⟨N1,gs1,a1,w1,sl1,T1,q1,r1,z1,h1,⟨bd,ad,od,qd,rd,oe,kd,hset,hoe,hback,rfl⟩,A1⟩:=Cy A hg sl hG
 have hbkl:S.bk<w.heap.size:=by obtain ⟨c,m,h⟩:=hbk;exact (Array.getElem?_eq_some_iff.1 h).1
 have hm1:Mem zn S K w1:=(hm.grows ⟨by rw[hset.size];omega,hset.old,hset.os,hset.out⟩).mem
 have hbk1:Open w1 S.bk:=by
  obtain ⟨c,m,h⟩:=hbk
  exact ⟨c,m,by rw[hset.old _ hbkl];exact h⟩
 obtain ⟨B1,hB1,hP1⟩:=A1.past
 have sc:=scripts_of hmine hm hbk t hset n 0 (by omega) (allM S K w1) (futOf w.heap.size n ln 0) (fun b _=>rfl) (fun b=>Iff.rfl)
 obtain ⟨N2,gs2,w2,sl2,T2,q2,B2,S2,X2,Mm2,S1,l1,m,p',r2,z2,h2,hL2,hP2,hB2,hm2,hnv,hH,hT,hHas,hMo,hio,hXs,hPM,hMa,hMb⟩:=run35_all P hoe (K:=K) (S:=S) (w:=w1) sl1 (Mm:=⟨allM S K w1,w1.os,w1.output⟩) (Fut:=futOf w.heap.size n ln 0) (ss:=scrs mc fid caps pk w.heap.size n K pc ln cp rb cl) NT A1.left hP1 hB1 h1 hm1 hthr hran hbk1 allM_has (fun b hb=>(allM_own hb).1) (by
  show allM S K w1 S.bk=none
  unfold allM
  rw[if_pos (.inr rfl)]) ⟨rfl,rfl⟩ (fun b ⟨i,_,hi,h0,e⟩=>by
  subst e
  show allM S K w1 _≠none
  rw[Ho (fun h=>by have:=hm.lt h;omega) (by omega),(hset.blk i hi).2.2]
  simp) sc (by simp) hn8 hlen hsl hsc l0 hturn
 have hXj:∀ j,j<n->∃ h tb gc b0,X2 j=(Hv mc fid caps pk w.heap.size n (K.map (·.1)) pc ln cp rb cl j).X h tb gc b0:=fun j hj=>by
  have:=hXs j (Hv mc fid caps pk w.heap.size n (K.map (·.1)) pc ln cp rb cl j) (by simp[scrs,hj])
  rw[Nat.zero_add] at this
  exact this
 have hab:∀ j,j<n->0<ln j->(X2 j).ab=w.heap.size+4+3*j+2:=fun j hj h0=>by
  obtain ⟨h,tb,gc,b0,e⟩:=hXj j hj
  rw[e]
  show (if ln j=0 then b0 else _)=_
  rw[if_neg (by omega)]
 have hkeep:∀ b o,allM S K w1 b=some o->(∀ j,j<n->b≠w.heap.size+4+3*j+2)->w2.heap[b]? = some o∧¬ Own S2 p'.K b:=fun b o hb hne=>by
  have h9:Mm2.M b=some o:=by
   rcases hMb b o hb with h|⟨j,hj,h3,h4⟩
   ·exact h
   ·exfalso
    by_cases h0:0<ln j
    ·exact hne j hj (h3.trans (hab j hj h0))
    ·obtain ⟨h,tb,gc,b0,e⟩:=hXj j hj
     rw[e] at h3 h4
     apply h4
     rw[h3]
     show (if ln j=0 then b0 else _)=b0
     rw[if_pos (by omega)]
  exact ⟨hHas b o h9,hMo b (by rw[h9];simp)⟩
 have hnew:∀ b o,w.heap.size≤b->w1.heap[b]? = some o->(∀ j,j<n->b≠w.heap.size+4+3*j+2)->w2.heap[b]? = some o:=fun b o hb h hne=>(hkeep b o (by rw[Ho (fun h=>by have:=hm.lt h;omega) (by omega)];exact h) hne).1
 have c2:w2.cell? ⟨w.heap.size+2,0,none⟩=some (.slice (some ⟨w.heap.size+1,0,none⟩) n n):=by
  unfold World.cell?
  rw[hnew _ _ (by show _≤w.heap.size+2;omega) hset.p3 (fun j hj=>by show w.heap.size+2≠_;omega)]
  rfl
 have A2:Alone gs2 w2 T2 q2:=⟨hL2,B2,hB2,hP2⟩
 obtain ⟨N3,gs3,a3,w3,sl3,T3,q3,r3,z3,h3,⟨rfl,d3,rfl⟩,A3⟩:=Cy A2 h2 sl2 (hback (fun _=>False) (fun g w'=>g=G (bc.at (ac.put oc.dst (.slice (some ⟨w.heap.size+1,0,none⟩) n n)) (.inRegion ops rest :: k0)) cs∧∃ d,w'=w2.at d) w2 _ c2 (fun d=>GoesI.stop fun d'=>⟨rfl,d',rfl⟩))
 refine ⟨N1+N2+N3,gs3,w2.at d3,sl3,T3,q3,S2,S1,l1,m,p',runNT_then (runNT_then r1 r2) r3,by omega,h3,A3,hnv,hH,hT,⟨?_,?_,fun b hb ho hk=>?_,fun j hj=>?_,fun j hj=>?_,?_,?_⟩⟩
 ·exact (hm2.grows (v':=w2.at d3) ⟨Nat.le_refl _,fun _ _=>rfl,rfl,rfl⟩).mem
 ·show w.heap.size≤w2.heap.size
  have:=(Array.getElem?_eq_some_iff.1 (hnew _ _ (by omega:w.heap.size≤w.heap.size+2) hset.p3 (fun j hj=>by omega))).1
  omega
 ·have e:w.heap[b]? = some w.heap[b]:=Array.getElem?_eq_getElem hb
  have:=hkeep b _ (by rw[Ho ho hk,hset.old b hb];exact e) (fun j hj=>by omega)
  exact ⟨this.1.trans e.symm,this.2⟩
 ·have hl:=hset.rrow.lt
  have e:w1.heap[w.heap.size+1]? = some w1.heap[w.heap.size+1]:=Array.getElem?_eq_getElem hl
  have h9:=hnew _ _ (by omega) e (fun j hj=>by omega)
  show w2.cell? _=_
  rw[World.cell?_of_block (w:=w1) (w':=w2) (by show w2.heap[w.heap.size+1]? = w1.heap[w.heap.size+1]?;rw[h9,e])]
  exact hset.rrow.cell hj
 ·obtain ⟨hpm,hd⟩:=hPM j hj
  obtain ⟨h,tb,gc,b0,e⟩:=hXj j hj
  have hc:(X2 j).calls.length=ln j:=by rw[e];exact (t.len j hj).1
  refine ⟨hpm.len.trans hc,fun h0=>?_,hd⟩
  have:=hpm.row (by rw[hc];exact h0)
  rw[hab j hj h0] at this
  rw[e] at this
  exact this
 ·exact hio.1.trans hset.os
 ·exact hio.2.trans hset.out
end
end Go.Proofs.YtcfmffmcammbjaaDoor.Gen
namespace Go.Lift
open Go.Conc
section
variable {P:Program}{wr:Bool}
theorem G5 {α σ:Type}{f:α->σ->Sem (ForInStep σ)}:∀ (l:List α) (s:σ),(∀ a∈l,∀ s,calm P wr (f a s))->calm P wr (forIn l s f)
 | [],s,_=>by rw[List.forIn_nil];exact Ai _
 |a :: l,s,h=>by
  rw[List.forIn_cons]
  refine Af (h a (List.mem_cons_self ..) s) fun x=>?_
  cases x with
  |done b=>exact Ai _
  |yield b=>exact G5 l b (fun a' ha=>h a' (List.mem_cons_of_mem _ ha))
theorem Gf {α σ:Type}{f:α->σ->Sem (ForInStep σ)}(l:Array α) (s:σ) (h:∀ a∈l,∀ s,calm P wr (f a s)):calm P wr (forIn l s f):=by
 rw[←Array.forIn_toList]
 exact G5 _ _ (fun a ha=>h a (by simpa using ha))
theorem Hg {t:TypeId}(ht:flatT P t=true) (d:Nat) (x y:Value):calm P wr (Op.equalIn (d+1) t x y):=by
 unfold Op.equalIn
 refine Ic fun d hd=>?_
 unfold flatT at ht
 rw[hd] at ht
 split
 all_goals first|(exfalso;revert ht;simp;done)|repeat' (first|with_reducible (first|exact F2 _|exact Fs _|exact Ht _ _|exact Cu _|exact calm_noView _|exact Es _|exact calm_partAt _ _ _|exact F7 _ _|exact calm_typeStr _|exact calm_alloc _|exact calm_box _ _|exact calm_build _ _|exact F8 _ _ _|exact calm_loadAt _ _|exact calm_fieldAt _ _ _|exact calm_indexAt _ _ _|exact F6 _ _ _|exact D7 _ _ _ _ _ _|exact calm_slice _ _ _ _ _|exact calm_sliceAt _ _ _ _ _|exact Hs _ _|exact G3 _ _ _|exact calm_field _ _ _|exact calm_index _ _ _|exact calm_extract _ _|exact calm_len _ _ _|exact calm_cap _ _ _|exact calm_lenOf _|exact Ef _ _ _|exact calm_holdsCells _ _|exact Ft _ _ _ _|exact calm_intDiv _ _ _ _|exact Gk _ _ _ _|exact calm_intCmp _ _ _|exact calm_shift _ _ _ _ _|exact Hq _ _ _|exact Ee _ _ _ _|exact Fu _ _ _ _|exact E5 _ _|exact calm_addrSub _ _ _|exact calm_addrCmp _ _ _|exact calm_addrMod _ _ _|exact E3 _ _ _|exact Fj _ _ _|exact E6 _ _ _|exact calm_unary _ _|exact E9 _ _ _|exact Ai _|exact Al _|exact Am _|exact E8 _|exact Bh _|exact Dc _ _ _ _|exact B0|exact Dw _|exact Er _|exact F3 _|exact Df _|exact Ie _ _|exact Gm _|exact Bs _|exact Ay _|exact Co _|exact Bi _|exact calm_isAgg _|exact Hh _|exact Ep _ _|exact Eo _ _|exact D8 _|exact Ei _|exact Hj _|exact calm_asAgg _|exact Dx _|exact Cx _|exact E7 _ _|exact Gj _ _|exact Dm _ _ _|exact Hr|exact calm_markExtern _|(refine calm_arrayForIn (fun _ _=>?_) _ _)|(refine calm_rangeForIn (fun _ _=>?_) _ _)|apply calm_map|refine Af ?_ (fun _=>?_))|split|dsimp only)
theorem calm_equal_struct {t:TypeId}{fields:Array Field}(ht:P.underlying t=some (.struct fields)) (hf:∀ f∈fields,flatT P f.type=true) (x y:Value):calm P wr (Op.equal t x y):=by
 show calm P wr (Op.equalIn (9998+1+1) t x y)
 unfold Op.equalIn
 refine Ic fun d hd=>?_
 rw[ht] at hd
 cases hd
 cases x<;>try exact Al _
 cases y<;>try exact Al _
 rename_i xs ys
 simp only
 refine Af B0 fun p=>?_
 split
 ·refine Af (Am _) fun _=>?_
  refine Af (Gf _ _ fun f hff s=>?_) fun s=>?_
  ·split
   ·refine Af (Dm _ _ _) fun a=>Af (Dm _ _ _) fun b=>Af (Hg (hf f hff) 9998 a b) fun c=>?_
    split<;>exact Ai _
   ·exact Ai _
  ·split<;>exact Ai _
 ·skip
  refine Af (Gf _ _ fun f hff s=>?_) fun s=>?_
  ·split
   ·refine Af (Dm _ _ _) fun a=>Af (Dm _ _ _) fun b=>Af (Hg (hf f hff) 9998 a b) fun c=>?_
    split<;>exact Ai _
   ·exact Ai _
  ·split<;>exact Ai _
end
section
variable {P:Program}{wr:Bool}{L:FuncId->Prop}
def flatS (P:Program) (t:TypeId):Bool:=match P.underlying t with
 |some (.struct fs)=>fs.all (fun f=>flatT P f.type)
 |_=>false
def askEq (P:Program):Op->Bool
 |.binOp .eql t _ _ _=>flatS P t
 |.binOp .neq t _ _ _=>flatS P t
 |_=>false
theorem calm_flatS {t:TypeId}(h:flatS P t=true) (x y:Value):calm P wr (Op.equal t x y):=by
 unfold flatS at h
 split at h
 ·rename_i fs e
  exact calm_equal_struct e (fun f hf=>(Array.all_eq_true_iff_forall_mem.1 h) f hf) x y
 ·cases h
theorem fineOp_eq {o:Oper}(h:askEq P o.op=true):Dn P wr L o:=by
 obtain ⟨dst,op,type,pos,after,guard⟩:=o
 unfold askEq at h
 simp only at h
 split at h
 ·rename_i t x y t'
  refine fun a=>?_
  have he:execOp a.eval { dst:=dst,op:=.binOp .eql t x y t',type:=type,pos:=pos,after:=after,guard:=guard }=(do eqGuard .eql t x y (a.eval x) (a.eval y);binOp .eql t (a.eval x) (a.eval y):Sem Value).bind fun v=>Sem.pure (Next.value v):=rfl
  rw[he]
  exact ⟨Cf (Af (calm_eqGuard _ _ _ _ _ _) fun _=>calm_binOp _ _ _ _ (fun _=>calm_flatS h _ _)) fun _=>trivial,fun w x w' h=>.inl (val_out h)⟩
 ·rename_i t x y t'
  refine fun a=>?_
  have he:execOp a.eval { dst:=dst,op:=.binOp .neq t x y t',type:=type,pos:=pos,after:=after,guard:=guard }=(do eqGuard .neq t x y (a.eval x) (a.eval y);binOp .neq t (a.eval x) (a.eval y):Sem Value).bind fun v=>Sem.pure (Next.value v):=rfl
  rw[he]
  exact ⟨Cf (Af (calm_eqGuard _ _ _ _ _ _) fun _=>calm_binOp _ _ _ _ (fun _=>calm_flatS h _ _)) fun _=>trivial,fun w x w' h=>.inl (val_out h)⟩
 ·cases h
def askMax:Op->Bool
 |.call { callee:=.builtin .max,args:=ar,.. }=>match ar.toList with
  | [_,.const (.int _ _)]=>true
  |_=>false
 |_=>false
theorem calm_max2 (x:Value) (k:IntKind) (y:Int):calm P wr (Builtin.max2 x (.int k y)):=by
 cases x<;>first|exact Ai _|exact Al _|(rename_i p;cases p<;>first|exact Al _|exact Am _)
theorem fineOp_max {o:Oper}(h:askMax o.op=true):Dn P wr L o:=by
 obtain ⟨dst,op,type,pos,after,guard⟩:=o
 unfold askMax at h
 simp only at h
 split at h
 ·rename_i ar ats
  split at h
  ·rename_i x k y e
   refine fun a=>?_
   have he:execOp a.eval { dst:=dst,op:=.call { callee:=.builtin .max,args:=ar,argTypes:=ats },type:=type,pos:=pos,after:=after,guard:=guard }=(Builtin.max_ ats type (ar.map a.eval)).bind fun v=>Sem.pure (Next.value v):=rfl
   rw[he]
   refine ⟨Cf ?_ fun _=>trivial,fun w x w' h=>.inl (val_out h)⟩
   unfold Builtin.max_
   have e2:(ar.map a.eval).toList=[a.eval x,.int k y]:=by rw[Array.toList_map,e];rfl
   rw[e2]
   show calm P wr ([Value.int k y].foldlM Builtin.max2 (a.eval x))
   rw[List.foldlM_cons]
   exact Af (calm_max2 _ _ _) fun _=>Ai _
  ·cases h
 ·cases h
def askMin:Op->Bool
 |.call { callee:=.builtin .min,args:=ar,.. }=>match ar.toList with
  | [_,.const (.int _ _)]=>true
  |_=>false
 |_=>false
theorem calm_min2 (x:Value) (k:IntKind) (y:Int):calm P wr (Builtin.min2 x (.int k y)):=by
 cases x<;>first|exact Ai _|exact Al _|(rename_i p;cases p<;>first|exact Al _|exact Am _)
theorem fineOp_min {o:Oper}(h:askMin o.op=true):Dn P wr L o:=by
 obtain ⟨dst,op,type,pos,after,guard⟩:=o
 unfold askMin at h
 simp only at h
 split at h
 ·rename_i ar ats
  split at h
  ·rename_i x k y e
   refine fun a=>?_
   have he:execOp a.eval { dst:=dst,op:=.call { callee:=.builtin .min,args:=ar,argTypes:=ats },type:=type,pos:=pos,after:=after,guard:=guard }=(Builtin.min_ ats type (ar.map a.eval)).bind fun v=>Sem.pure (Next.value v):=rfl
   rw[he]
   refine ⟨Cf ?_ fun _=>trivial,fun w x w' h=>.inl (val_out h)⟩
   unfold Builtin.min_
   have e2:(ar.map a.eval).toList=[a.eval x,.int k y]:=by rw[Array.toList_map,e];rfl
   rw[e2]
   show calm P wr ([Value.int k y].foldlM Builtin.min2 (a.eval x))
   rw[List.foldlM_cons]
   exact Af (calm_min2 _ _ _) fun _=>Ai _
  ·cases h
 ·cases h
def Dk (P:Program) (wr:Bool) (fs:List FuncId) (xs:List (FuncId×Nat)):Code->Bool
 |.skip|.ret|.label _|.exit _=>true
 |.seq a b=>Dk P wr fs xs a&&Dk P wr fs xs b
 |.cond _ a b=>Dk P wr fs xs a&&Dk P wr fs xs b
 |.block _ c=>Dk P wr fs xs c
 |.loop c=>Dk P wr fs xs c
 |.region _ ops _=>ops.all fun o=>(Hb P wr o.op||askCall fs xs o.op)||(askEq P o.op||(askMax o.op||askMin o.op))
 |_=>false
theorem Bu {fs:List FuncId}{xs:List (FuncId×Nat)}(hfs:∀ f∈fs,Dd P L f) (hxs:∀ x∈xs,ExtOk P wr x.1 x.2):∀ {c:Code},Dk P wr fs xs c=true->Av P wr L c:=by
 intro c
 induction c with
 |seq a b iha ihb=>intro h;simp only[Dk,Bool.and_eq_true] at h;exact ⟨iha h.1,ihb h.2⟩
 |cond o a b iha ihb=>intro h;simp only[Dk,Bool.and_eq_true] at h;exact ⟨iha h.1,ihb h.2⟩
 |block id c ih=>intro h;exact ih h
 |loop c ih=>intro h;exact ih h
 |region id ops d =>
  intro h
  simp only[Dk,Array.all_eq_true_iff_forall_mem] at h
  intro o ho
  rcases Bool.or_eq_true_iff.1 (h o ho) with h|h
  ·exact Ba hfs hxs h
  ·rcases Bool.or_eq_true_iff.1 h with h|h
   ·exact fineOp_eq h
   ·rcases Bool.or_eq_true_iff.1 h with h|h
    ·exact fineOp_max h
    ·exact fineOp_min h
 |skip=>intro _;trivial
 |ret=>intro _;trivial
 |label l=>intro _;trivial
 |exit id=>intro _;trivial
 |_=>intro h;simp[Dk] at h
theorem Ab {fs:List FuncId}{xs:List (FuncId×Nat)}(hfs:∀ f∈fs,Dd P L f) (hxs:∀ x∈xs,ExtOk P wr x.1 x.2) {f:FuncId}{fn:Func}{c:Code}(hf:P.funcs[f]? = some fn) (hb:fn.body=some c) (h:Dk P wr fs xs c=true):Db P wr L f :=
 ⟨fn,c,hf,hb,Bu hfs hxs h,Gi fn⟩
end
end Go.Lift
namespace Go.Proofs.YtcfmffmcammbjaaDoor
open Go Go.Lift Go.Conc Go.RowKit
def plainV:List FuncId:=[62,96,99,102,98,107,116,128,65,100,101,103,67,68,71,74,75,87,89,90,129,25,39,54,78,17,23,63,26,59,95,91,32,19,58,30,20,21,22,27,31,34,35,36,37,38,44,45,46,47,48,53,56,24,49,50,82,83,84,85,111,112,113,114,115,130,131,132,154,155]
def LV (f:FuncId):Prop:=f∈plainV
theorem A7:∀ f∈plainV,Dd Tryd.prog LV f:=by
 intro f hf
 have hf':=hf
 simp only[plainV,List.mem_cons,List.not_mem_nil,or_false] at hf
 rcases hf with rfl|rfl|rfl|rfl|rfl|rfl|rfl|rfl|rfl|rfl|rfl|rfl|rfl|rfl|rfl|rfl|rfl|rfl|rfl|rfl|rfl|rfl|rfl|rfl|rfl|rfl|rfl|rfl|rfl|rfl|rfl|rfl|rfl|rfl|rfl|rfl|rfl|rfl|rfl|rfl|rfl|rfl|rfl|rfl|rfl|rfl|rfl|rfl|rfl|rfl|rfl|rfl|rfl|rfl|rfl|rfl|rfl|rfl|rfl|rfl|rfl|rfl|rfl|rfl|rfl|rfl|rfl|rfl|rfl|rfl
 ·exact ⟨hf',Tryd.f62,Tryd.func62,by kernel_rfl,by kernel_rfl⟩
 ·exact ⟨hf',Tryd.f96,Tryd.func96,by kernel_rfl,by kernel_rfl⟩
 ·exact ⟨hf',Tryd.f99,Tryd.func99,by kernel_rfl,by kernel_rfl⟩
 ·exact ⟨hf',Tryd.f102,Tryd.func102,by kernel_rfl,by kernel_rfl⟩
 ·exact ⟨hf',Tryd.f98,Tryd.func98,by kernel_rfl,by kernel_rfl⟩
 ·exact ⟨hf',Tryd.f107,Tryd.func107,by kernel_rfl,by kernel_rfl⟩
 ·exact ⟨hf',Tryd.f116,Tryd.func116,by kernel_rfl,by kernel_rfl⟩
 ·exact ⟨hf',Tryd.f128,Tryd.func128,by kernel_rfl,by kernel_rfl⟩
 ·exact ⟨hf',Tryd.f65,Tryd.func65,by kernel_rfl,by kernel_rfl⟩
 ·exact ⟨hf',Tryd.f100,Tryd.func100,by kernel_rfl,by kernel_rfl⟩
 ·exact ⟨hf',Tryd.f101,Tryd.func101,by kernel_rfl,by kernel_rfl⟩
 ·exact ⟨hf',Tryd.f103,Tryd.func103,by kernel_rfl,by kernel_rfl⟩
 ·exact ⟨hf',Tryd.f67,Tryd.func67,by kernel_rfl,by kernel_rfl⟩
 ·exact ⟨hf',Tryd.f68,Tryd.func68,by kernel_rfl,by kernel_rfl⟩
 ·exact ⟨hf',Tryd.f71,Tryd.func71,by kernel_rfl,by kernel_rfl⟩
 ·exact ⟨hf',Tryd.f74,Tryd.func74,by kernel_rfl,by kernel_rfl⟩
 ·exact ⟨hf',Tryd.f75,Tryd.func75,by kernel_rfl,by kernel_rfl⟩
 ·exact ⟨hf',Tryd.f87,Tryd.func87,by kernel_rfl,by kernel_rfl⟩
 ·exact ⟨hf',Tryd.f89,Tryd.func89,by kernel_rfl,by kernel_rfl⟩
 ·exact ⟨hf',Tryd.f90,Tryd.func90,by kernel_rfl,by kernel_rfl⟩
 ·exact ⟨hf',Tryd.f129,Tryd.func129,by kernel_rfl,by kernel_rfl⟩
 ·exact ⟨hf',Tryd.f25,Tryd.func25,by kernel_rfl,by kernel_rfl⟩
 ·exact ⟨hf',Tryd.f39,Tryd.func39,by kernel_rfl,by kernel_rfl⟩
 ·exact ⟨hf',Tryd.f54,Tryd.func54,by kernel_rfl,by kernel_rfl⟩
 ·exact ⟨hf',Tryd.f78,Tryd.func78,by kernel_rfl,by kernel_rfl⟩
 ·exact ⟨hf',Tryd.f17,Tryd.func17,by kernel_rfl,by kernel_rfl⟩
 ·exact ⟨hf',Tryd.f23,Tryd.func23,by kernel_rfl,by kernel_rfl⟩
 ·exact ⟨hf',Tryd.f63,Tryd.func63,by kernel_rfl,by kernel_rfl⟩
 ·exact ⟨hf',Tryd.f26,Tryd.func26,by kernel_rfl,by kernel_rfl⟩
 ·exact ⟨hf',Tryd.f59,Tryd.func59,by kernel_rfl,by kernel_rfl⟩
 ·exact ⟨hf',Tryd.f95,Tryd.func95,by kernel_rfl,by kernel_rfl⟩
 ·exact ⟨hf',Tryd.f91,Tryd.func91,by kernel_rfl,by kernel_rfl⟩
 ·exact ⟨hf',Tryd.f32,Tryd.func32,by kernel_rfl,by kernel_rfl⟩
 ·exact ⟨hf',Tryd.f19,Tryd.func19,by kernel_rfl,by kernel_rfl⟩
 ·exact ⟨hf',Tryd.f58,Tryd.func58,by kernel_rfl,by kernel_rfl⟩
 ·exact ⟨hf',Tryd.f30,Tryd.func30,by kernel_rfl,by kernel_rfl⟩
 ·exact ⟨hf',Tryd.f20,Tryd.func20,by kernel_rfl,by kernel_rfl⟩
 ·exact ⟨hf',Tryd.f21,Tryd.func21,by kernel_rfl,by kernel_rfl⟩
 ·exact ⟨hf',Tryd.f22,Tryd.func22,by kernel_rfl,by kernel_rfl⟩
 ·exact ⟨hf',Tryd.f27,Tryd.func27,by kernel_rfl,by kernel_rfl⟩
 ·exact ⟨hf',Tryd.f31,Tryd.func31,by kernel_rfl,by kernel_rfl⟩
 ·exact ⟨hf',Tryd.f34,Tryd.func34,by kernel_rfl,by kernel_rfl⟩
 ·exact ⟨hf',Tryd.f35,Tryd.func35,by kernel_rfl,by kernel_rfl⟩
 ·exact ⟨hf',Tryd.f36,Tryd.func36,by kernel_rfl,by kernel_rfl⟩
 ·exact ⟨hf',Tryd.f37,Tryd.func37,by kernel_rfl,by kernel_rfl⟩
 ·exact ⟨hf',Tryd.f38,Tryd.func38,by kernel_rfl,by kernel_rfl⟩
 ·exact ⟨hf',Tryd.f44,Tryd.func44,by kernel_rfl,by kernel_rfl⟩
 ·exact ⟨hf',Tryd.f45,Tryd.func45,by kernel_rfl,by kernel_rfl⟩
 ·exact ⟨hf',Tryd.f46,Tryd.func46,by kernel_rfl,by kernel_rfl⟩
 ·exact ⟨hf',Tryd.f47,Tryd.func47,by kernel_rfl,by kernel_rfl⟩
 ·exact ⟨hf',Tryd.f48,Tryd.func48,by kernel_rfl,by kernel_rfl⟩
 ·exact ⟨hf',Tryd.f53,Tryd.func53,by kernel_rfl,by kernel_rfl⟩
 ·exact ⟨hf',Tryd.f56,Tryd.func56,by kernel_rfl,by kernel_rfl⟩
 ·exact ⟨hf',Tryd.f24,Tryd.func24,by kernel_rfl,by kernel_rfl⟩
 ·exact ⟨hf',Tryd.f49,Tryd.func49,by kernel_rfl,by kernel_rfl⟩
 ·exact ⟨hf',Tryd.f50,Tryd.func50,by kernel_rfl,by kernel_rfl⟩
 ·exact ⟨hf',Tryd.f82,Tryd.func82,by kernel_rfl,by kernel_rfl⟩
 ·exact ⟨hf',Tryd.f83,Tryd.func83,by kernel_rfl,by kernel_rfl⟩
 ·exact ⟨hf',Tryd.f84,Tryd.func84,by kernel_rfl,by kernel_rfl⟩
 ·exact ⟨hf',Tryd.f85,Tryd.func85,by kernel_rfl,by kernel_rfl⟩
 ·exact ⟨hf',Tryd.f111,Tryd.func111,by kernel_rfl,by kernel_rfl⟩
 ·exact ⟨hf',Tryd.f112,Tryd.func112,by kernel_rfl,by kernel_rfl⟩
 ·exact ⟨hf',Tryd.f113,Tryd.func113,by kernel_rfl,by kernel_rfl⟩
 ·exact ⟨hf',Tryd.f114,Tryd.func114,by kernel_rfl,by kernel_rfl⟩
 ·exact ⟨hf',Tryd.f115,Tryd.func115,by kernel_rfl,by kernel_rfl⟩
 ·exact ⟨hf',Tryd.f130,Tryd.func130,by kernel_rfl,by kernel_rfl⟩
 ·exact ⟨hf',Tryd.f131,Tryd.func131,by kernel_rfl,by kernel_rfl⟩
 ·exact ⟨hf',Tryd.f132,Tryd.func132,by kernel_rfl,by kernel_rfl⟩
 ·exact ⟨hf',Tryd.f154,Tryd.func154,by kernel_rfl,by kernel_rfl⟩
 ·exact ⟨hf',Tryd.f155,Tryd.func155,by kernel_rfl,by kernel_rfl⟩
theorem Gc:∀ f,LV f->Db Tryd.prog true LV f:=by
 intro f hf
 simp only[LV,plainV,List.mem_cons,List.not_mem_nil,or_false] at hf
 rcases hf with rfl|rfl|rfl|rfl|rfl|rfl|rfl|rfl|rfl|rfl|rfl|rfl|rfl|rfl|rfl|rfl|rfl|rfl|rfl|rfl|rfl|rfl|rfl|rfl|rfl|rfl|rfl|rfl|rfl|rfl|rfl|rfl|rfl|rfl|rfl|rfl|rfl|rfl|rfl|rfl|rfl|rfl|rfl|rfl|rfl|rfl|rfl|rfl|rfl|rfl|rfl|rfl|rfl|rfl|rfl|rfl|rfl|rfl|rfl|rfl|rfl|rfl|rfl|rfl|rfl|rfl|rfl|rfl|rfl|rfl
 ·exact Ab A7 extT Tryd.func62 (c:=Tryd.f62.body.getD .skip) (by rfl) (by kernel_rfl)
 ·exact Ab A7 extT Tryd.func96 (c:=Tryd.f96.body.getD .skip) (by rfl) (by kernel_rfl)
 ·exact Ab A7 extT Tryd.func99 (c:=Tryd.f99.body.getD .skip) (by rfl) (by kernel_rfl)
 ·exact Ab A7 extT Tryd.func102 (c:=Tryd.f102.body.getD .skip) (by rfl) (by kernel_rfl)
 ·exact Ab A7 extT Tryd.func98 (c:=Tryd.f98.body.getD .skip) (by rfl) (by kernel_rfl)
 ·exact Ab A7 extT Tryd.func107 (c:=Tryd.f107.body.getD .skip) (by rfl) (by kernel_rfl)
 ·exact Ab A7 extT Tryd.func116 (c:=Tryd.f116.body.getD .skip) (by rfl) (by kernel_rfl)
 ·exact Ab A7 extT Tryd.func128 (c:=Tryd.f128.body.getD .skip) (by rfl) (by kernel_rfl)
 ·exact Ab A7 extT Tryd.func65 (c:=Tryd.f65.body.getD .skip) (by rfl) (by kernel_rfl)
 ·exact Ab A7 extT Tryd.func100 (c:=Tryd.f100.body.getD .skip) (by rfl) (by kernel_rfl)
 ·exact Ab A7 extT Tryd.func101 (c:=Tryd.f101.body.getD .skip) (by rfl) (by kernel_rfl)
 ·exact Ab A7 extT Tryd.func103 (c:=Tryd.f103.body.getD .skip) (by rfl) (by kernel_rfl)
 ·exact Ab A7 extT Tryd.func67 (c:=Tryd.f67.body.getD .skip) (by rfl) (by kernel_rfl)
 ·exact Ab A7 extT Tryd.func68 (c:=Tryd.f68.body.getD .skip) (by rfl) (by kernel_rfl)
 ·exact Ab A7 extT Tryd.func71 (c:=Tryd.f71.body.getD .skip) (by rfl) (by kernel_rfl)
 ·exact Ab A7 extT Tryd.func74 (c:=Tryd.f74.body.getD .skip) (by rfl) (by kernel_rfl)
 ·exact Ab A7 extT Tryd.func75 (c:=Tryd.f75.body.getD .skip) (by rfl) (by kernel_rfl)
 ·exact Ab A7 extT Tryd.func87 (c:=Tryd.f87.body.getD .skip) (by rfl) (by kernel_rfl)
 ·exact Ab A7 extT Tryd.func89 (c:=Tryd.f89.body.getD .skip) (by rfl) (by kernel_rfl)
 ·exact Ab A7 extT Tryd.func90 (c:=Tryd.f90.body.getD .skip) (by rfl) (by kernel_rfl)
 ·exact Ab A7 extT Tryd.func129 (c:=Tryd.f129.body.getD .skip) (by rfl) (by kernel_rfl)
 ·exact Ab A7 extT Tryd.func25 (c:=Tryd.f25.body.getD .skip) (by rfl) (by kernel_rfl)
 ·exact Ab A7 extT Tryd.func39 (c:=Tryd.f39.body.getD .skip) (by rfl) (by kernel_rfl)
 ·exact Ab A7 extT Tryd.func54 (c:=Tryd.f54.body.getD .skip) (by rfl) (by kernel_rfl)
 ·exact Ab A7 extT Tryd.func78 (c:=Tryd.f78.body.getD .skip) (by rfl) (by kernel_rfl)
 ·exact Ab A7 extT Tryd.func17 (c:=Tryd.f17.body.getD .skip) (by rfl) (by kernel_rfl)
 ·exact Ab A7 extT Tryd.func23 (c:=Tryd.f23.body.getD .skip) (by rfl) (by kernel_rfl)
 ·exact Ab A7 extT Tryd.func63 (c:=Tryd.f63.body.getD .skip) (by rfl) (by kernel_rfl)
 ·exact Ab A7 extT Tryd.func26 (c:=Tryd.f26.body.getD .skip) (by rfl) (by kernel_rfl)
 ·exact Ab A7 extT Tryd.func59 (c:=Tryd.f59.body.getD .skip) (by rfl) (by kernel_rfl)
 ·exact Ab A7 extT Tryd.func95 (c:=Tryd.f95.body.getD .skip) (by rfl) (by kernel_rfl)
 ·exact Ab A7 extT Tryd.func91 (c:=Tryd.f91.body.getD .skip) (by rfl) (by kernel_rfl)
 ·exact Ab A7 extT Tryd.func32 (c:=Tryd.f32.body.getD .skip) (by rfl) (by kernel_rfl)
 ·exact Ab A7 extT Tryd.func19 (c:=Tryd.f19.body.getD .skip) (by rfl) (by kernel_rfl)
 ·exact Ab A7 extT Tryd.func58 (c:=Tryd.f58.body.getD .skip) (by rfl) (by kernel_rfl)
 ·exact Ab A7 extT Tryd.func30 (c:=Tryd.f30.body.getD .skip) (by rfl) (by kernel_rfl)
 ·exact Ab A7 extT Tryd.func20 (c:=Tryd.f20.body.getD .skip) (by rfl) (by kernel_rfl)
 ·exact Ab A7 extT Tryd.func21 (c:=Tryd.f21.body.getD .skip) (by rfl) (by kernel_rfl)
 ·exact Ab A7 extT Tryd.func22 (c:=Tryd.f22.body.getD .skip) (by rfl) (by kernel_rfl)
 ·exact Ab A7 extT Tryd.func27 (c:=Tryd.f27.body.getD .skip) (by rfl) (by kernel_rfl)
 ·exact Ab A7 extT Tryd.func31 (c:=Tryd.f31.body.getD .skip) (by rfl) (by kernel_rfl)
 ·exact Ab A7 extT Tryd.func34 (c:=Tryd.f34.body.getD .skip) (by rfl) (by kernel_rfl)
 ·exact Ab A7 extT Tryd.func35 (c:=Tryd.f35.body.getD .skip) (by rfl) (by kernel_rfl)
 ·exact Ab A7 extT Tryd.func36 (c:=Tryd.f36.body.getD .skip) (by rfl) (by kernel_rfl)
 ·exact Ab A7 extT Tryd.func37 (c:=Tryd.f37.body.getD .skip) (by rfl) (by kernel_rfl)
 ·exact Ab A7 extT Tryd.func38 (c:=Tryd.f38.body.getD .skip) (by rfl) (by kernel_rfl)
 ·exact Ab A7 extT Tryd.func44 (c:=Tryd.f44.body.getD .skip) (by rfl) (by kernel_rfl)
 ·exact Ab A7 extT Tryd.func45 (c:=Tryd.f45.body.getD .skip) (by rfl) (by kernel_rfl)
 ·exact Ab A7 extT Tryd.func46 (c:=Tryd.f46.body.getD .skip) (by rfl) (by kernel_rfl)
 ·exact Ab A7 extT Tryd.func47 (c:=Tryd.f47.body.getD .skip) (by rfl) (by kernel_rfl)
 ·exact Ab A7 extT Tryd.func48 (c:=Tryd.f48.body.getD .skip) (by rfl) (by kernel_rfl)
 ·exact Ab A7 extT Tryd.func53 (c:=Tryd.f53.body.getD .skip) (by rfl) (by kernel_rfl)
 ·exact Ab A7 extT Tryd.func56 (c:=Tryd.f56.body.getD .skip) (by rfl) (by kernel_rfl)
 ·exact Ab A7 extT Tryd.func24 (c:=Tryd.f24.body.getD .skip) (by rfl) (by kernel_rfl)
 ·exact Ab A7 extT Tryd.func49 (c:=Tryd.f49.body.getD .skip) (by rfl) (by kernel_rfl)
 ·exact Ab A7 extT Tryd.func50 (c:=Tryd.f50.body.getD .skip) (by rfl) (by kernel_rfl)
 ·exact Ab A7 extT Tryd.func82 (c:=Tryd.f82.body.getD .skip) (by rfl) (by kernel_rfl)
 ·exact Ab A7 extT Tryd.func83 (c:=Tryd.f83.body.getD .skip) (by rfl) (by kernel_rfl)
 ·exact Ab A7 extT Tryd.func84 (c:=Tryd.f84.body.getD .skip) (by rfl) (by kernel_rfl)
 ·exact Ab A7 extT Tryd.func85 (c:=Tryd.f85.body.getD .skip) (by rfl) (by kernel_rfl)
 ·exact Ab A7 extT Tryd.func111 (c:=Tryd.f111.body.getD .skip) (by rfl) (by kernel_rfl)
 ·exact Ab A7 extT Tryd.func112 (c:=Tryd.f112.body.getD .skip) (by rfl) (by kernel_rfl)
 ·exact Ab A7 extT Tryd.func113 (c:=Tryd.f113.body.getD .skip) (by rfl) (by kernel_rfl)
 ·exact Ab A7 extT Tryd.func114 (c:=Tryd.f114.body.getD .skip) (by rfl) (by kernel_rfl)
 ·exact Ab A7 extT Tryd.func115 (c:=Tryd.f115.body.getD .skip) (by rfl) (by kernel_rfl)
 ·exact Ab A7 extT Tryd.func130 (c:=Tryd.f130.body.getD .skip) (by rfl) (by kernel_rfl)
 ·exact Ab A7 extT Tryd.func131 (c:=Tryd.f131.body.getD .skip) (by rfl) (by kernel_rfl)
 ·exact Ab A7 extT Tryd.func132 (c:=Tryd.f132.body.getD .skip) (by rfl) (by kernel_rfl)
 ·exact Ab A7 extT Tryd.func154 (c:=Tryd.f154.body.getD .skip) (by rfl) (by kernel_rfl)
 ·exact Ab A7 extT Tryd.func155 (c:=Tryd.f155.body.getD .skip) (by rfl) (by kernel_rfl)
end Go.Proofs.YtcfmffmcammbjaaDoor
namespace Go.Proofs.YtcfmffmcammbjaaDoor.Gen
open Go Go.Lift Go.Conc Go.RowKit
def newS (wb bk base:Nat) (sc:Value) (xs:List Int):TS :=
 { wb:=wb,bk:=bk,base:=base,us:=0,n:=0,la:=-1,sc:=sc,cv:=.slice none 0 0,ths:=.slice none 0 0,tv:=.slice none 0 0,sched:=xs,chg:=[],tr:=[],stk:=false,ran:=false,thr:=[] }
structure IsNew (v:World) (xs:List Int) (wb bk:Nat) (sc:Value) (v':World):Prop where
 mem:Mem zn (newS wb bk v.heap.size sc xs) [] v'
 opn:Open v' bk
 new:∀ b,Own (newS wb bk v.heap.size sc xs) [] b∨b=bk->v.heap.size≤b
 old:Grows v v'
abbrev rowNew (sc:Value) (bk:Nat):Array Value:=#[sc,I 0,I (-1),.slice none 0 0,.slice none 0 0,.slice none 0 0,.bool false,.bool false,.chan (some bk)]
theorem new_rep {v u v':World}{xs:List Int}{g cap bk m:Nat}(hg:Grows v u) (hown:u.ownsRow v.heap.size 3 1 (.slice (some ⟨g,0,none⟩) m cap) m (xs.map I)) (hl:xs.length=m) (hbk:u.heap[bk]? = some (.chan 0 #[] false 0 0 false)) (hb:v.heap.size≤bk)
 (hh:v'.heap=u.heap.push (.cells (rowNew (.slice (some ⟨g,0,none⟩) m cap) bk) 97)) (ho:v'.os=u.os) (hu:v'.output=u.output):IsNew v xs u.heap.size bk (.slice (some ⟨g,0,none⟩) m cap) v':=by
 have hold:∀ b,b<u.heap.size->v'.heap[b]? = u.heap[b]?:=fun b hb=>by rw[hh,Array.getElem?_push,if_neg (by omega)]
 have hs':v'.heap.size=u.heap.size+1:=by rw[hh];simp
 have hgl:=own_lt hown g rfl
 have hsz:=hg.size
 have hblk:∀ k b,blk (newS u.heap.size bk v.heap.size (.slice (some ⟨g,0,none⟩) m cap) xs) k=some b->(k=0∧b=u.heap.size)∨(k=4∧b=g):=fun k b hk=>by
  match k,hk with
  |0,hk=>cases hk;exact .inl ⟨rfl,rfl⟩
  |1,hk=>cases hk
  |2,hk=>cases hk
  |3,hk=>cases hk
  |4,hk=>cases hk;exact .inr ⟨rfl,rfl⟩
  |k+5,hk=>simp[blk,newS] at hk
 have hnil:v'.ownsRow v.heap.size 3 1 (.slice none 0 0) 0 []:=World.ownsRow_nil _ _ _ _
 refine ⟨⟨⟨?_,fun i t ht=>by simp[newS] at ht,World.ownsRow_nil _ _ _ _,World.ownsRow_nil _ _ _ _,World.ownsRow_nil _ _ _ _,?_,by show v.heap.size≤_;omega,fun j k b hj hk=>?_,fun b n h=>by cases h⟩,fun j c hc=>by simp at hc,fun j c hc=>by simp at hc,fun i j c d hc=>by simp at hc,rfl⟩,⟨0,0,?_⟩,fun b hb'=>?_,⟨by omega,fun b hb'=>by rw[hold b (by omega),hg.old b hb'],ho.trans hg.os,hu.trans hg.output⟩⟩
 ·show v'.heap[u.heap.size]? = _
  rw[hh]
  exact Array.getElem?_push_size
 ·show v'.ownsRow v.heap.size 3 1 _ xs.length (xs.map I)
  rw[hl]
  exact Ar (fun b hb=>hold b (own_lt hown b hb).2) hown
 ·rcases hblk j b hj with ⟨rfl,e1⟩|⟨rfl,e1⟩<;>rcases hblk k b hk with ⟨rfl,e2⟩|⟨rfl,e2⟩<;>first|rfl|omega
 ·rw[hold bk (Array.getElem?_eq_some_iff.1 hbk).1];exact hbk
 ·rcases hb' with (⟨k,hk⟩|⟨j,c,hc,_⟩)|rfl
  ·rcases hblk k b hk with ⟨_,rfl⟩|⟨_,rfl⟩
   ·exact hsz
   ·exact hgl.1
  ·simp at hc
  ·exact hb
theorem body7 {v:World}(vb vo cap:Nat) (xs:List Int) (hx0:0<xs.length) (hx1:xs.length≤17592186043904) (hv:∀ k x,xs[k]? = some x->v.cell? ⟨vb,vo+k,none⟩=some (I x)) :
 Body Tryd.f17 #[.slice (some ⟨vb,vo,none⟩) xs.length cap] v (fun r v'=>∃ wb bk sc,r=Pt wb 0∧IsNew v xs wb bk sc v'):=by
 intro code hb
 obtain rfl:=Option.some.inj hb
 clear hb
 obtain ⟨x0,hx00⟩:∃ x,xs[0]? = some x:=⟨_,List.getElem?_eq_getElem hx0⟩
 have hvl:vb<v.heap.size:=World.block_lt_of_cell? _ _ (hv 0 x0 hx00)
 have hnews:∀ u:World,u.heap[vb]? = v.heap[vb]?->∀ j y,(xs.map I)[j]? = some y->u.cell? ((⟨vb,vo,none⟩:Addr).add j)=some y:=fun u hu j y hj=>by
  have hadd:(⟨vb,vo,none⟩:Addr).add j=⟨vb,vo+j,none⟩:=by unfold Addr.add;split<;>simp_all
  rw[hadd,World.cell?_of_block (w:=v) (w':=u) hu]
  rw[List.getElem?_map] at hj
  cases hk:xs[j]? with
  |none=>rw[hk] at hj;cases hj
  |some x =>
   rw[hk] at hj
   cases hj
   exact hv j x hk
 have h1:∀ u∈xs.map I,u.oneCell'=true:=fun u hu=>by
  simp only[List.mem_map] at hu
  obtain ⟨x,_,rfl⟩:=hu
  rfl
 have HW:Hid (∀ u:World,u.heap[vb]? = v.heap[vb]?->∀ j y,(xs.map I)[j]? = some y->u.cell? ((⟨vb,vo,none⟩:Addr).add j)=some y):=⟨hnews⟩
 have H1:Hid (∀ u∈xs.map I,u.oneCell'=true):=⟨h1⟩
 have HX:Hid (0<xs.length∧xs.length≤17592186043904∧vb<v.heap.size):=⟨⟨hx0,hx1,hvl⟩⟩
 clear hv hnews h1 hx00 hx0 hx1 hvl
 have hmk:=run_mk
 obtain ⟨j0,hj,hj0,hj1,hj2⟩:=info_parts info3
 simp only[Tryd.ntmps17,List.size_toArray,List.length_cons,List.length_nil,Nat.reduceAdd,Nat.reduceSub,Array.replicate_succ,Array.replicate_zero,List.push_toArray,List.append_toArray,List.nil_append,List.cons_append]
 go_wp2_with fail
 go_region_law
  (refine step_append_lies _ rfl (.const (.slice none 0 0)) (.tmp 3) 22 rfl v.heap.size 3 j0 _ 1 8 Tryd.underlying22 hj hj0 hj1 hj2 rfl (by decide) (.slice none 0 0) 0 [] rfl (World.ownsRow_nil _ _ _ _) ⟨vb,vo,none⟩ xs.length cap (xs.map I) rfl (by simp) (HW.out _ (by first|rfl|(show (v.heap.push _)[vb]? = _;rw[Array.getElem?_push,if_neg (by have:=HX.out;omega)]))) H1.out HX.out.1 (by have:=HX.out;unfold maxLen;omega) (by have:=HX.out;omega) (by simp) _ rfl ?_
   intro g cpg w6 hown6 hgrow6 hat6 hlt6)
 ·have g6:Grows v (w6.alloc (.chan 0 #[] false 0 0 false)):=by
   have hs:v.heap.size≤w6.heap.size:=hgrow6.size
   refine ⟨by show _≤(w6.heap.push _).size;simp;omega,fun b hb=>?_,hgrow6.os,hgrow6.output⟩
   show (w6.heap.push _)[b]? = _
   rw[Array.getElem?_push,if_neg (by omega)]
   exact hgrow6.block b hb (fun e=>by cases e)
  have hN:IsNew v xs (w6.heap.size+1) w6.heap.size (.slice (some ⟨g,0,none⟩) xs.length cpg) ((w6.alloc (.chan 0 #[] false 0 0 false)).alloc (.cells (rowNew (.slice (some ⟨g,0,none⟩) xs.length cpg) w6.heap.size) 97)):=by
   have:=new_rep (v:=v) (u:=w6.alloc (.chan 0 #[] false 0 0 false)) (v':=(w6.alloc (.chan 0 #[] false 0 0 false)).alloc (.cells (rowNew (.slice (some ⟨g,0,none⟩) xs.length cpg) w6.heap.size) 97)) (xs:=xs) (g:=g) (cap:=cpg) (bk:=w6.heap.size) (m:=xs.length) g6 (Ar (fun b hb=>?_) (by rw[Nat.zero_add,List.nil_append] at hown6;exact hown6)) rfl Array.getElem?_push_size hgrow6.size rfl rfl rfl
   ·rw[show (w6.alloc (.chan 0 #[] false 0 0 false)).heap.size=w6.heap.size+1 by show (w6.heap.push _).size=_;simp] at this
    exact this
   ·cases hb
    show (w6.heap.push _)[g]? = _
    rw[Array.getElem?_push,if_neg (by omega)]
  have HN:Hid _:=⟨hN⟩
  clear hN g6 hgrow6 hown6 hat6 hlt6
  go_wp2
  go_ret
  exact ⟨_,rfl,w6.heap.size+1,w6.heap.size,_,rfl,HN.out⟩
 ·have hb0:∀ b,b<v.heap.size+1->w6.heap[b]? = (v.alloc (.chan 0 #[] false 0 0 false)).heap[b]?:=fun b hb=>hgrow6.block b (by show b<(v.heap.push _).size;simp;omega) (fun e=>by cases e)
  have hs:v.heap.size+1≤w6.heap.size:=by
   have:=hgrow6.size
   have e:(v.alloc (.chan 0 #[] false 0 0 false)).drew.heap.size=v.heap.size+1:=by show (v.heap.push _).size=_;simp
   omega
  have g6:Grows v w6:=by
   refine ⟨by omega,fun b hb=>?_,hgrow6.os,hgrow6.output⟩
   rw[hb0 b (by omega)]
   show (v.heap.push _)[b]? = _
   rw[Array.getElem?_push,if_neg (by omega)]
  have hN:IsNew v xs w6.heap.size v.heap.size (.slice (some ⟨g,0,none⟩) xs.length cpg) (w6.alloc (.cells (rowNew (.slice (some ⟨g,0,none⟩) xs.length cpg) v.heap.size) 97)) :=
   new_rep (v:=v) (u:=w6) (xs:=xs) (g:=g) (cap:=cpg) (bk:=v.heap.size) (m:=xs.length) g6 (by rw[Nat.zero_add,List.nil_append] at hown6;exact hown6) rfl (by rw[hb0 _ (by omega)];exact Array.getElem?_push_size) (Nat.le_refl _) rfl rfl rfl
  have HN:Hid _:=⟨hN⟩
  clear hN g6 hgrow6 hown6 hat6 hlt6 hb0 hs
  go_wp2
  go_ret
  exact ⟨_,rfl,w6.heap.size,v.heap.size,_,rfl,HN.out⟩
theorem body9 {z:Nat->Option Nat}{S:TS}{v:World}(h:Rep z S v) (h0:0<S.n) (hn:S.n*40≤140737488355328) (h1:∀ u∈S.tr,u.oneCell'=true) :
 Body Tryd.f23 #[Pt S.wb 0] v (fun r v'=>∃ g cap,r=.slice (some ⟨g,0,none⟩) S.n cap∧v'.ownsRow v.heap.size 60 5 (.slice (some ⟨g,0,none⟩) S.n cap) S.n S.tr∧Grows v v'∧v.heap.size≤g):=by
 intro code hb
 obtain rfl:=Option.some.inj hb
 clear hb
 have c5:=h.wcell.2.2.2.2.2.1
 obtain ⟨g0,cap0,e0,_,hg0⟩:=h.own.form h0
 rw[e0] at c5
 have hcs:=h.own.cells (g:=g0) (by rw[e0];rfl)
 have hln:S.tr.length=S.n*5:=h.own.1
 have HH:Hid ((∀ j u,S.tr[j]? = some u->v.cell? ((⟨g0,0,none⟩:Addr).add j)=some u)∧(∀ u∈S.tr,u.oneCell'=true)∧0<S.n∧S.n*40≤140737488355328∧S.tr.length=S.n*5):=⟨⟨hcs,h1,h0,hn,hln⟩⟩
 clear hcs h1 h0 hn hln h e0
 obtain ⟨j0,hj,hj0,hj1,hj2⟩:=info_parts info34
 simp only[Tryd.ntmps23,List.size_toArray,List.length_cons,List.length_nil,Nat.reduceAdd,Nat.reduceSub,Array.replicate_succ,Array.replicate_zero,List.push_toArray,List.append_toArray,List.nil_append,List.cons_append]
 go_wp2_with (first
  |(refine wpList_append_lies _ rfl (.const (.slice none 0 0)) (.tmp 8) 41 rfl v.heap.size 60 j0 _ 5 40 Tryd.underlying41 hj hj0 hj1 hj2 rfl (by decide) (.slice none 0 0) 0 [] rfl (World.ownsRow_nil _ _ _ _) ⟨g0,0,none⟩ S.n cap0 S.tr rfl HH.out.2.2.2.2 HH.out.1 HH.out.2.1 HH.out.2.2.1 (by have:=HH.out.2.2.2.1;unfold maxLen;omega) (by have:=HH.out.2.2.2.1;omega) (Nat.le_refl _) _ rfl ?_
    intro g cpg w6 hown6 hgrow6 hat6 hlt6))
 go_ret
 refine ⟨_,rfl,g,cpg,rfl,?_,⟨hgrow6.size,fun b hb=>hgrow6.block b hb (fun e=>by cases e),hgrow6.os,hgrow6.output⟩,?_⟩
 ·rw[Nat.zero_add,List.nil_append] at hown6
  exact hown6
 ·rcases hat6 with h|h
  ·cases h
  ·omega
def Refused (n:Nat) (ln:Nat->Nat) (E:Int):Prop:=((∃ k,k<n∧64<ln k)∧E=2)∨((∀ k,k<n->ln k≤64)∧(n=0∨8<n)∧E=1)
theorem new_rep0 {v u v':World}{bk:Nat}(hg:Grows v u) (hbk:u.heap[bk]? = some (.chan 0 #[] false 0 0 false)) (hb:v.heap.size≤bk)
 (hh:v'.heap=u.heap.push (.cells (rowNew (.slice none 0 0) bk) 97)) (ho:v'.os=u.os) (hu:v'.output=u.output):IsNew v [] u.heap.size bk (.slice none 0 0) v':=by
 have hold:∀ b,b<u.heap.size->v'.heap[b]? = u.heap[b]?:=fun b hb=>by rw[hh,Array.getElem?_push,if_neg (by omega)]
 have hs':v'.heap.size=u.heap.size+1:=by rw[hh];simp
 have hsz:=hg.size
 have hblk:∀ k b,blk (newS u.heap.size bk v.heap.size (.slice none 0 0) []) k=some b->k=0∧b=u.heap.size:=fun k b hk=>by
  match k,hk with
  |0,hk=>cases hk;exact ⟨rfl,rfl⟩
  |1,hk=>cases hk
  |2,hk=>cases hk
  |3,hk=>cases hk
  |4,hk=>cases hk
  |k+5,hk=>simp[blk,newS] at hk
 refine ⟨⟨⟨?_,fun i t ht=>by simp[newS] at ht,World.ownsRow_nil _ _ _ _,World.ownsRow_nil _ _ _ _,World.ownsRow_nil _ _ _ _,World.ownsRow_nil _ _ _ _,by show v.heap.size≤_;omega,fun j k b hj hk=>?_,fun b n h=>by cases h⟩,fun j c hc=>by simp at hc,fun j c hc=>by simp at hc,fun i j c d hc=>by simp at hc,rfl⟩,⟨0,0,?_⟩,fun b hb'=>?_,⟨by omega,fun b hb'=>by rw[hold b (by omega),hg.old b hb'],ho.trans hg.os,hu.trans hg.output⟩⟩
 ·show v'.heap[u.heap.size]? = _
  rw[hh]
  exact Array.getElem?_push_size
 ·rw[(hblk j b hj).1,(hblk k b hk).1]
 ·rw[hold bk (Array.getElem?_eq_some_iff.1 hbk).1];exact hbk
 ·rcases hb' with (⟨k,hk⟩|⟨j,c,hc,_⟩)|rfl
  ·rw[(hblk k b hk).2];exact hsz
  ·simp at hc
  ·exact hb
theorem body70 {v:World}(p:Option Addr) (cap:Nat):Body Tryd.f17 #[.slice p 0 cap] v (fun r v'=>∃ wb bk sc,r=Pt wb 0∧IsNew v [] wb bk sc v'):=by
 intro code hb
 obtain rfl:=Option.some.inj hb
 clear hb
 have hmk:=run_mk
 obtain ⟨j0,hj,hj0,hj1,hj2⟩:=info_parts info3
 have HN:∀ v':World,v'.heap=(v.heap.push (.chan 0 #[] false 0 0 false)).push (.cells (rowNew (.slice none 0 0) v.heap.size) 97)->v'.os=v.os->v'.output=v.output->IsNew v [] (v.heap.size+1) v.heap.size (.slice none 0 0) v':=fun v' h4 h5 h6=>by
  have:=new_rep0 (v:=v) (u:=v.alloc (.chan 0 #[] false 0 0 false)) (v':=v') (bk:=v.heap.size) ⟨by show _≤(v.heap.push _).size;simp,fun b hb=>by show (v.heap.push _)[b]? = _;rw[Array.getElem?_push,if_neg (by omega)],rfl,rfl⟩ Array.getElem?_push_size (Nat.le_refl _) h4 h5 h6
  rw[show (v.alloc (.chan 0 #[] false 0 0 false)).heap.size=v.heap.size+1 by show (v.heap.push _).size=_;simp] at this
  exact this
 have HN:Hid _:=⟨HN⟩
 cases p
 all_goals
  simp only[Tryd.ntmps17,List.size_toArray,List.length_cons,List.length_nil,Nat.reduceAdd,Nat.reduceSub,Array.replicate_succ,Array.replicate_zero,List.push_toArray,List.append_toArray,List.nil_append,List.cons_append]
  go_wp2_with fail
  go_region_law fail
  all_goals
   go_wp2
   go_ret
   exact ⟨_,rfl,v.heap.size+1,v.heap.size,_,rfl,HN.out _ rfl rfl rfl⟩
theorem body7A {v:World}(p:Option Addr) (vb vo cap:Nat) (xs:List Int) (hp:0<xs.length->p=some ⟨vb,vo,none⟩) (hx1:xs.length≤17592186043904) (hv:∀ k x,xs[k]? = some x->v.cell? ⟨vb,vo+k,none⟩=some (I x)) :
 Body Tryd.f17 #[.slice p xs.length cap] v (fun r v'=>∃ wb bk sc,r=Pt wb 0∧IsNew v xs wb bk sc v'):=by
 rcases Nat.eq_zero_or_pos xs.length with h0|h0
 ·obtain rfl:=List.length_eq_zero_iff.1 h0
  exact body70 p cap
 ·rw[hp h0]
  exact body7 vb vo cap xs h0 hx1 hv
theorem body90 {z:Nat->Option Nat}{S:TS}{v:World}(h:Rep z S v) (h0:S.n=0):Body Tryd.f23 #[Pt S.wb 0] v (fun r v'=>r=.slice none 0 0∧v'=v):=by
 intro code hb
 obtain rfl:=Option.some.inj hb
 clear hb
 have c5:=h.wcell.2.2.2.2.2.1
 obtain ⟨p0,cap0,e0⟩:∃ p cap,S.tv=.slice p 0 cap:=by
  obtain ⟨p,cap,e⟩:=Ea h.own
  rw[h0] at e
  exact ⟨p,cap,e⟩
 rw[e0] at c5
 clear h e0
 obtain ⟨j0,hj,hj0,hj1,hj2⟩:=info_parts info34
 cases p0
 all_goals
  simp only[Tryd.ntmps23,List.size_toArray,List.length_cons,List.length_nil,Nat.reduceAdd,Nat.reduceSub,Array.replicate_succ,Array.replicate_zero,List.push_toArray,List.append_toArray,List.nil_append,List.cons_append]
  go_wp2
  go_ret
  exact ⟨_,rfl,rfl,rfl⟩
theorem body9A {z:Nat->Option Nat}{S:TS}{v:World}(h:Rep z S v) (hn:S.n*40≤140737488355328) (h1:∀ u∈S.tr,u.oneCell'=true) :
 Body Tryd.f23 #[Pt S.wb 0] v (fun r v'=>∃ p g cap,r=.slice p S.n cap∧(0<S.n->p=some ⟨g,0,none⟩∧v.heap.size≤g)∧(∀ j u,S.tr[j]? = some u->v'.cell? ⟨g,j,none⟩=some u)∧Grows v v'):=by
 rcases Nat.eq_zero_or_pos S.n with h0|h0
 ·intro code hb
  refine wp_mono (body90 h h0 code hb) (Gn fun r u hq=>?_)
  obtain ⟨rfl,rfl⟩:=hq
  have hl:S.tr=[]:=by
   have:=h.own.1
   rw[h0] at this
   exact List.length_eq_zero_iff.1 (by omega)
  refine ⟨none,0,0,by rw[h0],(fun h=>by omega),(fun j x hj=>?_),⟨Nat.le_refl _,fun _ _=>rfl,rfl,rfl⟩⟩
  rw[hl] at hj
  simp at hj
 ·intro code hb
  refine wp_mono (body9 h h0 hn h1 code hb) (Gn fun r u hq=>?_)
  obtain ⟨g,cap,rfl,hown,hgr,hle⟩:=hq
  refine ⟨_,g,cap,rfl,fun _=>⟨rfl,hle⟩,fun j x hj=>?_,hgr⟩
  have:=hown.cells (g:=g) rfl j x hj
  rw[show (⟨g,0,none⟩:Addr).add j=⟨g,j,none⟩ by unfold Addr.add;split<;>simp_all] at this
  exact this
def G2 (S:TS) (cv:Value) (k:Nat):TS:={ S with cv:=cv,chg:=List.replicate k 0 }
structure Cel (z:Nat->Option Nat) (S:TS) (K:List (Nat×Int)) (v:World) (S':TS) (K':List (Nat×Int)) (v':World):Prop where
 mem:Mem z S' K' v'
 fr:Fr (Own S K) v v'
 own:∀ b,Own S' K' b->Own S K b∨v.heap.size≤b
section
variable {z:Nat->Option Nat}{S S1 S2:TS}{K K1 K2:List (Nat×Int)}{v v1 v2:World}
theorem Cel.refl (h:Mem z S K v):Cel z S K v S K v:=⟨h,Fr.refl _ _,fun b h=>.inl h⟩
theorem Cel.trans (h:Cel z S K v S1 K1 v1) (k:Cel z S1 K1 v1 S2 K2 v2):Cel z S K v S2 K2 v2:=by
 refine ⟨k.mem,⟨k.fr.os.trans h.fr.os,k.fr.output.trans h.fr.output,Nat.le_trans h.fr.size k.fr.size,fun b hb hs=>?_⟩,fun b hb=>?_⟩
 ·rw[k.fr.block b (Nat.lt_of_lt_of_le hb h.fr.size) (fun e=>(h.own b e).elim hs (fun e=>by omega)),h.fr.block b hb hs]
 ·rcases k.own b hb with e|e
  ·exact h.own b e
  ·exact .inr (Nat.le_trans h.fr.size e)
theorem Cel.push (h:Cel z S K v S1 K1 v1) {o:Obj}(e:v2.heap=v1.heap.push o) (e1:v2.os=v1.os) (e2:v2.output=v1.output):Cel z S K v S1 K1 v2:=by
 have g:Grows v1 v2:=⟨by rw[e];simp,fun b hb=>by rw[e,Array.getElem?_push,if_neg (by omega)],e1,e2⟩
 exact h.trans ⟨(h.mem.grows g).mem,⟨e1,e2,g.size,fun b hb _=>g.old b hb⟩,fun b hb=>.inl hb⟩
theorem Cel.same (h:Cel z S K v S1 K1 v1) (e:v2.heap=v1.heap) (e1:v2.os=v1.os) (e2:v2.output=v1.output):Cel z S K v S1 K1 v2:=by
 have g:Grows v1 v2:=⟨by rw[e];exact Nat.le_refl _,fun b hb=>by rw[e],e1,e2⟩
 exact h.trans ⟨(h.mem.grows g).mem,⟨e1,e2,g.size,fun b hb _=>g.old b hb⟩,fun b hb=>.inl hb⟩
theorem Cel.from (h:Cel z S K v1 S1 K1 v2) (e:v1.heap=v.heap) (e1:v1.os=v.os) (e2:v1.output=v.output):Cel z S K v S1 K1 v2 :=
 ⟨h.mem,⟨h.fr.os.trans e1,h.fr.output.trans e2,by rw[←e];exact h.fr.size,fun b hb hs=>by rw[h.fr.block b (by rw[e];exact hb) hs,e]⟩,fun b hb=>by rw[←e];exact h.own b hb⟩
end
structure Asked (v:World) (S:TS) (n sb so:Nat) (pc:Nat->Option Addr) (ln cp rb:Nat->Nat) (cl:Nat->List Cl):Prop where
 len:∀ j,j<n->(cl j).length=ln j∧ln j≤64
 row:∀ k,k<n->v.cell? ⟨sb,so+k,none⟩=some (.slice (pc k) (ln k) (cp k))
 far:¬ Own S [] sb
 pq:∀ j,j<n->0<ln j->pc j=some ⟨rb j,roOf (pc j),none⟩∧¬ Own S [] (rb j)
 call:∀ j,j<n->∀ (k:Nat) (c:Cl),(cl j)[k]? = some c->v.cell? ⟨rb j,roOf (pc j)+k*4,none⟩=some (I c.po)∧v.cell? ⟨rb j,roOf (pc j)+k*4+1,none⟩=some (I c.ca)∧v.cell? ⟨rb j,roOf (pc j)+k*4+2,none⟩=some (I c.cb)∧v.cell? ⟨rb j,roOf (pc j)+k*4+3,none⟩=some (I c.cc)
 ca:∀ j,j<n->∀ c∈cl j,-9223372036854775808≤c.ca∧c.ca<9223372036854775808
structure Objs (v:World) (S:TS) (xs:List Int) (pk:Nat->Option Obj) (S1:TS) (K:List (Nat×Int)) (u:World):Prop where
 cel:Cel zn S [] v S1 K u
 vals:K.map (·.2)=xs
 st:∃ cv,S1=G2 S cv xs.length
 has:Has pk u
 new:∀ b,pk b≠none->(v.heap.size≤b∨b≠S.bk)∧¬ Own S1 K b
 row:∀ b o,pk b=some o->∃ c e f,o=.cells c e f
theorem Objs.same {v:World}{S:TS}{xs:List Int}{pk:Nat->Option Obj}{S1:TS}{K:List (Nat×Int)}{u u':World}(h:Objs v S xs pk S1 K u) (e:u'.heap=u.heap) (e1:u'.os=u.os) (e2:u'.output=u.output):Objs v S xs pk S1 K u' :=
 ⟨h.cel.same e e1 e2,h.vals,h.st,fun b o hb=>by rw[e];exact h.has b o hb,h.new,h.row⟩
section
variable {v u:World}{S S1:TS}{K:List (Nat×Int)}{n sb so:Nat}{pc:Nat->Option Addr}{ln cp rb:Nat->Nat}{cl:Nat->List Cl}{xs:List Int}{pk:Nat->Option Obj}
theorem told_of (hm:Mem zn S [] v) (hb:Open v S.bk) (t:Asked v S n sb so pc ln cp rb cl) (o:Objs v S xs pk S1 K u) :
 Told u S1 K pk n pc ln cp rb cl∧(∀ k,k<n->u.cell? ⟨sb,so+k,none⟩=some (.slice (pc k) (ln k) (cp k)))∧Open u S.bk∧v.heap.size≤u.heap.size ∧
  ∀ b,b<v.heap.size->¬ Own S [] b->u.heap[b]? = v.heap[b]?∧¬ Own S1 K b:=by
 have no:∀ b,b<v.heap.size->¬ Own S [] b->¬ Own S1 K b:=fun b hb ho h=>(o.cel.own b h).elim ho (fun h=>by omega)
 have same:∀ b,b<v.heap.size->¬ Own S [] b->u.heap[b]? = v.heap[b]?:=fun b hb ho=>o.cel.fr.block b hb ho
 have hcell:∀ (a:Addr) (x:Value),¬ Own S [] a.block->v.cell? a=some x->u.cell? a=some x:=fun a x ho ha=>by
  rw[World.cell?_of_block (w:=v) (w':=u) (same a.block (World.block_lt_of_cell? _ _ ha) ho)]
  exact ha
 have hbkl:S.bk<v.heap.size:=by obtain ⟨c,m,h⟩:=hb;exact (Array.getElem?_eq_some_iff.1 h).1
 have hbk:¬ Own S [] S.bk:=fun h=>by
  obtain ⟨c,m,hh⟩:=hb
  obtain ⟨x,e,f,h1⟩:=hm.row h
  rw[h1] at hh;cases hh
 have hO:Open u S.bk:=by
  obtain ⟨c,m,hh⟩:=hb
  exact ⟨c,m,by rw[same _ hbkl hbk];exact hh⟩
 have e1:S1.bk=S.bk:=by obtain ⟨cv,rfl⟩:=o.st;rfl
 refine ⟨⟨o.has,fun b hb=>⟨(o.new b hb).2,by have:=(o.new b hb).1;rw[e1];rcases this with h|h;omega;exact h⟩,o.row,t.len,fun j hj h0=>?_,fun j hj k c hc=>?_,t.ca⟩,fun k hk=>hcell _ _ t.far (t.row k hk),hO,o.cel.fr.size,fun b hb ho=>⟨same b hb ho,no b hb ho⟩⟩
 ·have h1:=t.pq j hj h0
  obtain ⟨c,hc⟩:∃ c,(cl j)[0]? = some c:=⟨_,List.getElem?_eq_getElem (by have:=t.len j hj;omega)⟩
  have hl:=World.block_lt_of_cell? _ _ (t.call j hj 0 c hc).1
  exact ⟨h1.1,no _ hl h1.2⟩
 ·have h0:0<ln j:=by have:=(List.getElem?_eq_some_iff.1 hc).1;have:=t.len j hj;omega
  have ho:=(t.pq j hj h0).2
  have h4:=t.call j hj k c hc
  exact ⟨hcell _ _ ho h4.1,hcell _ _ ho h4.2.1,hcell _ _ ho h4.2.2.1,hcell _ _ ho h4.2.2.2⟩
end
structure GOut (w:World) (S:TS) (n:Nat) (ln:Nat->Nat) (N:Nat) (S':TS) (K':List (Nat×Int)) (l:Nat->Ph) (w':World):Prop where
 mem:Mem zn S' K' w'
 size:w.heap.size≤w'.heap.size
 low:w.heap.size≤N
 old:∀ b,b<w.heap.size->¬ Own S [] b->b≠S.bk->w'.heap[b]? = w.heap[b]?∧¬ Own S' K' b
 rows:∀ j,j<n->w'.cell? ⟨N+1,j,none⟩=some (.slice (some ⟨N+4+3*j+2,0,none⟩) (ln j) (ln j))
 ans:∀ j,j<n->(l j).ans.length=ln j∧(0<ln j->w'.heap[N+4+3*j+2]? = some (.cells (arow (l j).ans).toArray 38 (0,0)))∧∃ a,l j=.done a
 os:w'.os=w.os
 out:w'.output=w.output
section
variable {mc:Mc}{fid:FuncId}{S:TS}{n sb so:Nat}{pc:Nat->Option Addr}{ln cp rb:Nat->Nat}{cl:Nat->List Cl}{xs:List Int}
theorem gplay_all (P:Pkg mc fid) {Q:Array Value->(Nat->Option Obj)->List (Nat×Int)->Prop}(hQ:∀ caps pk K,Q caps pk K->∀ X:Fix mc,X.fid=fid->X.caps=caps->X.pk=pk->X.kb=K.map (·.1)->P.Mine X)
 {cap:Nat} {cs:List Frame} {bc:Frame} {ac:Act} {ops:Array Oper} {q0:Nat} {rest:List Nat} {oc:Oper} {k0:List Item} {w:World} {T:Trace} {gs:Array Goroutine} {q:Nat->Nat} (sl:Option (Nat×Nat)) (NT:Nat) (A:Alone gs w T q) {g0:Goroutine} (hg:gs[0]? = some g0)
 (hG:GoesI Tryd.prog true (DT (ScZ zn) (fun _=>False)) (fun g w'=>∃ (bd:Frame) (ad:Act) (od:Array Oper) (qd:Nat) (rd:List Nat) (oe:Oper) (kd:List Item) (caps:Array Value) (pk:Nat->Option Obj) (S1:TS) (K:List (Nat×Int)),Objs w S xs pk S1 K w'∧Q caps pk K∧od[qd]? = some oe ∧
   (∀ (Ch:Nat->Prop) (Stop:Goroutine->World->Prop) (w1:World) (x:Value),(∀ d,GoesI Tryd.prog true (DT (ScZ zn) Ch) Stop (G (bc.at (ac.put oc.dst (.tuple #[x,I 0])) (.inRegion ops rest :: k0)) cs) (w1.at d))->GoesI Tryd.prog true (DT (ScZ zn) Ch) Stop (G (bd.at (ad.put oe.dst x) (.inRegion od rd :: kd)) (bc.at ac (.inRegion ops (q0 :: rest) :: k0) :: cs)) w1) ∧
   g=G ((base 60).at { tmps:=#[Pt S.wb 0,.slice (some ⟨sb,so,none⟩) n cap,.func (.func fid) (mc.bn caps) (mc.fr caps)]++Array.replicate 36 undef,defers:=[] } [.code B20]) (bd.at ad (.inRegion od (qd :: rd) :: kd) :: bc.at ac (.inRegion ops (q0 :: rest) :: k0) :: cs)) g0 w)
 (hm:Mem zn S [] w) (hthr:S.thr=[]) (hran:S.ran=false) (hbk:Open w S.bk) (t:Asked w S n sb so pc ln cp rb cl) (hn8:0<n∧n≤8)
 (hlen:∀ caps pk N K,S.n+2*lens (scrs mc fid caps pk N n K pc ln cp rb cl)≤1000000) (hsl:S.sched.length≤4611686018427387904) (hsc:∀ x∈S.sched,-9223372036854775808≤x∧x<9223372036854775808) (l0:Nat->Ph)
 (hturn:∀ (caps:Array Value) (pk:Nat->Option Obj) (N:Nat) (cv:Value) (K:List (Nat×Int)),K.map (·.2)=xs->∀ S1 l1,Hires mc 0 (scrs mc fid caps pk N n K pc ln cp rb cl) (nv { G2 S cv xs.length with ran:=true }) l0 S1 l1->∃ m p',m≤NT∧Turns mc m ⟨S1,K,l1⟩ p'∧p'.S.n*40≤140737488355328) :
 ∃ (N':Nat) (gs':Array Goroutine) (w':World) (sl':Option (Nat×Nat)) (T':Trace) (q':Nat->Nat) (caps:Array Value) (pk:Nat->Option Obj) (N:Nat) (cv:Value) (K:List (Nat×Int)) (S':TS) (S1:TS) (l1:Nat->Ph) (m:Nat) (p':PSt),
   runNT Tryd.prog N' (crowd gs w sl) T=(.next (crowd gs' w' sl'),T')∧gs'.size=gs.size+n∧gs'[0]? = some (G (bc.at (ac.put oc.dst (.tuple #[.slice (some ⟨N+1,0,none⟩) n n,I 0])) (.inRegion ops rest :: k0)) cs) ∧
   Alone gs' w' T' q'∧K.map (·.2)=xs∧nv S'=p'.S∧Hires mc 0 (scrs mc fid caps pk N n K pc ln cp rb cl) (nv { G2 S cv xs.length with ran:=true }) l0 S1 l1∧Turns mc m ⟨S1,K,l1⟩ p'∧GOut w S n ln N S' p'.K p'.l w':=by
 obtain ⟨N1,gs1,a1,w1,sl1,T1,q1,r1,z1,h1,⟨bd,ad,od,qd,rd,oe,kd,caps,pk,S1,K,ho,hq,hoe,hback,rfl⟩,A1⟩:=Cy A hg sl hG
 obtain ⟨t1,hs1,hbk1,hsz1,hold1⟩:=told_of hm hbk t ho
 obtain ⟨cv,rfl⟩:=ho.st
 have hsb:sb<w1.heap.size:=World.block_lt_of_cell? _ _ (hs1 0 hn8.1)
 obtain ⟨N2,gs2,w2,sl2,T2,q2,S2,S3,l1,m,p',r2,z2,h2,A2,hnv,hH,hT,O⟩:=run20_all P (hQ caps pk K hq) (S:=G2 S cv xs.length) (K:=K) hoe sl1 NT A1 h1 ho.cel.mem hthr hran hbk1 t1 hs1 hsb hn8.2 (hlen _ _ _ _) hsl hsc l0 (hturn _ _ _ cv K ho.vals)
 obtain ⟨N3,gs3,a3,w3,sl3,T3,q3,r3,z3,h3,⟨rfl,d3,rfl⟩,A3⟩:=Cy A2 h2 sl2 (hback (fun _=>False) (fun g w'=>g=G (bc.at (ac.put oc.dst (.tuple #[.slice (some ⟨w1.heap.size+1,0,none⟩) n n,I 0])) (.inRegion ops rest :: k0)) cs∧∃ d,w'=w2.at d) w2 _ (fun d=>GoesI.stop fun d'=>⟨rfl,d',rfl⟩))
 refine ⟨N1+N2+N3,gs3,w2.at d3,sl3,T3,q3,caps,pk,w1.heap.size,cv,K,S2,S3,l1,m,p',runNT_then (runNT_then r1 r2) r3,by omega,h3,A3,ho.vals,hnv,hH,hT,⟨(O.mem.grows (v':=w2.at d3) ⟨Nat.le_refl _,fun _ _=>rfl,rfl,rfl⟩).mem,Nat.le_trans hsz1 O.size,hsz1,fun b hb hob hk=>?_,O.rows,O.ans,O.os.trans ho.cel.fr.os,O.out.trans ho.cel.fr.output⟩⟩
 have h5:=hold1 b hb hob
 have h6:=O.old b (by omega) h5.2 hk
 exact ⟨h6.1.trans h5.1,h6.2⟩
end
def lits (u:Nat->Value):Nat->Nat->List Value
 |_,0=>[]
 |s,n+1=>u s :: lits u (s+1) n
theorem lits_get (u:Nat->Value):∀ (n s i:Nat),(lits u s n)[i]? = if i<n then some (u (s+i)) else none
 |0,s,i=>by simp[lits]
 |n+1,s,0=>by simp[lits]
 |n+1,s,i+1=>by
  have:=lits_get u n (s+1) i
  simp only[lits,List.getElem?_cons_succ,this,Nat.add_lt_add_iff_right]
  rw[show s+1+i=s+(i+1) by omega]
theorem litN {n:Nat} {a:Act} (h:a.tmps.size=n) (hd:a.defers=[]):∃ u:Nat->Value,a={ tmps:=(lits u 0 n).toArray,defers:=[] }∧∀ i,a.tmps.getD i undef=u i:=by
 obtain ⟨⟨l⟩,ds⟩:=a
 simp only at hd h
 subst hd
 refine ⟨fun i=>(Array.mk l).getD i undef,?_,fun i=>rfl⟩
 have e:l=lits (fun i=>(Array.mk l).getD i undef) 0 n:=by
  apply List.ext_getElem?
  intro i
  rw[lits_get]
  have hl:l.length=n:=h
  by_cases hi:i<n
  ·rw[if_pos hi,List.getElem?_eq_getElem (by omega)]
   simp[Array.getD,hl,hi]
  ·rw[if_neg hi,List.getElem?_eq_none (by omega)]
 exact congrArg (fun x=>({ tmps:=x.toArray,defers:=[] }:Act)) e
def Fl (n:Nat) (l:List (Nat×Value)) (a:Act):Prop:=a.tmps.size=n∧a.defers=[]∧∀ p∈l,a.tmps.getD p.1 undef=p.2
theorem Fl.sub {n:Nat}{l l':List (Nat×Value)}{a:Act}(h:Fl n l a) (hs:∀ p∈l',p∈l):Fl n l' a:=⟨h.1,h.2.1,fun p hp=>h.2.2 p (hs p hp)⟩
theorem Fl.at {n:Nat}{l:List (Nat×Value)}{a:Act}(h:Fl n l a) (k:Nat) (v:Value) (hs:(k,v)∈l):a.eval (.tmp k)=v:=h.2.2 (k,v) hs
def padd (pk:Nat->Option Obj) (b:Nat) (o:Obj):Nat->Option Obj:=fun x=>if x=b then some o else pk x
theorem Ey (pk:Nat->Option Obj) (b:Nat) (o:Obj):padd pk b o b=some o:=by unfold padd;rw[if_pos rfl]
theorem D2 {pk:Nat->Option Obj}{b x:Nat}{o:Obj}(h:x≠b):padd pk b o x=pk x:=by unfold padd;rw[if_neg h]
theorem cell_of {v:World}{b j:Nat}{c:Array Value}{t:TypeId}{f:Nat×Nat}{x:Value}(h:v.heap[b]? = some (.cells c t f)) (hj:c[j]? = some x):v.cell? ⟨b,j,none⟩=some x:=by
 unfold World.cell?
 rw[h]
 exact hj
section
variable {v u u':World}{S S1:TS}{K:List (Nat×Int)}{xs:List Int}{pk:Nat->Option Obj}
theorem Objs.start (hm:Mem zn S [] v) (hch:S.chg=[]):Objs v S [] (fun _=>none) S [] v :=
 ⟨Cel.refl hm,rfl,⟨S.cv,by unfold G2;rw[List.length_nil,List.replicate_zero,←hch]⟩,fun b o h=>(by cases h),fun b h=>absurd rfl h,fun b o h=>(by cases h)⟩
theorem Objs.startG (hm:Mem zn S [] v) (hch:S.chg=[]) (hpk:Has pk v) (hf:∀ b,pk b≠none->¬ Own S [] b∧b≠S.bk) (hr:∀ b o,pk b=some o->∃ c e f,o=.cells c e f):Objs v S [] pk S [] v :=
 ⟨Cel.refl hm,rfl,⟨S.cv,by unfold G2;rw[List.length_nil,List.replicate_zero,←hch]⟩,hpk,fun b h=>⟨.inr (hf b h).2,(hf b h).1⟩,hr⟩
theorem Objs.push (h:Objs v S xs pk S1 K u) {c:Array Value}{t:TypeId}(e:u'.heap=u.heap.push (.cells c t)) (e1:u'.os=u.os) (e2:u'.output=u.output):Objs v S xs (padd pk u.heap.size (.cells c t)) S1 K u':=by
 refine ⟨h.cel.push e e1 e2,h.vals,h.st,fun b o hb=>?_,fun b hb=>?_,fun b o hb=>?_⟩
 ·by_cases hbu:b=u.heap.size
  ·subst hbu
   rw[Ey] at hb
   cases hb
   rw[e]
   exact Array.getElem?_push_size
  ·rw[D2 hbu] at hb
   have:=h.has b o hb
   have hl:=(Array.getElem?_eq_some_iff.1 this).1
   rw[e,Array.getElem?_push,if_neg (by omega)]
   exact this
 ·by_cases hbu:b=u.heap.size
  ·subst hbu
   exact ⟨.inl h.cel.fr.size,fun ho=>by have:=h.cel.mem.lt ho;omega⟩
  ·rw[D2 hbu] at hb
   exact h.new b hb
 ·by_cases hbu:b=u.heap.size
  ·subst hbu
   rw[Ey] at hb
   cases hb
   exact ⟨_,_,_,rfl⟩
  ·rw[D2 hbu] at hb
   exact h.row b o hb
theorem Objs.more (h:Objs v S xs pk S1 K u) {S2:TS}{K2:List (Nat×Int)}{ys:List Int}(c:Cel zn S1 K u S2 K2 u') (hv:K2.map (·.2)=ys) (hs:∃ cv,S2=G2 S cv ys.length):Objs v S ys pk S2 K2 u':=by
 have hl:∀ b o,pk b=some o->b<u.heap.size:=fun b o hb=>(Array.getElem?_eq_some_iff.1 (h.has b o hb)).1
 refine ⟨h.cel.trans c,hv,hs,fun b o hb=>?_,fun b hb=>?_,h.row⟩
 ·rw[c.fr.block b (hl b o hb) (h.new b (by rw[hb];simp)).2]
  exact h.has b o hb
 ·obtain ⟨o,ho⟩:=Option.ne_none_iff_exists'.1 hb
  refine ⟨(h.new b hb).1,fun ho'=>?_⟩
  rcases c.own b ho' with e|e
  ·exact (h.new b hb).2 e
  ·have:=hl b o ho;omega
theorem Objs.cell (h:Objs v S xs pk S1 K u) (x:Int) (hl:xs.length≤1000000):Calls Tryd.prog 63 #[Pt S.wb 0,I x] u (fun e w'=>∃ cb,e=.returned (Pt cb 0)∧u.heap.size≤w'.heap.size∧∃ S2,Objs v S (xs++[x]) pk S2 (K++[(cb,x)]) w'):=by
 obtain ⟨cv,rfl⟩:=h.st
 have h10:=(body10 h.cel.mem x (by show (List.replicate xs.length (0:Int)).length≤_;simp;omega)).calls Tryd.func63 rfl
 refine h10.mono ?_
 rintro e w' ⟨r,rfl,cb,cv',rfl,hm1,hf1,hn1⟩
 refine ⟨cb,rfl,hf1.size,_,h.more ⟨hm1,hf1,hn1⟩ (by rw[List.map_append,h.vals];rfl) ⟨cv',?_⟩⟩
 unfold D6 G2
 simp only[List.length_append,List.length_cons,List.length_nil,Nat.zero_add,List.replicate_succ']
end
theorem goesI_retZ {Ch:Nat->Prop}{Stop:Goroutine->World->Prop}{main:Bool}{f:FuncId}{c:Code}{act:Act}{more:List Item}{cs:List Frame}{v w:World}{Q:Act->World->Prop}(hvw:Rel zn v w) (hn:Ak Ch v) (hc:Av Tryd.prog true LV c) (ha:act.defers=[])
 (hwp:∀ τ,c.wp Tryd.prog (fun e a w'=>e=.ret∧Q a w') act (Ao v τ 0))
 (h:∀ a' v' w' todo,Q a' v'->a'.defers=[]->Rel zn v' w'->Ak Ch v'->GoesI Tryd.prog main (DT (ScZ zn) Ch) Stop (G { (base f).at a' todo with mode:=.returning } cs) w') :
 GoesI Tryd.prog main (DT (ScZ zn) Ch) Stop (G ((base f).at act (.code c :: more)) cs) w:=by
 have hfin:=Gr (P:=Tryd.prog) (z:=zn) (wr:=true) (L:=LV) (D:=DT (ScZ zn) Ch) (I:=Ak Ch) (main:=main) (b:=base f) (k:=more) (cs:=cs) hE Gc Ap (fun v v' w w' es hi hr ho he=>Be v v' w w' es hi hr ho he) hvw hc ha (by simp[base]) hn
  (Q:=fun e a w'=>e=.ret∧Q a w') hwp (fun e a w hq=>.inr hq.1)
 refine hfin.then ?_
 rintro g w' ⟨a',v',hr,hiv,hd,⟨⟨hq,_⟩,_⟩|⟨⟨_,hQ⟩,todo,rfl⟩⟩
 ·cases hq
 ·exact h a' v' w' todo hQ hd hr hiv
theorem _root_.Go.Proofs.YtcfmffmcammbjaaDoor.Grows.toAt {W v w:World}(h:Grows W v) (hr:Rel zn v w) (d:Nat):Grows W (w.at d):=by
 have e:(w.at d).heap=v.heap:=hr.eq
 exact ⟨by rw[e];exact h.size,fun b hb=>by rw[e];exact h.old b hb,hr.os.trans h.os,hr.output.trans h.output⟩
theorem _root_.Go.Proofs.YtcfmffmcammbjaaDoor.Grows.andThen {W v w:World}(h:Grows W v) (k:Grows v w):Grows W w:=⟨Nat.le_trans h.size k.size,fun b hb=>by rw[k.old b (by have:=h.size;omega),h.old b hb],k.os.trans h.os,k.output.trans h.output⟩
def PostT (W:World) (r:Value) (w':World):Prop:=r=.bool true∧Grows W w'
end Go.Proofs.YtcfmffmcammbjaaDoor.Gen
namespace Go.Proofs.YtcfmffmcammbjaaDoor
open Go Go.Lift Go.Conc Go.RowKit
def plainX3:List FuncId:=[62,96,99,102,98,107,116,128,65,100,101,103,67,68,71,74,75,87,89,90,129,25,39,54,78,17,23,63,26,59,95,91,32,19,58,30,20,21,22,27,31,34,35,36,37,38,44,45,46,47,48,53,56,24,49,50,82,83,84,85,111,112,113,114,115,130,131,132,154,155]
def LX3 (f:FuncId):Prop:=f∈plainX3
theorem Az:∀ f∈plainX3,Dd Tryd.prog LX3 f:=by
 intro f hf
 have hf':=hf
 simp only[plainX3,List.mem_cons,List.not_mem_nil,or_false] at hf
 rcases hf with rfl|rfl|rfl|rfl|rfl|rfl|rfl|rfl|rfl|rfl|rfl|rfl|rfl|rfl|rfl|rfl|rfl|rfl|rfl|rfl|rfl|rfl|rfl|rfl|rfl|rfl|rfl|rfl|rfl|rfl|rfl|rfl|rfl|rfl|rfl|rfl|rfl|rfl|rfl|rfl|rfl|rfl|rfl|rfl|rfl|rfl|rfl|rfl|rfl|rfl|rfl|rfl|rfl|rfl|rfl|rfl|rfl|rfl|rfl|rfl|rfl|rfl|rfl|rfl|rfl|rfl|rfl|rfl|rfl|rfl
 ·exact ⟨hf',Tryd.f62,Tryd.func62,by kernel_rfl,by kernel_rfl⟩
 ·exact ⟨hf',Tryd.f96,Tryd.func96,by kernel_rfl,by kernel_rfl⟩
 ·exact ⟨hf',Tryd.f99,Tryd.func99,by kernel_rfl,by kernel_rfl⟩
 ·exact ⟨hf',Tryd.f102,Tryd.func102,by kernel_rfl,by kernel_rfl⟩
 ·exact ⟨hf',Tryd.f98,Tryd.func98,by kernel_rfl,by kernel_rfl⟩
 ·exact ⟨hf',Tryd.f107,Tryd.func107,by kernel_rfl,by kernel_rfl⟩
 ·exact ⟨hf',Tryd.f116,Tryd.func116,by kernel_rfl,by kernel_rfl⟩
 ·exact ⟨hf',Tryd.f128,Tryd.func128,by kernel_rfl,by kernel_rfl⟩
 ·exact ⟨hf',Tryd.f65,Tryd.func65,by kernel_rfl,by kernel_rfl⟩
 ·exact ⟨hf',Tryd.f100,Tryd.func100,by kernel_rfl,by kernel_rfl⟩
 ·exact ⟨hf',Tryd.f101,Tryd.func101,by kernel_rfl,by kernel_rfl⟩
 ·exact ⟨hf',Tryd.f103,Tryd.func103,by kernel_rfl,by kernel_rfl⟩
 ·exact ⟨hf',Tryd.f67,Tryd.func67,by kernel_rfl,by kernel_rfl⟩
 ·exact ⟨hf',Tryd.f68,Tryd.func68,by kernel_rfl,by kernel_rfl⟩
 ·exact ⟨hf',Tryd.f71,Tryd.func71,by kernel_rfl,by kernel_rfl⟩
 ·exact ⟨hf',Tryd.f74,Tryd.func74,by kernel_rfl,by kernel_rfl⟩
 ·exact ⟨hf',Tryd.f75,Tryd.func75,by kernel_rfl,by kernel_rfl⟩
 ·exact ⟨hf',Tryd.f87,Tryd.func87,by kernel_rfl,by kernel_rfl⟩
 ·exact ⟨hf',Tryd.f89,Tryd.func89,by kernel_rfl,by kernel_rfl⟩
 ·exact ⟨hf',Tryd.f90,Tryd.func90,by kernel_rfl,by kernel_rfl⟩
 ·exact ⟨hf',Tryd.f129,Tryd.func129,by kernel_rfl,by kernel_rfl⟩
 ·exact ⟨hf',Tryd.f25,Tryd.func25,by kernel_rfl,by kernel_rfl⟩
 ·exact ⟨hf',Tryd.f39,Tryd.func39,by kernel_rfl,by kernel_rfl⟩
 ·exact ⟨hf',Tryd.f54,Tryd.func54,by kernel_rfl,by kernel_rfl⟩
 ·exact ⟨hf',Tryd.f78,Tryd.func78,by kernel_rfl,by kernel_rfl⟩
 ·exact ⟨hf',Tryd.f17,Tryd.func17,by kernel_rfl,by kernel_rfl⟩
 ·exact ⟨hf',Tryd.f23,Tryd.func23,by kernel_rfl,by kernel_rfl⟩
 ·exact ⟨hf',Tryd.f63,Tryd.func63,by kernel_rfl,by kernel_rfl⟩
 ·exact ⟨hf',Tryd.f26,Tryd.func26,by kernel_rfl,by kernel_rfl⟩
 ·exact ⟨hf',Tryd.f59,Tryd.func59,by kernel_rfl,by kernel_rfl⟩
 ·exact ⟨hf',Tryd.f95,Tryd.func95,by kernel_rfl,by kernel_rfl⟩
 ·exact ⟨hf',Tryd.f91,Tryd.func91,by kernel_rfl,by kernel_rfl⟩
 ·exact ⟨hf',Tryd.f32,Tryd.func32,by kernel_rfl,by kernel_rfl⟩
 ·exact ⟨hf',Tryd.f19,Tryd.func19,by kernel_rfl,by kernel_rfl⟩
 ·exact ⟨hf',Tryd.f58,Tryd.func58,by kernel_rfl,by kernel_rfl⟩
 ·exact ⟨hf',Tryd.f30,Tryd.func30,by kernel_rfl,by kernel_rfl⟩
 ·exact ⟨hf',Tryd.f20,Tryd.func20,by kernel_rfl,by kernel_rfl⟩
 ·exact ⟨hf',Tryd.f21,Tryd.func21,by kernel_rfl,by kernel_rfl⟩
 ·exact ⟨hf',Tryd.f22,Tryd.func22,by kernel_rfl,by kernel_rfl⟩
 ·exact ⟨hf',Tryd.f27,Tryd.func27,by kernel_rfl,by kernel_rfl⟩
 ·exact ⟨hf',Tryd.f31,Tryd.func31,by kernel_rfl,by kernel_rfl⟩
 ·exact ⟨hf',Tryd.f34,Tryd.func34,by kernel_rfl,by kernel_rfl⟩
 ·exact ⟨hf',Tryd.f35,Tryd.func35,by kernel_rfl,by kernel_rfl⟩
 ·exact ⟨hf',Tryd.f36,Tryd.func36,by kernel_rfl,by kernel_rfl⟩
 ·exact ⟨hf',Tryd.f37,Tryd.func37,by kernel_rfl,by kernel_rfl⟩
 ·exact ⟨hf',Tryd.f38,Tryd.func38,by kernel_rfl,by kernel_rfl⟩
 ·exact ⟨hf',Tryd.f44,Tryd.func44,by kernel_rfl,by kernel_rfl⟩
 ·exact ⟨hf',Tryd.f45,Tryd.func45,by kernel_rfl,by kernel_rfl⟩
 ·exact ⟨hf',Tryd.f46,Tryd.func46,by kernel_rfl,by kernel_rfl⟩
 ·exact ⟨hf',Tryd.f47,Tryd.func47,by kernel_rfl,by kernel_rfl⟩
 ·exact ⟨hf',Tryd.f48,Tryd.func48,by kernel_rfl,by kernel_rfl⟩
 ·exact ⟨hf',Tryd.f53,Tryd.func53,by kernel_rfl,by kernel_rfl⟩
 ·exact ⟨hf',Tryd.f56,Tryd.func56,by kernel_rfl,by kernel_rfl⟩
 ·exact ⟨hf',Tryd.f24,Tryd.func24,by kernel_rfl,by kernel_rfl⟩
 ·exact ⟨hf',Tryd.f49,Tryd.func49,by kernel_rfl,by kernel_rfl⟩
 ·exact ⟨hf',Tryd.f50,Tryd.func50,by kernel_rfl,by kernel_rfl⟩
 ·exact ⟨hf',Tryd.f82,Tryd.func82,by kernel_rfl,by kernel_rfl⟩
 ·exact ⟨hf',Tryd.f83,Tryd.func83,by kernel_rfl,by kernel_rfl⟩
 ·exact ⟨hf',Tryd.f84,Tryd.func84,by kernel_rfl,by kernel_rfl⟩
 ·exact ⟨hf',Tryd.f85,Tryd.func85,by kernel_rfl,by kernel_rfl⟩
 ·exact ⟨hf',Tryd.f111,Tryd.func111,by kernel_rfl,by kernel_rfl⟩
 ·exact ⟨hf',Tryd.f112,Tryd.func112,by kernel_rfl,by kernel_rfl⟩
 ·exact ⟨hf',Tryd.f113,Tryd.func113,by kernel_rfl,by kernel_rfl⟩
 ·exact ⟨hf',Tryd.f114,Tryd.func114,by kernel_rfl,by kernel_rfl⟩
 ·exact ⟨hf',Tryd.f115,Tryd.func115,by kernel_rfl,by kernel_rfl⟩
 ·exact ⟨hf',Tryd.f130,Tryd.func130,by kernel_rfl,by kernel_rfl⟩
 ·exact ⟨hf',Tryd.f131,Tryd.func131,by kernel_rfl,by kernel_rfl⟩
 ·exact ⟨hf',Tryd.f132,Tryd.func132,by kernel_rfl,by kernel_rfl⟩
 ·exact ⟨hf',Tryd.f154,Tryd.func154,by kernel_rfl,by kernel_rfl⟩
 ·exact ⟨hf',Tryd.f155,Tryd.func155,by kernel_rfl,by kernel_rfl⟩
theorem fineX3:∀ f,LX3 f->Db Tryd.prog true LX3 f:=by
 intro f hf
 simp only[LX3,plainX3,List.mem_cons,List.not_mem_nil,or_false] at hf
 rcases hf with rfl|rfl|rfl|rfl|rfl|rfl|rfl|rfl|rfl|rfl|rfl|rfl|rfl|rfl|rfl|rfl|rfl|rfl|rfl|rfl|rfl|rfl|rfl|rfl|rfl|rfl|rfl|rfl|rfl|rfl|rfl|rfl|rfl|rfl|rfl|rfl|rfl|rfl|rfl|rfl|rfl|rfl|rfl|rfl|rfl|rfl|rfl|rfl|rfl|rfl|rfl|rfl|rfl|rfl|rfl|rfl|rfl|rfl|rfl|rfl|rfl|rfl|rfl|rfl|rfl|rfl|rfl|rfl|rfl|rfl
 ·exact Ab Az extT Tryd.func62 (c:=Tryd.f62.body.getD .skip) (by rfl) (by kernel_rfl)
 ·exact Ab Az extT Tryd.func96 (c:=Tryd.f96.body.getD .skip) (by rfl) (by kernel_rfl)
 ·exact Ab Az extT Tryd.func99 (c:=Tryd.f99.body.getD .skip) (by rfl) (by kernel_rfl)
 ·exact Ab Az extT Tryd.func102 (c:=Tryd.f102.body.getD .skip) (by rfl) (by kernel_rfl)
 ·exact Ab Az extT Tryd.func98 (c:=Tryd.f98.body.getD .skip) (by rfl) (by kernel_rfl)
 ·exact Ab Az extT Tryd.func107 (c:=Tryd.f107.body.getD .skip) (by rfl) (by kernel_rfl)
 ·exact Ab Az extT Tryd.func116 (c:=Tryd.f116.body.getD .skip) (by rfl) (by kernel_rfl)
 ·exact Ab Az extT Tryd.func128 (c:=Tryd.f128.body.getD .skip) (by rfl) (by kernel_rfl)
 ·exact Ab Az extT Tryd.func65 (c:=Tryd.f65.body.getD .skip) (by rfl) (by kernel_rfl)
 ·exact Ab Az extT Tryd.func100 (c:=Tryd.f100.body.getD .skip) (by rfl) (by kernel_rfl)
 ·exact Ab Az extT Tryd.func101 (c:=Tryd.f101.body.getD .skip) (by rfl) (by kernel_rfl)
 ·exact Ab Az extT Tryd.func103 (c:=Tryd.f103.body.getD .skip) (by rfl) (by kernel_rfl)
 ·exact Ab Az extT Tryd.func67 (c:=Tryd.f67.body.getD .skip) (by rfl) (by kernel_rfl)
 ·exact Ab Az extT Tryd.func68 (c:=Tryd.f68.body.getD .skip) (by rfl) (by kernel_rfl)
 ·exact Ab Az extT Tryd.func71 (c:=Tryd.f71.body.getD .skip) (by rfl) (by kernel_rfl)
 ·exact Ab Az extT Tryd.func74 (c:=Tryd.f74.body.getD .skip) (by rfl) (by kernel_rfl)
 ·exact Ab Az extT Tryd.func75 (c:=Tryd.f75.body.getD .skip) (by rfl) (by kernel_rfl)
 ·exact Ab Az extT Tryd.func87 (c:=Tryd.f87.body.getD .skip) (by rfl) (by kernel_rfl)
 ·exact Ab Az extT Tryd.func89 (c:=Tryd.f89.body.getD .skip) (by rfl) (by kernel_rfl)
 ·exact Ab Az extT Tryd.func90 (c:=Tryd.f90.body.getD .skip) (by rfl) (by kernel_rfl)
 ·exact Ab Az extT Tryd.func129 (c:=Tryd.f129.body.getD .skip) (by rfl) (by kernel_rfl)
 ·exact Ab Az extT Tryd.func25 (c:=Tryd.f25.body.getD .skip) (by rfl) (by kernel_rfl)
 ·exact Ab Az extT Tryd.func39 (c:=Tryd.f39.body.getD .skip) (by rfl) (by kernel_rfl)
 ·exact Ab Az extT Tryd.func54 (c:=Tryd.f54.body.getD .skip) (by rfl) (by kernel_rfl)
 ·exact Ab Az extT Tryd.func78 (c:=Tryd.f78.body.getD .skip) (by rfl) (by kernel_rfl)
 ·exact Ab Az extT Tryd.func17 (c:=Tryd.f17.body.getD .skip) (by rfl) (by kernel_rfl)
 ·exact Ab Az extT Tryd.func23 (c:=Tryd.f23.body.getD .skip) (by rfl) (by kernel_rfl)
 ·exact Ab Az extT Tryd.func63 (c:=Tryd.f63.body.getD .skip) (by rfl) (by kernel_rfl)
 ·exact Ab Az extT Tryd.func26 (c:=Tryd.f26.body.getD .skip) (by rfl) (by kernel_rfl)
 ·exact Ab Az extT Tryd.func59 (c:=Tryd.f59.body.getD .skip) (by rfl) (by kernel_rfl)
 ·exact Ab Az extT Tryd.func95 (c:=Tryd.f95.body.getD .skip) (by rfl) (by kernel_rfl)
 ·exact Ab Az extT Tryd.func91 (c:=Tryd.f91.body.getD .skip) (by rfl) (by kernel_rfl)
 ·exact Ab Az extT Tryd.func32 (c:=Tryd.f32.body.getD .skip) (by rfl) (by kernel_rfl)
 ·exact Ab Az extT Tryd.func19 (c:=Tryd.f19.body.getD .skip) (by rfl) (by kernel_rfl)
 ·exact Ab Az extT Tryd.func58 (c:=Tryd.f58.body.getD .skip) (by rfl) (by kernel_rfl)
 ·exact Ab Az extT Tryd.func30 (c:=Tryd.f30.body.getD .skip) (by rfl) (by kernel_rfl)
 ·exact Ab Az extT Tryd.func20 (c:=Tryd.f20.body.getD .skip) (by rfl) (by kernel_rfl)
 ·exact Ab Az extT Tryd.func21 (c:=Tryd.f21.body.getD .skip) (by rfl) (by kernel_rfl)
 ·exact Ab Az extT Tryd.func22 (c:=Tryd.f22.body.getD .skip) (by rfl) (by kernel_rfl)
 ·exact Ab Az extT Tryd.func27 (c:=Tryd.f27.body.getD .skip) (by rfl) (by kernel_rfl)
 ·exact Ab Az extT Tryd.func31 (c:=Tryd.f31.body.getD .skip) (by rfl) (by kernel_rfl)
 ·exact Ab Az extT Tryd.func34 (c:=Tryd.f34.body.getD .skip) (by rfl) (by kernel_rfl)
 ·exact Ab Az extT Tryd.func35 (c:=Tryd.f35.body.getD .skip) (by rfl) (by kernel_rfl)
 ·exact Ab Az extT Tryd.func36 (c:=Tryd.f36.body.getD .skip) (by rfl) (by kernel_rfl)
 ·exact Ab Az extT Tryd.func37 (c:=Tryd.f37.body.getD .skip) (by rfl) (by kernel_rfl)
 ·exact Ab Az extT Tryd.func38 (c:=Tryd.f38.body.getD .skip) (by rfl) (by kernel_rfl)
 ·exact Ab Az extT Tryd.func44 (c:=Tryd.f44.body.getD .skip) (by rfl) (by kernel_rfl)
 ·exact Ab Az extT Tryd.func45 (c:=Tryd.f45.body.getD .skip) (by rfl) (by kernel_rfl)
 ·exact Ab Az extT Tryd.func46 (c:=Tryd.f46.body.getD .skip) (by rfl) (by kernel_rfl)
 ·exact Ab Az extT Tryd.func47 (c:=Tryd.f47.body.getD .skip) (by rfl) (by kernel_rfl)
 ·exact Ab Az extT Tryd.func48 (c:=Tryd.f48.body.getD .skip) (by rfl) (by kernel_rfl)
 ·exact Ab Az extT Tryd.func53 (c:=Tryd.f53.body.getD .skip) (by rfl) (by kernel_rfl)
 ·exact Ab Az extT Tryd.func56 (c:=Tryd.f56.body.getD .skip) (by rfl) (by kernel_rfl)
 ·exact Ab Az extT Tryd.func24 (c:=Tryd.f24.body.getD .skip) (by rfl) (by kernel_rfl)
 ·exact Ab Az extT Tryd.func49 (c:=Tryd.f49.body.getD .skip) (by rfl) (by kernel_rfl)
 ·exact Ab Az extT Tryd.func50 (c:=Tryd.f50.body.getD .skip) (by rfl) (by kernel_rfl)
 ·exact Ab Az extT Tryd.func82 (c:=Tryd.f82.body.getD .skip) (by rfl) (by kernel_rfl)
 ·exact Ab Az extT Tryd.func83 (c:=Tryd.f83.body.getD .skip) (by rfl) (by kernel_rfl)
 ·exact Ab Az extT Tryd.func84 (c:=Tryd.f84.body.getD .skip) (by rfl) (by kernel_rfl)
 ·exact Ab Az extT Tryd.func85 (c:=Tryd.f85.body.getD .skip) (by rfl) (by kernel_rfl)
 ·exact Ab Az extT Tryd.func111 (c:=Tryd.f111.body.getD .skip) (by rfl) (by kernel_rfl)
 ·exact Ab Az extT Tryd.func112 (c:=Tryd.f112.body.getD .skip) (by rfl) (by kernel_rfl)
 ·exact Ab Az extT Tryd.func113 (c:=Tryd.f113.body.getD .skip) (by rfl) (by kernel_rfl)
 ·exact Ab Az extT Tryd.func114 (c:=Tryd.f114.body.getD .skip) (by rfl) (by kernel_rfl)
 ·exact Ab Az extT Tryd.func115 (c:=Tryd.f115.body.getD .skip) (by rfl) (by kernel_rfl)
 ·exact Ab Az extT Tryd.func130 (c:=Tryd.f130.body.getD .skip) (by rfl) (by kernel_rfl)
 ·exact Ab Az extT Tryd.func131 (c:=Tryd.f131.body.getD .skip) (by rfl) (by kernel_rfl)
 ·exact Ab Az extT Tryd.func132 (c:=Tryd.f132.body.getD .skip) (by rfl) (by kernel_rfl)
 ·exact Ab Az extT Tryd.func154 (c:=Tryd.f154.body.getD .skip) (by rfl) (by kernel_rfl)
 ·exact Ab Az extT Tryd.func155 (c:=Tryd.f155.body.getD .skip) (by rfl) (by kernel_rfl)
end Go.Proofs.YtcfmffmcammbjaaDoor
namespace Go.Proofs.YtcfmffmcammbjaaDoor.Gen
open Go Go.Lift Go.Conc Go.RowKit
theorem goesI_retX {Ch:Nat->Prop}{Stop:Goroutine->World->Prop}{main:Bool}{f:FuncId}{c:Code}{act:Act}{more:List Item}{cs:List Frame}{v w:World}{Q:Act->World->Prop}(hvw:Rel zn v w) (hn:Ak Ch v) (hc:Av Tryd.prog true LX3 c) (ha:act.defers=[])
 (hwp:∀ τ,c.wp Tryd.prog (fun e a w'=>e=.ret∧Q a w') act (Ao v τ 0))
 (h:∀ a' v' w' todo,Q a' v'->a'.defers=[]->Rel zn v' w'->Ak Ch v'->GoesI Tryd.prog main (DT (ScZ zn) Ch) Stop (G { (base f).at a' todo with mode:=.returning } cs) w') :
 GoesI Tryd.prog main (DT (ScZ zn) Ch) Stop (G ((base f).at act (.code c :: more)) cs) w:=by
 have hfin:=Gr (P:=Tryd.prog) (z:=zn) (wr:=true) (L:=LX3) (D:=DT (ScZ zn) Ch) (I:=Ak Ch) (main:=main) (b:=base f) (k:=more) (cs:=cs) hE fineX3 Ap (fun v v' w w' es hi hr ho he=>Be v v' w w' es hi hr ho he) hvw hc ha (by simp[base]) hn
  (Q:=fun e a w'=>e=.ret∧Q a w') hwp (fun e a w hq=>.inr hq.1)
 refine hfin.then ?_
 rintro g w' ⟨a',v',hr,hiv,hd,⟨⟨hq,_⟩,_⟩|⟨⟨_,hQ⟩,todo,rfl⟩⟩
 ·cases hq
 ·exact h a' v' w' todo hQ hd hr hiv
end Go.Proofs.YtcfmffmcammbjaaDoor.Gen
