/- Of the proof of OnceAlone. Part 17 of 30. (Joined, by program, and written short, of: GNew, GPlay, GFree, Cas, GFree2, GReg.) -/
import Derived.Test.YtfjjoohflcchnaaDoorOnceAlone06
import Derived.Test.YtfjjoohflcchnaaDoorOnceAlone07
import Derived.Test.YtfjjoohflcchnaaDoorOnceAlone16
import Derived.Deep.RegionLaw
set_option linter.unusedSimpArgs false
set_option linter.unusedVariables false
set_option maxHeartbeats 4000000
set_option maxRecDepth 100000
namespace Go.Proofs.YtfjjoohflcchnaaDoor.Gen
open Go Go.Lift Go.Conc Go.RowKit
def newS (wb bk base:Nat) (sc:Value) (xs:List Int):TS :=
 { wb:=wb,bk:=bk,base:=base,us:=0,n:=0,la:=-1,sc:=sc,cv:=.slice none 0 0,ths:=.slice none 0 0,tv:=.slice none 0 0,sched:=xs,chg:=[],tr:=[],stk:=false,ran:=false,thr:=[] }
structure IsNew (v:World) (xs:List Int) (wb bk:Nat) (sc:Value) (v':World):Prop where
 mem:Mem zn (newS wb bk v.heap.size sc xs) [] v'
 opn:Open v' bk
 new:∀ b,Own (newS wb bk v.heap.size sc xs) [] b∨b=bk→v.heap.size≤b
 old:Grows v v'
abbrev rowNew (sc:Value) (bk:Nat):Array Value:=#[sc,I 0,I (-1),.slice none 0 0,.slice none 0 0,.slice none 0 0,.bool false,.bool false,.chan (some bk)]
theorem new_rep0 {v u v':World} {bk:Nat} (hg:Grows v u) (hbk:u.heap[bk]? = some (.chan 0 #[] false 0 0 false)) (hb:v.heap.size≤bk)
 (hh:v'.heap=u.heap.push (.cells (rowNew (.slice none 0 0) bk) 97)) (ho:v'.os=u.os) (hu:v'.output=u.output):IsNew v [] u.heap.size bk (.slice none 0 0) v':=by
 have hold:∀ b,b<u.heap.size→v'.heap[b]? = u.heap[b]?:=fun b hb=>by rw [hh,Array.getElem?_push,if_neg (by omega)]
 have hs':v'.heap.size=u.heap.size+1:=by rw [hh];simp
 have hsz:=hg.size
 have hblk:∀ k b,blk (newS u.heap.size bk v.heap.size (.slice none 0 0) []) k=some b→k=0∧b=u.heap.size:=fun k b hk=>by
  match k,hk with
  |0,hk=>cases hk;exact ⟨rfl,rfl⟩
  |1,hk=>cases hk
  |2,hk=>cases hk
  |3,hk=>cases hk
  |4,hk=>cases hk
  |k+5,hk=>simp [blk,newS] at hk
 refine ⟨⟨⟨?_,fun i t ht=>by simp [newS] at ht,World.ownsRow_nil _ _ _ _,World.ownsRow_nil _ _ _ _,World.ownsRow_nil _ _ _ _,World.ownsRow_nil _ _ _ _,by show v.heap.size≤_;omega,fun j k b hj hk=>?_,fun b n h=>by cases h⟩,fun j c hc=>by simp at hc,fun j c hc=>by simp at hc,fun i j c d hc=>by simp at hc,rfl⟩,⟨0,0,?_⟩,fun b hb'=>?_,⟨by omega,fun b hb'=>by rw [hold b (by omega),hg.old b hb'],ho.trans hg.os,hu.trans hg.output⟩⟩
 ·show v'.heap[u.heap.size]? = _
  rw [hh]
  exact Array.getElem?_push_size
 ·rw [(hblk j b hj).1,(hblk k b hk).1]
 ·rw [hold bk (Array.getElem?_eq_some_iff.1 hbk).1];exact hbk
 ·rcases hb' with (⟨k,hk⟩|⟨j,c,hc,_⟩)|rfl
  ·rw [(hblk k b hk).2];exact hsz
  ·simp at hc
  ·exact hb
theorem body70 {v:World} (p:Option Addr) (cap:Nat):Body Tryd.f17 #[.slice p 0 cap] v (fun r v'=>∃ wb bk sc,r=Pt wb 0∧IsNew v [] wb bk sc v'):=by
 intro code hb
 obtain rfl:=Option.some.inj hb
 clear hb
 have hmk:=run_mk
 obtain ⟨j0,hj,hj0,hj1,hj2⟩:=info_parts info3
 have HN:∀ v':World,v'.heap=(v.heap.push (.chan 0 #[] false 0 0 false)).push (.cells (rowNew (.slice none 0 0) v.heap.size) 97)→v'.os=v.os→v'.output=v.output→IsNew v [] (v.heap.size+1) v.heap.size (.slice none 0 0) v':=fun v' h4 h5 h6=>by
  have:=new_rep0 (v:=v) (u:=v.alloc (.chan 0 #[] false 0 0 false)) (v':=v') (bk:=v.heap.size) ⟨by show _≤(v.heap.push _).size;simp,fun b hb=>by show (v.heap.push _)[b]? = _;rw [Array.getElem?_push,if_neg (by omega)],rfl,rfl⟩ Array.getElem?_push_size (Nat.le_refl _) h4 h5 h6
  rw [show (v.alloc (.chan 0 #[] false 0 0 false)).heap.size=v.heap.size+1 by show (v.heap.push _).size=_;simp] at this
  exact this
 have HN:Hid _:=⟨HN⟩
 cases p
 all_goals
  simp only [Tryd.ntmps17,List.size_toArray,List.length_cons,List.length_nil,Nat.reduceAdd,Nat.reduceSub,Array.replicate_succ,Array.replicate_zero,List.push_toArray,List.append_toArray,List.nil_append,List.cons_append]
  go_wp2_with fail
  go_region_law fail
  all_goals
   go_wp2
   go_ret
   exact ⟨_,rfl,v.heap.size+1,v.heap.size,_,rfl,HN.out _ rfl rfl rfl⟩
def cellsS (S:TS) (cv:Value) (k:Nat):TS:={ S with cv:=cv,chg:=List.replicate k 0 }
structure Cel (z:Nat→Option Nat) (S:TS) (K:List (Nat×Int)) (v:World) (S':TS) (K':List (Nat×Int)) (v':World):Prop where
 mem:Mem z S' K' v'
 fr:Fr (Own S K) v v'
 own:∀ b,Own S' K' b→Own S K b∨v.heap.size≤b
section
variable {z:Nat→Option Nat} {S S1 S2:TS} {K K1 K2:List (Nat×Int)} {v v1 v2:World}
theorem Cel.refl (h:Mem z S K v):Cel z S K v S K v:=⟨h,Fr.refl _ _,fun b h=>.inl h⟩
theorem Cel.trans (h:Cel z S K v S1 K1 v1) (k:Cel z S1 K1 v1 S2 K2 v2):Cel z S K v S2 K2 v2:=by
 refine ⟨k.mem,⟨k.fr.os.trans h.fr.os,k.fr.output.trans h.fr.output,Nat.le_trans h.fr.size k.fr.size,fun b hb hs=>?_⟩,fun b hb=>?_⟩
 ·rw [k.fr.block b (Nat.lt_of_lt_of_le hb h.fr.size) (fun e=>(h.own b e).elim hs (fun e=>by omega)),h.fr.block b hb hs]
 ·rcases k.own b hb with e|e
  ·exact h.own b e
  ·exact .inr (Nat.le_trans h.fr.size e)
theorem Cel.push (h:Cel z S K v S1 K1 v1) {o:Obj} (e:v2.heap=v1.heap.push o) (e1:v2.os=v1.os) (e2:v2.output=v1.output):Cel z S K v S1 K1 v2:=by
 have g:Grows v1 v2:=⟨by rw [e];simp,fun b hb=>by rw [e,Array.getElem?_push,if_neg (by omega)],e1,e2⟩
 exact h.trans ⟨(h.mem.grows g).mem,⟨e1,e2,g.size,fun b hb _=>g.old b hb⟩,fun b hb=>.inl hb⟩
theorem Cel.same (h:Cel z S K v S1 K1 v1) (e:v2.heap=v1.heap) (e1:v2.os=v1.os) (e2:v2.output=v1.output):Cel z S K v S1 K1 v2:=by
 have g:Grows v1 v2:=⟨by rw [e];exact Nat.le_refl _,fun b hb=>by rw [e],e1,e2⟩
 exact h.trans ⟨(h.mem.grows g).mem,⟨e1,e2,g.size,fun b hb _=>g.old b hb⟩,fun b hb=>.inl hb⟩
theorem Cel.from (h:Cel z S K v1 S1 K1 v2) (e:v1.heap=v.heap) (e1:v1.os=v.os) (e2:v1.output=v.output):Cel z S K v S1 K1 v2 :=
 ⟨h.mem,⟨h.fr.os.trans e1,h.fr.output.trans e2,by rw [←e];exact h.fr.size,fun b hb hs=>by rw [h.fr.block b (by rw [e];exact hb) hs,e]⟩,fun b hb=>by rw [←e];exact h.own b hb⟩
end
structure Asked (v:World) (S:TS) (n sb so:Nat) (pc:Nat→Option Addr) (ln cp rb:Nat→Nat) (cl:Nat→List Cl):Prop where
 len:∀ j,j<n→(cl j).length=ln j∧ln j≤64
 row:∀ k,k<n→v.cell? ⟨sb,so+k,none⟩=some (.slice (pc k) (ln k) (cp k))
 far:¬ Own S [] sb
 pq:∀ j,j<n→0<ln j→pc j=some ⟨rb j,roOf (pc j),none⟩∧¬ Own S [] (rb j)
 call:∀ j,j<n→∀ (k:Nat) (c:Cl),(cl j)[k]? = some c→v.cell? ⟨rb j,roOf (pc j)+k*4,none⟩=some (I c.po)∧v.cell? ⟨rb j,roOf (pc j)+k*4+1,none⟩=some (I c.ca)∧v.cell? ⟨rb j,roOf (pc j)+k*4+2,none⟩=some (I c.cb)∧v.cell? ⟨rb j,roOf (pc j)+k*4+3,none⟩=some (I c.cc)
 ca:∀ j,j<n→∀ c∈cl j,-9223372036854775808≤c.ca∧c.ca<9223372036854775808
structure Objs (v:World) (S:TS) (xs:List Int) (pk:Nat→Option Obj) (S1:TS) (K:List (Nat×Int)) (u:World):Prop where
 cel:Cel zn S [] v S1 K u
 vals:K.map (·.2)=xs
 st:∃ cv,S1=cellsS S cv xs.length
 has:Has pk u
 new:∀ b,pk b≠none→(v.heap.size≤b∨b≠S.bk)∧¬ Own S1 K b
 row:∀ b o,pk b=some o→∃ c e f,o=.cells c e f
theorem Objs.same {v:World} {S:TS} {xs:List Int} {pk:Nat→Option Obj} {S1:TS} {K:List (Nat×Int)} {u u':World} (h:Objs v S xs pk S1 K u) (e:u'.heap=u.heap) (e1:u'.os=u.os) (e2:u'.output=u.output):Objs v S xs pk S1 K u' :=
 ⟨h.cel.same e e1 e2,h.vals,h.st,fun b o hb=>by rw [e];exact h.has b o hb,h.new,h.row⟩
section
variable {v u:World} {S S1:TS} {K:List (Nat×Int)} {n sb so:Nat} {pc:Nat→Option Addr} {ln cp rb:Nat→Nat} {cl:Nat→List Cl} {xs:List Int} {pk:Nat→Option Obj}
theorem told_of (hm:Mem zn S [] v) (hb:Open v S.bk) (t:Asked v S n sb so pc ln cp rb cl) (o:Objs v S xs pk S1 K u) :
 Told u S1 K pk n pc ln cp rb cl∧(∀ k,k<n→u.cell? ⟨sb,so+k,none⟩=some (.slice (pc k) (ln k) (cp k)))∧Open u S.bk∧v.heap.size≤u.heap.size ∧
  ∀ b,b<v.heap.size→¬ Own S [] b→u.heap[b]? = v.heap[b]?∧¬ Own S1 K b:=by
 have no:∀ b,b<v.heap.size→¬ Own S [] b→¬ Own S1 K b:=fun b hb ho h=>(o.cel.own b h).elim ho (fun h=>by omega)
 have same:∀ b,b<v.heap.size→¬ Own S [] b→u.heap[b]? = v.heap[b]?:=fun b hb ho=>o.cel.fr.block b hb ho
 have hcell:∀ (a:Addr) (x:Value),¬ Own S [] a.block→v.cell? a=some x→u.cell? a=some x:=fun a x ho ha=>by
  rw [World.cell?_of_block (w:=v) (w':=u) (same a.block (World.block_lt_of_cell? _ _ ha) ho)]
  exact ha
 have hbkl:S.bk<v.heap.size:=by obtain ⟨c,m,h⟩:=hb;exact (Array.getElem?_eq_some_iff.1 h).1
 have hbk:¬ Own S [] S.bk:=fun h=>by
  obtain ⟨c,m,hh⟩:=hb
  obtain ⟨x,e,f,h1⟩:=hm.row h
  rw [h1] at hh;cases hh
 have hO:Open u S.bk:=by
  obtain ⟨c,m,hh⟩:=hb
  exact ⟨c,m,by rw [same _ hbkl hbk];exact hh⟩
 have e1:S1.bk=S.bk:=by obtain ⟨cv,rfl⟩:=o.st;rfl
 refine ⟨⟨o.has,fun b hb=>⟨(o.new b hb).2,by have:=(o.new b hb).1;rw [e1];rcases this with h|h;omega;exact h⟩,o.row,t.len,fun j hj h0=>?_,fun j hj k c hc=>?_,t.ca⟩,fun k hk=>hcell _ _ t.far (t.row k hk),hO,o.cel.fr.size,fun b hb ho=>⟨same b hb ho,no b hb ho⟩⟩
 ·have h1:=t.pq j hj h0
  obtain ⟨c,hc⟩:∃ c,(cl j)[0]? = some c:=⟨_,List.getElem?_eq_getElem (by have:=t.len j hj;omega)⟩
  have hl:=World.block_lt_of_cell? _ _ (t.call j hj 0 c hc).1
  exact ⟨h1.1,no _ hl h1.2⟩
 ·have h0:0<ln j:=by have:=(List.getElem?_eq_some_iff.1 hc).1;have:=t.len j hj;omega
  have ho:=(t.pq j hj h0).2
  have h4:=t.call j hj k c hc
  exact ⟨hcell _ _ ho h4.1,hcell _ _ ho h4.2.1,hcell _ _ ho h4.2.2.1,hcell _ _ ho h4.2.2.2⟩
end
structure GOut (w:World) (S:TS) (n:Nat) (ln:Nat→Nat) (N:Nat) (S':TS) (K':List (Nat×Int)) (l:Nat→Ph) (w':World):Prop where
 mem:Mem zn S' K' w'
 size:w.heap.size≤w'.heap.size
 low:w.heap.size≤N
 old:∀ b,b<w.heap.size→¬ Own S [] b→b≠S.bk→w'.heap[b]? = w.heap[b]?∧¬ Own S' K' b
 rows:∀ j,j<n→w'.cell? ⟨N+1,j,none⟩=some (.slice (some ⟨N+4+3*j+2,0,none⟩) (ln j) (ln j))
 ans:∀ j,j<n→(l j).ans.length=ln j∧(0<ln j→w'.heap[N+4+3*j+2]? = some (.cells (arow (l j).ans).toArray 38 (0,0)))∧∃ a,l j=.done a
 os:w'.os=w.os
 out:w'.output=w.output
section
variable {mc:Mc} {fid:FuncId} {S:TS} {n sb so:Nat} {pc:Nat→Option Addr} {ln cp rb:Nat→Nat} {cl:Nat→List Cl} {xs:List Int}
theorem gplay_all (P:Pkg mc fid) {Q:Array Value→(Nat→Option Obj)→List (Nat×Int)→Prop} (hQ:∀ caps pk K,Q caps pk K→∀ X:Fix mc,X.fid=fid→X.caps=caps→X.pk=pk→X.kb=K.map (·.1)→P.Mine X) (hQk:∀ caps pk K,Q caps pk K→KOk mc K)
 {cap:Nat} {cs:List Frame} {bc:Frame} {ac:Act} {ops:Array Oper} {q0:Nat} {rest:List Nat} {oc:Oper} {k0:List Item} {w:World} {T:Trace} {gs:Array Goroutine} {q:Nat→Nat} (sl:Option (Nat×Nat)) (NT:Nat) (A:Alone gs w T q) {g0:Goroutine} (hg:gs[0]? = some g0)
 (hG:GoesI Tryd.prog true (DT (ScZ zn) (fun _=>False)) (fun g w'=>∃ (bd:Frame) (ad:Act) (od:Array Oper) (qd:Nat) (rd:List Nat) (oe:Oper) (kd:List Item) (caps:Array Value) (pk:Nat→Option Obj) (S1:TS) (K:List (Nat×Int)),Objs w S xs pk S1 K w'∧Q caps pk K∧od[qd]? = some oe ∧
   (∀ (Ch:Nat→Prop) (Stop:Goroutine→World→Prop) (w1:World) (x:Value),(∀ d,GoesI Tryd.prog true (DT (ScZ zn) Ch) Stop (G (bc.at (ac.put oc.dst (.tuple #[x,I 0])) (.inRegion ops rest :: k0)) cs) (w1.at d))→GoesI Tryd.prog true (DT (ScZ zn) Ch) Stop (G (bd.at (ad.put oe.dst x) (.inRegion od rd :: kd)) (bc.at ac (.inRegion ops (q0 :: rest) :: k0) :: cs)) w1) ∧
   g=G ((base 60).at { tmps:=#[Pt S.wb 0,.slice (some ⟨sb,so,none⟩) n cap,.func (.func fid) (mc.bn caps) (mc.fr caps)]++Array.replicate 36 undef,defers:=[] } [.code B20]) (bd.at ad (.inRegion od (qd :: rd) :: kd) :: bc.at ac (.inRegion ops (q0 :: rest) :: k0) :: cs)) g0 w)
 (hm:Mem zn S [] w) (hthr:S.thr=[]) (hran:S.ran=false) (hbk:Open w S.bk) (t:Asked w S n sb so pc ln cp rb cl) (hn8:0<n∧n≤8)
 (hlen:∀ caps pk N K,S.n+2*lens (scrs mc fid caps pk N n K pc ln cp rb cl)≤1000000) (hsl:S.sched.length≤4611686018427387904) (hsc:∀ x∈S.sched,-9223372036854775808≤x∧x<9223372036854775808) (l0:Nat→Ph)
 (hturn:∀ (caps:Array Value) (pk:Nat→Option Obj) (N:Nat) (cv:Value) (K:List (Nat×Int)),K.map (·.2)=xs→∀ S1 l1,Hires mc 0 (scrs mc fid caps pk N n K pc ln cp rb cl) (nv { cellsS S cv xs.length with ran:=true }) l0 S1 l1→∃ m p',m≤NT∧Turns mc m ⟨S1,K,l1⟩ p'∧p'.S.n*40≤140737488355328) :
 ∃ (N':Nat) (gs':Array Goroutine) (w':World) (sl':Option (Nat×Nat)) (T':Trace) (q':Nat→Nat) (caps:Array Value) (pk:Nat→Option Obj) (N:Nat) (cv:Value) (K:List (Nat×Int)) (S':TS) (S1:TS) (l1:Nat→Ph) (m:Nat) (p':PSt),
   runNT Tryd.prog N' (crowd gs w sl) T=(.next (crowd gs' w' sl'),T')∧gs'.size=gs.size+n∧gs'[0]? = some (G (bc.at (ac.put oc.dst (.tuple #[.slice (some ⟨N+1,0,none⟩) n n,I 0])) (.inRegion ops rest :: k0)) cs) ∧
   Alone gs' w' T' q'∧K.map (·.2)=xs∧nv S'=p'.S∧Hires mc 0 (scrs mc fid caps pk N n K pc ln cp rb cl) (nv { cellsS S cv xs.length with ran:=true }) l0 S1 l1∧Turns mc m ⟨S1,K,l1⟩ p'∧GOut w S n ln N S' p'.K p'.l w':=by
 obtain ⟨N1,gs1,a1,w1,sl1,T1,q1,r1,z1,h1,⟨bd,ad,od,qd,rd,oe,kd,caps,pk,S1,K,ho,hq,hoe,hback,rfl⟩,A1⟩:=alone_goes A hg sl hG
 obtain ⟨t1,hs1,hbk1,hsz1,hold1⟩:=told_of hm hbk t ho
 obtain ⟨cv,rfl⟩:=ho.st
 have hsb:sb<w1.heap.size:=World.block_lt_of_cell? _ _ (hs1 0 hn8.1)
 obtain ⟨N2,gs2,w2,sl2,T2,q2,S2,S3,l1,m,p',r2,z2,h2,A2,hnv,hH,hT,O⟩:=run20_all P (hQ caps pk K hq) (hQk caps pk K hq) (S:=cellsS S cv xs.length) (K:=K) hoe sl1 NT A1 h1 ho.cel.mem hthr hran hbk1 t1 hs1 hsb hn8.2 (hlen _ _ _ _) hsl hsc l0 (hturn _ _ _ cv K ho.vals)
 obtain ⟨N3,gs3,a3,w3,sl3,T3,q3,r3,z3,h3,⟨rfl,d3,rfl⟩,A3⟩:=alone_goes A2 h2 sl2 (hback (fun _=>False) (fun g w'=>g=G (bc.at (ac.put oc.dst (.tuple #[.slice (some ⟨w1.heap.size+1,0,none⟩) n n,I 0])) (.inRegion ops rest :: k0)) cs∧∃ d,w'=w2.at d) w2 _ (fun d=>GoesI.stop fun d'=>⟨rfl,d',rfl⟩))
 refine ⟨N1+N2+N3,gs3,w2.at d3,sl3,T3,q3,caps,pk,w1.heap.size,cv,K,S2,S3,l1,m,p',runNT_then (runNT_then r1 r2) r3,by omega,h3,A3,ho.vals,hnv,hH,hT,⟨(O.mem.grows (v':=w2.at d3) ⟨Nat.le_refl _,fun _ _=>rfl,rfl,rfl⟩).mem,Nat.le_trans hsz1 O.size,hsz1,fun b hb hob hk=>?_,O.rows,O.ans,O.os.trans ho.cel.fr.os,O.out.trans ho.cel.fr.output⟩⟩
 have h5:=hold1 b hb hob
 have h6:=O.old b (by omega) h5.2 hk
 exact ⟨h6.1.trans h5.1,h6.2⟩
end
structure Fm (tb cb:Nat) (x:Int) (v:World):Prop where
 thr:v.cell? ⟨tb,0,none⟩=some (.pointer none)
 ne:tb≠cb
 cel:v.heap[cb]? = some (.cells #[I 0,I x] 158 (0,0))
structure Fto (tb cb:Nat) (x:Int) (v v':World):Prop where
 fm:Fm tb cb x v'
 old:∀ b,b≠cb→v'.heap[b]? = v.heap[b]?
 size:v'.heap.size=v.heap.size
 os:v'.os=v.os
 out:v'.output=v.output
section
variable {tb cb:Nat} {x y:Int} {v v' v'':World}
theorem Fm.cells (h:Fm tb cb x v):v.cell? ⟨tb,0,none⟩=some (.pointer none)∧v.cell? ⟨cb,0,none⟩=some (I 0)∧v.cell? ⟨cb,1,none⟩=some (I x)∧v.frozen? ⟨cb,1,none⟩=false:=by
 refine ⟨h.thr,?_,?_,?_⟩
 ·unfold World.cell?;rw [show v.heap[cb]? = _ from h.cel];rfl
 ·unfold World.cell?;rw [show v.heap[cb]? = _ from h.cel];rfl
 ·unfold World.frozen?;rw [show v.heap[cb]? = _ from h.cel];rfl
theorem Fm.same (h:Fm tb cb x v) (e:v'.heap=v.heap):Fm tb cb x v':=⟨by rw [World.cell?_of_block (w:=v) (by rw [e])];exact h.thr,h.ne,by rw [e];exact h.cel⟩
theorem Fto.refl (h:Fm tb cb x v):Fto tb cb x v v:=⟨h,fun _ _=>rfl,rfl,rfl,rfl⟩
theorem Fto.same (h:Fto tb cb x v v') (e1:v''.heap=v'.heap) (e2:v''.os=v'.os) (e3:v''.output=v'.output):Fto tb cb x v v'' :=
 ⟨h.fm.same e1,fun b hb=>by rw [e1];exact h.old b hb,by rw [e1];exact h.size,e2.trans h.os,e3.trans h.out⟩
theorem Fto.set (h:Fm tb cb x v) (y:Int):Fto tb cb y v (v.setCell ⟨cb,1,none⟩ (I y)) :=
 ⟨⟨by rw [World.cell?_of_block (Below.heap_setCell _ _ _ _ h.ne)];exact h.thr,h.ne,heap_setCell_same h.cel _⟩,fun b hb=>Below.heap_setCell _ _ _ _ hb,by simp [World.setCell],rfl,rfl⟩
theorem Fto.base (h:Fto tb cb x v v') (e1:v.heap=v''.heap) (e2:v.os=v''.os) (e3:v.output=v''.output):Fto tb cb x v'' v' :=
 ⟨h.fm,fun b hb=>by rw [←e1];exact h.old b hb,by rw [←e1];exact h.size,h.os.trans e2,h.out.trans e3⟩
theorem body27f (tb:Nat) (b a:Int) (v:World) (h:v.cell? ⟨tb,0,none⟩=some (.pointer none)):Body Tryd.f108 #[Pt tb 0,I b,I a] v (fun r v'=>r=.tuple #[]∧v'=v):=by
 intro code hb
 obtain rfl:=Option.some.inj hb
 clear hb
 simp only [Tryd.ntmps108,List.size_toArray,List.length_cons,List.length_nil,Nat.reduceAdd,Nat.reduceSub,Array.replicate_succ,Array.replicate_zero,List.push_toArray,List.append_toArray,List.nil_append,List.cons_append]
 go_wp2_with fail
 exact ⟨rfl,_,results_none rfl _ _ _,_,rfl,rfl,rfl⟩
end
theorem free26 {Ch:Nat→Prop} {Stop:Goroutine→World→Prop} {main:Bool} {v w:World} (tb:Nat) (c o:Int) (ht:v.cell? ⟨tb,0,none⟩=some (.pointer none)) (cs:List Frame) {bc:Frame} {ac:Act} {ops:Array Oper} {q:Nat} {rest:List Nat} {oc:Oper} {k:List Item} (hoc:ops[q]? = some oc) (hvw:Rel zn v w) (hn:NoRow Ch v)
 (hk:∀ w',Rel zn v w'→GoesI Tryd.prog main (DT (ScZ zn) Ch) Stop (G (bc.at (ac.put oc.dst (.tuple #[])) (.inRegion ops rest :: k)) cs) w') (code:Code) (hc:Tryd.f106.body=some code) :
 GoesI Tryd.prog main (DT (ScZ zn) Ch) Stop (G ((base 106).at { tmps:=#[Pt tb 0,I c,I o]++Array.replicate 12 undef,defers:=[] } [.code code]) (bc.at ac (.inRegion ops (q :: rest) :: k) :: cs)) w:=by
 obtain rfl:=Option.some.inj hc
 clear hc
 have e0:w.cell? ⟨tb,0,none⟩=some (.pointer none):=by rw [hvw.cell?];exact ht
 simp only [Array.replicate_succ,Array.replicate_zero,List.push_toArray,List.append_toArray,List.nil_append,List.cons_append]
 refine goesI_seq (dt_idle _ _) ?_
 refine goesI_region (dt_idle _ _) ?_
 simp only [List.size_toArray,List.length_cons,List.length_nil,Nat.reduceAdd,Nat.zero_add,List.range,List.range.loop]
 iterate 4
  (refine goesI_oper rfl rfl (by decide) (fun d K hK=>?_)
   go_simp
   refine hK _ _ ⟨dt_reads (fun e he=>?_),GoesI.at ?_ d⟩
   ·have hm:=mem_listed he
    simp [go_sem, *] at hm
    try exact ⟨_,_,hm⟩
   clear hK K)
 refine goesI_opZ (L:=LT) rfl rfl (by decide) (fineOp_ask callT extT (by kernel_rfl)) hvw hn (v':=v) (x:=.bool false) (by go_simp) rfl (fun w2 hr2 hn2=>?_)
 refine goesI_regionEnd (dt_idle _ _) ?_
 refine goesI_cond (dt_idle _ _) (t:=false) rfl ?_
 refine goesI_skip (dt_idle _ _) ?_
 refine goesI_end (dt_idle _ _) ?_
 exact goesI_leave (b:=base 106) (fn:=Tryd.f106) rfl rfl Tryd.func106 (res26 _) (ev26 _) hoc (dt_idle _ _) (hk w2 hr2)
theorem tailF17 {v:World} {tb cb:Nat} {x:Int} (hm:Fm tb cb x v) (a6 a7 a8 a9 a10 a11:Value) :
 rest17.wp Tryd.prog (bodyPost Tryd.prog Tryd.f73 (fun e w'=>∃ r,e=.returned r∧(r=(effLoad x).2.2∧Fto tb cb (effLoad x).2.1 v w')))
  { tmps:=#[Pt cb 0,Pt tb 0,undef,undef,I 0,undef,a6,a7,a8,a9,a10,a11,undef,undef,undef,undef,undef,undef,undef,undef,undef],defers:=[] } v:=by
 obtain ⟨c0,_,c1,f1⟩:=hm.cells
 have HM:Hid (Fm tb cb x v):=⟨hm⟩
 have HT:Hid (v.cell? ⟨tb,0,none⟩=some (.pointer none)):=⟨by exact c0⟩
 clear hm
 show Code.wp Tryd.prog (seq2 (seq2 (Tryd.f73.body.getD .skip))) _ _ _
 unfold Tryd.f73 seq2
 simp only [Option.getD_some]
 go_wp2_with (first
  |(go_at_call 107;refine ((body29 cb x _ c1).calls Tryd.func107 rfl).mono ?_;rintro e w1 ⟨_,rfl,rfl,rfl⟩)
  |(go_at_call 108;refine ((body27f tb x x _ HT.out).calls Tryd.func108 rfl).mono ?_;rintro e w2 ⟨_,rfl,rfl,rfl⟩))
 go_ret
 exact ⟨_,rfl,rfl,Fto.refl HM.out⟩
theorem free17 {Ch:Nat→Prop} {Stop:Goroutine→World→Prop} {main:Bool} {v w:World} {tb cb:Nat} (x:Int) (cs:List Frame) {bc:Frame} {ac:Act} {ops:Array Oper} {q:Nat} {rest:List Nat} {oc:Oper} {k:List Item} (hoc:ops[q]? = some oc)
 (hvw:Rel zn v w) (hn:NoRow Ch v) (hm:Fm tb cb x v)
 (hk:∀ v' w',Rel zn v' w'→NoRow Ch v'→Fto tb cb (effLoad x).2.1 v v'→GoesI Tryd.prog main (DT (ScZ zn) Ch) Stop (G (bc.at (ac.put oc.dst (effLoad x).2.2) (.inRegion ops rest :: k)) cs) w') (code:Code) (hc:Tryd.f73.body=some code) :
 GoesI Tryd.prog main (DT (ScZ zn) Ch) Stop (G ((base 73).at { tmps:=#[Pt cb 0,Pt tb 0]++Array.replicate 19 undef,defers:=[] } [.code code]) (bc.at ac (.inRegion ops (q :: rest) :: k) :: cs)) w:=by
 obtain rfl:=Option.some.inj hc
 clear hc
 have e0:w.cell? ⟨cb,0,none⟩=some (I 0):=by rw [hvw.cell?];exact hm.cells.2.1
 simp only [Array.replicate_succ,Array.replicate_zero,List.push_toArray,List.append_toArray,List.nil_append,List.cons_append]
 have HM:Hid (Fm tb cb x v):=⟨hm⟩
 clear hm
 refine goesI_seq (dt_idle _ _) ?_
 refine goesI_region (dt_idle _ _) ?_
 simp only [List.size_toArray,List.length_cons,List.length_nil,Nat.reduceAdd,Nat.zero_add,List.range,List.range.loop]
 (refine goesI_oper rfl rfl (by decide) (fun d K hK=>?_)
  go_simp
  refine hK _ _ ⟨dt_reads (fun e he=>?_),GoesI.at ?_ d⟩
  ·have hm:=mem_listed he
   simp [go_sem, *] at hm
  clear hK K)
 refine goesI_regionEnd (dt_idle _ _) ?_
 refine goesI_seq (dt_idle _ _) ?_
 refine goesI_region (dt_idle _ _) ?_
 simp only [List.size_toArray,List.length_cons,List.length_nil,Nat.reduceAdd,Nat.zero_add,List.range,List.range.loop]
 iterate 5
  (refine goesI_oper rfl rfl (by decide) (fun d K hK=>?_)
   go_simp
   refine hK _ _ ⟨dt_reads (fun e he=>?_),GoesI.at ?_ d⟩
   ·have hm:=mem_listed he
    simp [go_sem, *] at hm
    try exact ⟨_,_,hm⟩
   clear hK K)
 refine goesI_into (f:=106) (fn:=Tryd.f106) (args:=#[Pt tb 0,I 0,I 1]) (dt_idle _ _) rfl rfl (by decide) rfl (by simp [Act.eval]) Tryd.func106 (by decide) rfl ?_
 refine free26 tb 0 1 HM.out.cells.1 _ rfl hvw hn (fun w1 hr1=>?_) _ rfl
 clear e0 hvw
 refine goesI_regionEnd (dt_idle _ _) ?_
 refine goesI_rest (f:=73) (fn:=Tryd.f73) (c:=rest17) hE fineT hr1 hn Tryd.func73 fine17 rfl hoc res17 (fun τ=>?_) (fun r v' w' hR hr' hn'=>?_) (R:=fun r w'=>r=(effLoad x).2.2∧Fto tb cb (effLoad x).2.1 v w')
 ·exact wp_mono (tailF17 (HM.out.same (v':=onTape v τ 0) rfl) _ _ _ _ _ _) (bp_mono fun r u hq=>⟨hq.1,hq.2.base rfl rfl rfl⟩)
 ·obtain ⟨rfl,he⟩:=hR
  exact hk v' w' hr' hn' he
theorem body24n (v:World):Body Tryd.f103 #[.pointer none] v (fun r v'=>r=I 0∧v'=v):=by
 intro code hb
 obtain rfl:=Option.some.inj hb
 clear hb
 simp only [Tryd.ntmps103,List.size_toArray,List.length_cons,List.length_nil,Nat.reduceAdd,Nat.reduceSub,Array.replicate_succ,Array.replicate_zero,List.push_toArray,List.append_toArray,List.nil_append,List.cons_append]
 go_wp2_with fail
 go_ret
 exact ⟨_,rfl,rfl,rfl⟩
theorem body10n (v:World) (x:Int):Body Tryd.f70 #[.pointer none,I x] v (fun r v'=>r=Pt v.heap.size 0∧v'.heap=v.heap.push (.cells #[I 0,I x] 158)∧v'.os=v.os∧v'.output=v.output):=by
 intro code hb
 obtain rfl:=Option.some.inj hb
 clear hb
 simp only [Tryd.ntmps70,List.size_toArray,List.length_cons,List.length_nil,Nat.reduceAdd,Nat.reduceSub,Array.replicate_succ,Array.replicate_zero,List.push_toArray,List.append_toArray,List.nil_append,List.cons_append]
 go_wp2_with (first
  |(go_at_call 103;refine ((body24n v).calls Tryd.func103 rfl).mono ?_;rintro e w1 ⟨r1,rfl,rfl,rfl⟩)
  |(go_at_call 104
    have hb:(w1.alloc (.cells #[I 0,I 0] 158)).heap[w1.heap.size]? = some (.cells #[I 0,I 0] 158):=Array.getElem?_push_size
    refine ((body25 w1.heap.size 0 x _ (by unfold World.cell?;rw [hb];rfl) (by unfold World.frozen?;rw [hb];rfl)).calls Tryd.func104 rfl).mono ?_;rintro e w2 ⟨r2,rfl,rfl,rfl⟩))
 go_ret
 exact ⟨_,rfl,rfl,rfl,rfl,rfl⟩
theorem body11 (v:World) (i:Int):Body Tryd.f26 #[I i] v (fun r v'=>r=Pt v.heap.size 0∧v'.heap=v.heap.push (.cells #[.pointer none,I i,.chan none,I 0,I 0,I 0,I 0] 107)∧v'.os=v.os∧v'.output=v.output):=by
 intro code hb
 obtain rfl:=Option.some.inj hb
 clear hb
 simp only [Tryd.ntmps26,List.size_toArray,List.length_cons,List.length_nil,Nat.reduceAdd,Nat.reduceSub,Array.replicate_succ,Array.replicate_zero,List.push_toArray,List.append_toArray,List.nil_append,List.cons_append]
 go_wp2_with fail
 go_ret
 exact ⟨_,rfl,rfl,rfl,rfl,rfl⟩
section
variable {tb c c':Nat} {x y:Int} {v v' v'':World}
theorem Fto.stay (h:Fto tb c x v v') (m:Fm tb c x v):v'.heap=v.heap:=by
 apply Array.ext_getElem?
 intro b
 by_cases e:b=c
 ·rw [e,h.fm.cel,m.cel]
 ·exact h.old b e
theorem Fto.other (h:Fto tb c x v v') (m:Fm tb c' y v) (hne:c'≠c):Fm tb c' y v':=⟨h.fm.thr,m.ne,by rw [h.old c' hne];exact m.cel⟩
theorem Fto.cell (h:Fto tb c x v v') {b j:Nat} {u:Value} (hb:b≠c) (hc:v.cell? ⟨b,j,none⟩=some u):v'.cell? ⟨b,j,none⟩=some u:=by
 rw [World.cell?_of_block (w:=v) (w':=v') (h.old b hb)];exact hc
theorem Fto.then (h:Fto tb c x v v') (k:Fto tb c' y v' v'') (m:Fm tb c' y v'):Fto tb c x v v'':=h.same (k.stay m) k.os k.out
end
end Go.Proofs.YtfjjoohflcchnaaDoor.Gen
namespace Go.Proofs.YtfjjoohflcchnaaDoor
open Go Go.Lift Go.Conc Go.RowKit
def effCas (a y x:Int):(Int×Int)×Int×Value:=if x=a then ((a,y),y,.bool true) else ((x,x),x,.bool false)
noncomputable def rest14:Code:=seq2 (seq2 (Tryd.f77.body.getD .skip))
theorem fine14:fineCode Tryd.prog true LT rest14:=fineCode_ask callT extT (by kernel_rfl)
theorem tail14 {z:Nat→Option Nat} {S:TS} {K:List (Nat×Int)} {v:World} {i j cb:Nat} {t:Thr} {x:Int} {a y:Int} (hm:Mem z S K v) (ht:S.thr[i]? = some t) (hK:K[j]? = some (cb,x)) (hn:(S.n+1)*40≤140737488355328) (a10 a11 a12 a13 a14 a15:Value) :
 rest14.wp Tryd.prog (bodyPost Tryd.prog Tryd.f77 (fun e w'=>∃ r,e=.returned r∧(r=(effCas a y x).2.2∧∃ tv,Evo z S K v (didS S tv i t (effCas a y x).1.1 (effCas a y x).1.2) (K.set j (cb,(effCas a y x).2.1)) w')))
  { tmps:=#[Pt cb 0,Pt t.tb 0,I a,I y,undef,undef,undef,undef,.bool false,undef,a10,a11,a12,a13,a14,a15,undef,undef,undef,undef,undef,undef,undef,undef,undef,undef,undef,undef,undef,undef,undef,undef,undef,undef],defers:=[] } v:=by
 obtain ⟨_,c1,f1⟩:=hm.cells hK
 have HM:Hid (Mem z S K v):=⟨hm⟩
 by_cases hx:x=a
 ·subst hx
  have HW:Hid (Evo z S K v S (K.set j (cb,y)) (v.setCell ⟨cb,1,none⟩ (I y))):=⟨Evo.write hm hK _⟩
  have HQ:Hid (effCas x y x=((x,y),y,.bool true)):=⟨by simp [effCas]⟩
  rw [HQ.out]
  clear hm hK
  simp only at c1 f1
  show Code.wp Tryd.prog (seq2 (seq2 (Tryd.f77.body.getD .skip))) _ _ _
  unfold Tryd.f77 seq2
  simp only [Option.getD_some]
  go_wp2_with (first
   |(go_at_call 111;refine ((body28 cb x y _ c1 f1).calls Tryd.func111 rfl).mono ?_;rintro e w1 ⟨_,rfl,rfl,rfl⟩)
   |(go_at_call 108;refine ((body27 HW.out.mem.rep ht x y hn).calls Tryd.func108 rfl).mono ?_;rintro e w2 ⟨_,rfl,rfl,tv,hev⟩))
  go_ret
  exact ⟨_,rfl,rfl,tv,HW.out.did hev⟩
 have HW:Hid (Evo z S K v S (K.set j (cb,x)) v):=⟨by rw [set_same hK];exact Evo.refl hm⟩
 have HQ:Hid (effCas a y x=((x,x),x,.bool false)):=⟨by simp [effCas,hx]⟩
 rw [HQ.out]
 clear hm hK
 simp only at c1 f1
 show Code.wp Tryd.prog (seq2 (seq2 (Tryd.f77.body.getD .skip))) _ _ _
 unfold Tryd.f77 seq2
 simp only [Option.getD_some]
 go_wp2_with (first
  |(go_at_call 111;refine ((body28n cb x a y _ c1 f1 hx).calls Tryd.func111 rfl).mono ?_;rintro e w1 ⟨_,rfl,rfl,rfl⟩)
  |(go_at_call 107;refine ((body29 cb x _ c1).calls Tryd.func107 rfl).mono ?_;rintro e w1 ⟨_,rfl,rfl,rfl⟩)
  |(go_at_call 108;refine ((body27 HW.out.mem.rep ht x x hn).calls Tryd.func108 rfl).mono ?_;rintro e w2 ⟨_,rfl,rfl,tv,hev⟩))
 go_ret
 exact ⟨_,rfl,rfl,tv,HW.out.did hev⟩
theorem res14 (tmps:Array Value):∃ v,(∀ w,(results Tryd.f77 tmps).run Tryd.prog w=.ok v w)∧∀ w,(results Tryd.f77 tmps).events Tryd.prog w #[]=#[] :=
 ⟨_,fun _=>results_tmp rfl _ _ _,fun _=>by simp [results,go_sem]⟩
theorem cas_goes {z:Nat→Option Nat} {Ch:Nat→Prop} {Stop:Goroutine→World→Prop} {h:Nat} {cont:Addr→Value} {S:TS} {K:List (Nat×Int)} {v w:World} {i j cb:Nat} {t:Thr} (a y:Int) (x:Int) (cs:List Frame) (Hm:Goroutine→Prop) {bc:Frame} {ac:Act} {ops:Array Oper} {q:Nat} {rest:List Nat} {oc:Oper} {k:List Item} (hoc:ops[q]? = some oc)
 (hH:∀ g,OpBack (h==0) i j cb t.tb 4 (effCas a y) (fun r=>G (bc.at (ac.put oc.dst r) (.inRegion ops rest :: k)) cs) g→Hm g)
 (hvw:Rel z v w) (hn:NoRow Ch v) (hm:Mem z S K v) (ht:S.thr[i]? = some t) (hK:K[j]? = some (cb,x)) (hz:z t.tb=some 2) (hcont:cont ⟨t.tb,2,none⟩=.chan (some t.gc))
 (hstop:∀ g w',GiveT z cont h S.bk t.gc Hm (Then z Ch S K v (waiting S i t 1 4 j) K) g w'→Stop g w') (code:Code) (hc:Tryd.f77.body=some code) :
 GoesI Tryd.prog (h==0) (DT (ScZ z) Ch) Stop (G ((base 77).at { tmps:=#[Pt cb 0,Pt t.tb 0,I a,I y]++Array.replicate 30 undef,defers:=[] } [.code code]) (bc.at ac (.inRegion ops (q :: rest) :: k) :: cs)) w:=by
 obtain rfl:=Option.some.inj hc
 clear hc
 have e0:w.cell? ⟨cb,0,none⟩=some (I j):=by rw [hvw.cell?];exact (hm.cells hK).1
 simp only [Array.replicate_succ,Array.replicate_zero,List.push_toArray,List.append_toArray,List.nil_append,List.cons_append]
 have HM:Hid (Mem z S K v):=⟨hm⟩
 clear hm
 refine goesI_seq (dt_idle _ _) ?_
 refine goesI_region (dt_idle _ _) ?_
 simp only [List.size_toArray,List.length_cons,List.length_nil,Nat.reduceAdd,Nat.zero_add,List.range,List.range.loop]
 (refine goesI_oper rfl rfl (by decide) (fun d K hK=>?_)
  go_simp
  refine hK _ _ ⟨dt_reads (fun e he=>?_),GoesI.at ?_ d⟩
  ·have hm:=mem_listed he
   simp [go_sem, *] at hm
  clear hK K)
 refine goesI_regionEnd (dt_idle _ _) ?_
 refine goesI_seq (dt_idle _ _) ?_
 refine goesI_region (dt_idle _ _) ?_
 simp only [List.size_toArray,List.length_cons,List.length_nil,Nat.reduceAdd,Nat.zero_add,List.range,List.range.loop]
 iterate 5
  (refine goesI_oper rfl rfl (by decide) (fun d K hK=>?_)
   go_simp
   refine hK _ _ ⟨dt_reads (fun e he=>?_),GoesI.at ?_ d⟩
   ·have hm:=mem_listed he
    simp [go_sem, *] at hm
    try exact ⟨_,_,hm⟩
   clear hK K)
 refine goesI_into (f:=106) (fn:=Tryd.f106) (args:=#[Pt t.tb 0,I j,I 4]) (dt_idle _ _) rfl rfl (by decide) rfl (by simp [Act.eval]) Tryd.func106 (by decide) rfl ?_
 refine turn_mem 4 j _ Hm rfl (fun g hg=>hH g ?_) hvw hn HM.out ht hz hcont hstop _ rfl
 intro z1 Ch1 St yy w1 v1 S1 K1 t1 x1 r1 n1 m1 h1 htb hop hce hK1 hn1 hk
 refine hg _ St yy w1 (dt_idle _ _) ?_
 refine goesI_regionEnd (dt_idle _ _) ?_
 rw [←htb]
 refine goesI_rest (f:=77) (fn:=Tryd.f77) (c:=rest14) hE fineT r1 n1 Tryd.func77 fine14 rfl hoc res14 (fun τ=>?_) (fun r v' w' hR hr' hn'=>?_) (R:=fun r w'=>r=(effCas a y x1).2.2∧∃ tv,Evo z1 S1 K1 v1 (didS S1 tv i t1 (effCas a y x1).1.1 (effCas a y x1).1.2) (K1.set j (cb,(effCas a y x1).2.1)) w')
 ·refine wp_mono (tail14 (m1.same (v':=onTape v1 τ 0) rfl) h1 hK1 hn1 _ _ _ _ _ _) (bp_mono fun r u hq=>⟨hq.1,hq.2.choose,hq.2.choose_spec.base rfl rfl rfl⟩)
 ·obtain ⟨rfl,tv,he⟩:=hR
  exact hk v' w' tv hr' hn' he
end Go.Proofs.YtfjjoohflcchnaaDoor
namespace Go.Proofs.YtfjjoohflcchnaaDoor.Gen
open Go Go.Lift Go.Conc Go.RowKit
theorem tailF12 {v:World} {tb cb:Nat} {x:Int} {y:Int} (hm:Fm tb cb x v) (a7 a8 a9 a10 a11 a12:Value) :
 rest12.wp Tryd.prog (bodyPost Tryd.prog Tryd.f76 (fun e w'=>∃ r,e=.returned r∧(r=(effStore y x).2.2∧Fto tb cb (effStore y x).2.1 v w')))
  { tmps:=#[Pt cb 0,Pt tb 0,I y,undef,undef,undef,undef,a7,a8,a9,a10,a11,a12,undef,undef,undef,undef,undef,undef,undef,undef,undef],defers:=[] } v:=by
 obtain ⟨c0,_,c1,f1⟩:=hm.cells
 have HM:Hid (Fm tb cb x v):=⟨hm⟩
 have HT:Hid ((v.setCell ⟨cb,1,none⟩ (I y)).cell? ⟨tb,0,none⟩=some (.pointer none)):=⟨by rw [World.cell?_of_block (Below.heap_setCell _ _ _ _ hm.ne)];exact c0⟩
 clear hm
 show Code.wp Tryd.prog (seq2 (Tryd.f76.body.getD .skip)) _ _ _
 unfold Tryd.f76 seq2
 simp only [Option.getD_some]
 go_wp2_with (first
  |(go_at_call 104;refine ((body25 cb x y _ c1 f1).calls Tryd.func104 rfl).mono ?_;rintro e w1 ⟨_,rfl,rfl,rfl⟩)
  |(go_at_call 108;refine ((body27f tb x y _ HT.out).calls Tryd.func108 rfl).mono ?_;rintro e w2 ⟨_,rfl,rfl,rfl⟩))
 exact ⟨rfl,_,results_none rfl _ _ _,_,rfl,rfl,Fto.set HM.out _⟩
theorem free12 {Ch:Nat→Prop} {Stop:Goroutine→World→Prop} {main:Bool} {v w:World} {tb cb:Nat} (y:Int) (x:Int) (cs:List Frame) {bc:Frame} {ac:Act} {ops:Array Oper} {q:Nat} {rest:List Nat} {oc:Oper} {k:List Item} (hoc:ops[q]? = some oc)
 (hvw:Rel zn v w) (hn:NoRow Ch v) (hm:Fm tb cb x v)
 (hk:∀ v' w',Rel zn v' w'→NoRow Ch v'→Fto tb cb (effStore y x).2.1 v v'→GoesI Tryd.prog main (DT (ScZ zn) Ch) Stop (G (bc.at (ac.put oc.dst (effStore y x).2.2) (.inRegion ops rest :: k)) cs) w') (code:Code) (hc:Tryd.f76.body=some code) :
 GoesI Tryd.prog main (DT (ScZ zn) Ch) Stop (G ((base 76).at { tmps:=#[Pt cb 0,Pt tb 0,I y]++Array.replicate 19 undef,defers:=[] } [.code code]) (bc.at ac (.inRegion ops (q :: rest) :: k) :: cs)) w:=by
 obtain rfl:=Option.some.inj hc
 clear hc
 have e0:w.cell? ⟨cb,0,none⟩=some (I 0):=by rw [hvw.cell?];exact hm.cells.2.1
 simp only [Array.replicate_succ,Array.replicate_zero,List.push_toArray,List.append_toArray,List.nil_append,List.cons_append]
 have HM:Hid (Fm tb cb x v):=⟨hm⟩
 clear hm
 refine goesI_seq (dt_idle _ _) ?_
 refine goesI_region (dt_idle _ _) ?_
 simp only [List.size_toArray,List.length_cons,List.length_nil,Nat.reduceAdd,Nat.zero_add,List.range,List.range.loop]
 iterate 5
  (refine goesI_oper rfl rfl (by decide) (fun d K hK=>?_)
   go_simp
   refine hK _ _ ⟨dt_reads (fun e he=>?_),GoesI.at ?_ d⟩
   ·have hm:=mem_listed he
    simp [go_sem, *] at hm
    try exact ⟨_,_,hm⟩
   clear hK K)
 refine goesI_into (f:=106) (fn:=Tryd.f106) (args:=#[Pt tb 0,I 0,I 2]) (dt_idle _ _) rfl rfl (by decide) rfl (by simp [Act.eval]) Tryd.func106 (by decide) rfl ?_
 refine free26 tb 0 2 HM.out.cells.1 _ rfl hvw hn (fun w1 hr1=>?_) _ rfl
 clear e0 hvw
 refine goesI_regionEnd (dt_idle _ _) ?_
 refine goesI_rest (f:=76) (fn:=Tryd.f76) (c:=rest12) hE fineT hr1 hn Tryd.func76 fine12 rfl hoc res12 (fun τ=>?_) (fun r v' w' hR hr' hn'=>?_) (R:=fun r w'=>r=(effStore y x).2.2∧Fto tb cb (effStore y x).2.1 v w')
 ·exact wp_mono (tailF12 (HM.out.same (v':=onTape v τ 0) rfl) _ _ _ _ _ _) (bp_mono fun r u hq=>⟨hq.1,hq.2.base rfl rfl rfl⟩)
 ·obtain ⟨rfl,he⟩:=hR
  exact hk v' w' hr' hn' he
theorem tailF14 {v:World} {tb cb:Nat} {x:Int} {a y:Int} (hm:Fm tb cb x v) (a10 a11 a12 a13 a14 a15:Value) :
 rest14.wp Tryd.prog (bodyPost Tryd.prog Tryd.f77 (fun e w'=>∃ r,e=.returned r∧(r=(effCas a y x).2.2∧Fto tb cb (effCas a y x).2.1 v w')))
  { tmps:=#[Pt cb 0,Pt tb 0,I a,I y,undef,undef,undef,undef,.bool false,undef,a10,a11,a12,a13,a14,a15,undef,undef,undef,undef,undef,undef,undef,undef,undef,undef,undef,undef,undef,undef,undef,undef,undef,undef],defers:=[] } v:=by
 obtain ⟨c0,_,c1,f1⟩:=hm.cells
 have HM:Hid (Fm tb cb x v):=⟨hm⟩
 by_cases hx:x=a
 ·subst hx
  have HT:Hid ((v.setCell ⟨cb,1,none⟩ (I y)).cell? ⟨tb,0,none⟩=some (.pointer none)):=⟨by rw [World.cell?_of_block (Below.heap_setCell _ _ _ _ hm.ne)];exact c0⟩
  have HQ:Hid (effCas x y x=((x,y),y,.bool true)):=⟨by simp [effCas]⟩
  rw [HQ.out]
  clear hm
  show Code.wp Tryd.prog (seq2 (seq2 (Tryd.f77.body.getD .skip))) _ _ _
  unfold Tryd.f77 seq2
  simp only [Option.getD_some]
  go_wp2_with (first
   |(go_at_call 111;refine ((body28 cb x y _ c1 f1).calls Tryd.func111 rfl).mono ?_;rintro e w1 ⟨_,rfl,rfl,rfl⟩)
   |(go_at_call 108;refine ((body27f tb x y _ HT.out).calls Tryd.func108 rfl).mono ?_;rintro e w2 ⟨_,rfl,rfl,rfl⟩))
  go_ret
  exact ⟨_,rfl,rfl,Fto.set HM.out _⟩
 have HT:Hid (v.cell? ⟨tb,0,none⟩=some (.pointer none)):=⟨by exact c0⟩
 have HQ:Hid (effCas a y x=((x,x),x,.bool false)):=⟨by simp [effCas,hx]⟩
 rw [HQ.out]
 clear hm
 show Code.wp Tryd.prog (seq2 (seq2 (Tryd.f77.body.getD .skip))) _ _ _
 unfold Tryd.f77 seq2
 simp only [Option.getD_some]
 go_wp2_with (first
  |(go_at_call 111;refine ((body28n cb x a y _ c1 f1 hx).calls Tryd.func111 rfl).mono ?_;rintro e w1 ⟨_,rfl,rfl,rfl⟩)
  |(go_at_call 107;refine ((body29 cb x _ c1).calls Tryd.func107 rfl).mono ?_;rintro e w1 ⟨_,rfl,rfl,rfl⟩)
  |(go_at_call 108;refine ((body27f tb x x _ HT.out).calls Tryd.func108 rfl).mono ?_;rintro e w2 ⟨_,rfl,rfl,rfl⟩))
 go_ret
 exact ⟨_,rfl,rfl,Fto.refl HM.out⟩
theorem free14 {Ch:Nat→Prop} {Stop:Goroutine→World→Prop} {main:Bool} {v w:World} {tb cb:Nat} (a y:Int) (x:Int) (cs:List Frame) {bc:Frame} {ac:Act} {ops:Array Oper} {q:Nat} {rest:List Nat} {oc:Oper} {k:List Item} (hoc:ops[q]? = some oc)
 (hvw:Rel zn v w) (hn:NoRow Ch v) (hm:Fm tb cb x v)
 (hk:∀ v' w',Rel zn v' w'→NoRow Ch v'→Fto tb cb (effCas a y x).2.1 v v'→GoesI Tryd.prog main (DT (ScZ zn) Ch) Stop (G (bc.at (ac.put oc.dst (effCas a y x).2.2) (.inRegion ops rest :: k)) cs) w') (code:Code) (hc:Tryd.f77.body=some code) :
 GoesI Tryd.prog main (DT (ScZ zn) Ch) Stop (G ((base 77).at { tmps:=#[Pt cb 0,Pt tb 0,I a,I y]++Array.replicate 30 undef,defers:=[] } [.code code]) (bc.at ac (.inRegion ops (q :: rest) :: k) :: cs)) w:=by
 obtain rfl:=Option.some.inj hc
 clear hc
 have e0:w.cell? ⟨cb,0,none⟩=some (I 0):=by rw [hvw.cell?];exact hm.cells.2.1
 simp only [Array.replicate_succ,Array.replicate_zero,List.push_toArray,List.append_toArray,List.nil_append,List.cons_append]
 have HM:Hid (Fm tb cb x v):=⟨hm⟩
 clear hm
 refine goesI_seq (dt_idle _ _) ?_
 refine goesI_region (dt_idle _ _) ?_
 simp only [List.size_toArray,List.length_cons,List.length_nil,Nat.reduceAdd,Nat.zero_add,List.range,List.range.loop]
 (refine goesI_oper rfl rfl (by decide) (fun d K hK=>?_)
  go_simp
  refine hK _ _ ⟨dt_reads (fun e he=>?_),GoesI.at ?_ d⟩
  ·have hm:=mem_listed he
   simp [go_sem, *] at hm
  clear hK K)
 refine goesI_regionEnd (dt_idle _ _) ?_
 refine goesI_seq (dt_idle _ _) ?_
 refine goesI_region (dt_idle _ _) ?_
 simp only [List.size_toArray,List.length_cons,List.length_nil,Nat.reduceAdd,Nat.zero_add,List.range,List.range.loop]
 iterate 5
  (refine goesI_oper rfl rfl (by decide) (fun d K hK=>?_)
   go_simp
   refine hK _ _ ⟨dt_reads (fun e he=>?_),GoesI.at ?_ d⟩
   ·have hm:=mem_listed he
    simp [go_sem, *] at hm
    try exact ⟨_,_,hm⟩
   clear hK K)
 refine goesI_into (f:=106) (fn:=Tryd.f106) (args:=#[Pt tb 0,I 0,I 4]) (dt_idle _ _) rfl rfl (by decide) rfl (by simp [Act.eval]) Tryd.func106 (by decide) rfl ?_
 refine free26 tb 0 4 HM.out.cells.1 _ rfl hvw hn (fun w1 hr1=>?_) _ rfl
 clear e0 hvw
 refine goesI_regionEnd (dt_idle _ _) ?_
 refine goesI_rest (f:=77) (fn:=Tryd.f77) (c:=rest14) hE fineT hr1 hn Tryd.func77 fine14 rfl hoc res14 (fun τ=>?_) (fun r v' w' hR hr' hn'=>?_) (R:=fun r w'=>r=(effCas a y x).2.2∧Fto tb cb (effCas a y x).2.1 v w')
 ·exact wp_mono (tailF14 (HM.out.same (v':=onTape v τ 0) rfl) _ _ _ _ _ _) (bp_mono fun r u hq=>⟨hq.1,hq.2.base rfl rfl rfl⟩)
 ·obtain ⟨rfl,he⟩:=hR
  exact hk v' w' hr' hn' he
def putN (a:Act) (d:Nat) (val:Nat→Value):Nat→Act
 |0=>a
 |n+1=>(putN a d val n).put (some (d+n)) (val n)
theorem putN_defers (a:Act) (d:Nat) (val:Nat→Value):∀ n,(putN a d val n).defers=a.defers
 |0=>rfl
 |n+1=>putN_defers a d val n
theorem putN_size (a:Act) (d:Nat) (val:Nat→Value):∀ n,(putN a d val n).tmps.size=a.tmps.size
 |0=>rfl
 |n+1=>by
  show ((putN a d val n).tmps.setIfInBounds (d+n) (val n)).size=_
  rw [Array.size_setIfInBounds,putN_size a d val n]
theorem putN_get (a:Act) (d:Nat) (val:Nat→Value) (t:Nat):∀ n,d+n≤a.tmps.size→(putN a d val n).tmps[t]? = if d≤t∧t<d+n then some (val (t - d)) else a.tmps[t]?
 |0,_=>by rw [if_neg (by omega)];rfl
 |n+1,h=>by
  show ((putN a d val n).tmps.setIfInBounds (d+n) (val n))[t]? = _
  have hs:d+n<(putN a d val n).tmps.size:=by rw [putN_size];omega
  rw [Array.getElem?_setIfInBounds]
  by_cases e:d+n=t
  ·subst e
   rw [if_pos rfl,if_pos hs,if_pos (by omega)]
   rw [show d+n - d=n by omega]
  ·rw [if_neg e,putN_get a d val t n (by omega)]
   by_cases h1:d≤t∧t<d+n
   ·rw [if_pos h1,if_pos (by omega)]
   ·rw [if_neg h1,if_neg (by omega)]
def oneWay (md:Region.Mode) (ops:Array Oper) (n:Nat):Bool:=(List.range ops.size).all fun m=>decide (m<n)||(Region.ready md ops (listedN ops.size m)==[m])
theorem listedN_set {s n:Nat}:(listedN s n).setIfInBounds n true=listedN s (n+1):=by
 apply Array.ext_getElem?
 intro j
 rw [Array.getElem?_setIfInBounds]
 have hsz:(listedN s n).size=s:=by simp [listedN]
 by_cases hj:j<s
 ·rw [listedN_get hj,listedN_get hj]
  by_cases e:n=j
  ·subst e
   rw [if_pos rfl,if_pos (by omega)]
   simp
  ·rw [if_neg e]
   congr 1
   simp only [decide_eq_decide]
   omega
 ·have h1:(listedN s (n+1))[j]? = none:=Array.getElem?_eq_none (by have:(listedN s (n+1)).size=s:=by simp [listedN]
                                                                   omega)
  have h2:(listedN s n)[j]? = none:=Array.getElem?_eq_none (by omega)
  rw [h1,h2]
  split
  ·rename_i e
   rw [if_neg (by omega)]
  ·rfl
theorem one_way {md:Region.Mode} {ops:Array Oper}:∀ (k n t:Nat),oneWay md ops n=true→n+k=ops.size→Region.linearise.go md ops k t (listedN ops.size n) []=List.range' n k
 |0,n,t,_,_=>rfl
 |k+1,n,t,h,hk=>by
  have hr:Region.ready md ops (listedN ops.size n)=[n]:=by
   unfold oneWay at h
   rw [List.all_eq_true] at h
   have:=h n (List.mem_range.2 (by omega))
   simpa using this
  have h':oneWay md ops (n+1)=true:=by
   unfold oneWay at h ⊢
   rw [List.all_eq_true] at h ⊢
   intro m hm
   have:=h m hm
   simp only [Bool.or_eq_true,decide_eq_true_eq] at this ⊢
   rcases this with h1|h1
   ·left;omega
   ·exact .inr h1
  simp only [Region.linearise.go]
  change (match (Region.ready md ops (listedN ops.size n))[t % (Region.ready md ops (listedN ops.size n)).length]? with
   |some i=>Region.linearise.go md ops k (t / (Region.ready md ops (listedN ops.size n)).length) ((listedN ops.size n).setIfInBounds i true) [i]
   |none=>[].reverse)=_
  rw [hr]
  simp only [List.length_cons,List.length_nil,Nat.zero_add,Nat.mod_one,List.getElem?_cons_zero]
  rw [linearise_go_acc,List.reverse_singleton,List.singleton_append,listedN_set,one_way k (n+1) _ h' (by omega)]
  rfl
def depOn (ops:Array Oper) (i j:Nat):Bool:=((ops[i]?).map (fun o=>o.after.toList.any fun e=>e.on==j&&Region.binds .any e))==some true
def regOk (ops:Array Oper) (n d:Nat):Bool :=
 leadsOn .any ops n&&inText .any ops n&&oneWay .any ops n&&decide (n<ops.size)&&((List.range n).all fun i=>(ops[i]?).map (·.dst)==some (some (d+i)))&&((List.range (n+1)).all fun i=>(ops[i]?).map (·.guard.isNone)==some true)
section
variable {z:Nat→Option Nat} {Ch:Nat→Prop} {Stop:Goroutine→World→Prop} {main:Bool} {b:Frame} {k:List Item} {cs:List Frame} {ops:Array Oper} {n d id:Nat} {val:Nat→Value} {a0:Act} {v w:World}
theorem grefl (v:World):Grows v v:=⟨Nat.le_refl _,fun _ _=>rfl,rfl,rfl⟩
theorem gtrans {v v' v'':World} (h:Grows v v') (k:Grows v' v''):Grows v v'':=⟨Nat.le_trans h.size k.size,fun b hb=>(k.old b (Nat.lt_of_lt_of_le hb h.size)).trans (h.old b hb),k.os.trans h.os,k.output.trans h.output⟩
theorem region_in (hreg:regOk ops n d=true) (hsz:d+n≤a0.tmps.size) (hvw:Rel z v w) (hn:NoRow Ch v)
 (hop:∀ (i:Nat) (o:Oper) (rest:List Nat) (a:Act) (v1 w1:World),i<n→ops[i]? = some o→Region.wanted o (yielded ops a.tmps)=true→(∀ j,j<n→depOn ops i j=true→a.eval (.tmp (d+j))=val j)→(∀ t,t<d→a.eval (.tmp t)=a0.eval (.tmp t))→Rel z v1 w1→NoRow Ch v1→Grows v v1 →
   (∀ v2 w2,Rel z v2 w2→NoRow Ch v2→Grows v1 v2→GoesI Tryd.prog main (DT (ScZ z) Ch) Stop (G (b.at (a.put o.dst (val i)) (.inRegion ops rest :: k)) cs) w2) →
   GoesI Tryd.prog main (DT (ScZ z) Ch) Stop (G (b.at a (.inRegion ops (i :: rest) :: k)) cs) w1)
 (hN:∀ v1 w1 o,ops[n]? = some o→(∀ y,Region.wanted o y=true)→Rel z v1 w1→NoRow Ch v1→Grows v v1→GoesI Tryd.prog main (DT (ScZ z) Ch) Stop (G (b.at (putN a0 d val n) (.inRegion ops (List.range' n (ops.size - n)) :: k)) cs) w1) :
 GoesI Tryd.prog main (DT (ScZ z) Ch) Stop (G (b.at a0 (.code (.region id ops true) :: k)) cs) w:=by
 unfold regOk at hreg
 simp only [Bool.and_eq_true,decide_eq_true_eq] at hreg
 obtain ⟨⟨⟨⟨⟨h1,h2⟩,h3⟩,h4⟩,h5⟩,h6⟩:=hreg
 have hdst:∀ (i:Nat),i<n→∀ o,ops[i]? = some o→o.dst=some (d+i):=fun i hi o ho=>by
  have:=(List.all_eq_true.1 h5) i (List.mem_range.2 hi)
  rw [ho] at this
  simpa using this
 have hgd:∀ (i:Nat),i<n+1→∀ o,ops[i]? = some o→o.guard=none:=fun i hi o ho=>by
  have:=(List.all_eq_true.1 h6) i (List.mem_range.2 hi)
  rw [ho] at this
  simpa using this
 refine goesI_region_quiet (n:=n) (val:=val) (J:=fun w=>∃ v1,Rel z v1 w∧NoRow Ch v1∧Grows v v1) mix21 (fun w d ⟨v1,hJ,hJ2⟩=>⟨v1,hJ.re rfl rfl rfl rfl rfl rfl,hJ2⟩) (fun w=>dt_draw _ _ w) h1 h2 (on:=ops[n]'h4) (Array.getElem?_eq_getElem h4) ?_ ?_ ?_ (putN a0 d val n) ?_ ?_ ⟨v,hvw,hn,grefl v⟩
 ·intro i j oi oj t hi hj hoi hoj hti htj
  rw [hdst i hi oi hoi] at hti
  rw [hdst j hj oj hoj] at htj
  have e:d+i=d+j:=(Option.some.inj hti).trans (Option.some.inj htj).symm
  omega
 ·intro i o t hi ho ht
  rw [hdst i hi o ho] at ht
  have e:d+i=t:=Option.some.inj ht
  subst e
  show d+i<a0.tmps.size
  omega
 ·intro i o rest listed a w1 hi ho hdep hagr ⟨v1,r1,n1,g1⟩ hgo
  refine hop i o rest a v1 w1 hi ho (by simp [Region.wanted,hgd i (by omega) o ho]) (fun j hj hd=>?_) (fun t ht=>?_) r1 n1 g1 (fun v2 w2 r2 n2 g2=>hgo w2 ⟨v2,r2,n2,gtrans g1 g2⟩)
  ·have hjs:j<ops.size:=by omega
   refine hagr.eval hj (o:=ops[j]) (Array.getElem?_eq_getElem hjs) ?_ (hdst j hj _ (Array.getElem?_eq_getElem hjs))
   unfold depOn at hd
   rw [ho] at hd
   simp only [Option.map_some,beq_iff_eq,Option.some.injEq,List.any_eq_true,Bool.and_eq_true] at hd
   obtain ⟨e,he,e1,e2⟩:=hd
   rw [←e1]
   exact hdep e he e2
  ·refine hagr.eval0 (fun j o hj ho e=>?_)
   rw [hdst j hj o ho] at e
   have:d+j=t:=Option.some.inj e
   subst this
   exact absurd ht (by show ¬ d+j<d;omega)
 ·refine ⟨putN_defers a0 d val n,putN_size a0 d val n,fun j o t hj ho _ ht=>?_,fun t ht=>?_⟩
  ·rw [hdst j hj o ho] at ht
   have e:d+j=t:=Option.some.inj ht
   subst e
   rw [putN_get a0 d val _ n hsz,if_pos (by omega),show d+j - d=j by omega]
  ·rw [putN_get a0 d val _ n hsz,if_neg]
   rintro ⟨q1,q2⟩
   obtain ⟨t,rfl⟩:∃ t':Nat,t'=t:=⟨t,rfl⟩
   have hjs:t - d<ops.size:=by omega
   refine ht (t - d) (ops[t - d]) (by omega) (Array.getElem?_eq_getElem hjs) ?_ ?_
   ·rw [Array.getD_eq_getD_getElem?,listedN_get hjs]
    simp
    omega
   ·rw [hdst (t - d) (by omega) _ (Array.getElem?_eq_getElem hjs)]
    exact congrArg some (show d+(t - d)=t by omega)
 ·rintro t w1 ⟨v1,r1,n1,g1⟩
  rw [one_way (ops.size - n) n t h3 (by omega)]
  exact hN v1 w1 (ops[n]'h4) (Array.getElem?_eq_getElem h4) (fun y=>by simp [Region.wanted,hgd n (by omega) _ (Array.getElem?_eq_getElem h4)]) r1 n1 g1
theorem fine_ops {m:Nat} (h:((ops.extract 0 m).all fun o=>plainOp Tryd.prog true o.op||askCall plainFs plainXs o.op)=true) {i:Nat} (hi:i<m) {o:Oper} (ho:ops[i]? = some o):fineOp Tryd.prog true LT o:=by
 refine fineOp_ask callT extT ((Array.all_eq_true_iff_forall_mem.1 h) o ?_)
 have:(ops.extract 0 m)[i]? = some o:=by
  have hs:=(Array.getElem?_eq_some_iff.1 ho).1
  rw [Array.getElem?_extract,if_pos (by omega)]
  simpa using ho
 exact Array.mem_of_getElem? this
theorem op_at {i:Nat} {o:Oper} {p:Op} (h:(ops[i]?).map (·.op)=some p) (ho:ops[i]? = some o):o.op=p:=by
 rw [ho] at h
 exact Option.some.inj h
theorem dst_at {i:Nat} {o:Oper} {p:Option Tmp} (h:(ops[i]?).map (·.dst)=some p) (ho:ops[i]? = some o):o.dst=p:=by
 rw [ho] at h
 exact Option.some.inj h
theorem op_reads {i:Nat} {o:Oper} {rest:List Nat} {a:Act} {v1 w1:World} (ho:ops[i]? = some o) (hw:Region.wanted o (yielded ops a.tmps)=true) (hk:b.kind≠.early) {p:Op} (hp:(ops[i]?).map (·.op)=some p) (hf:fineOp Tryd.prog true LT o) (hr:Rel z v1 w1) (hn:NoRow Ch v1) {x:Value} (hx:val i=x)
 (hrun:∀ o':Oper,o'.op=p→(execOp a.eval o').run Tryd.prog v1=.ok (.value x) v1)
 (hk2:∀ v2 w2,Rel z v2 w2→NoRow Ch v2→Grows v1 v2→GoesI Tryd.prog main (DT (ScZ z) Ch) Stop (G (b.at (a.put o.dst (val i)) (.inRegion ops rest :: k)) cs) w2) :
 GoesI Tryd.prog main (DT (ScZ z) Ch) Stop (G (b.at a (.inRegion ops (i :: rest) :: k)) cs) w1:=by
 have e:o.op=p:=by
  rw [ho] at hp
  exact Option.some.inj hp
 refine goesI_opZ ho hw hk hf hr hn (hrun o e) rfl (fun w2 hr2 hn2=>?_)
 rw [←hx]
 exact hk2 v1 w2 hr2 hn2 (grefl v1)
theorem op_calls {i:Nat} {o:Oper} {rest:List Nat} {a:Act} {v1 w1:World} {f:FuncId} {fn:Func} {c:Code} {xs:Array Operand} {ats:Array TypeId} {args:Array Value} (ho:ops[i]? = some o) (hw:Region.wanted o (yielded ops a.tmps)=true) (hk:b.kind≠.early) (hp:(ops[i]?).map (·.op)=some (.call { callee:=.value (.func f),args:=xs,argTypes:=ats })) (ha:xs.map a.eval=args)
 (hf : Tryd.prog.funcs[f]? = some fn) (hname : (fn.name == "runtime.NumGoroutine") = false) (hb : fn.body = some c) (hc : fineCode Tryd.prog true LT c)
 (hres:∀ tmps,∃ v,(∀ w,(results fn tmps).run Tryd.prog w=.ok v w)∧∀ w,(results fn tmps).events Tryd.prog w #[]=#[])
 (hr:Rel z v1 w1) (hn:NoRow Ch v1) {x:Value} (hx:val i=x)
 (hwp:∀ τ,c.wp Tryd.prog (bodyPost Tryd.prog fn (fun e w'=>∃ v,e=.returned v∧v=x∧Grows v1 w')) { tmps:=args++Array.replicate (fn.ntmps - args.size) undef,defers:=[] } (onTape v1 τ 0))
 (hk2:∀ v2 w2,Rel z v2 w2→NoRow Ch v2→Grows v1 v2→GoesI Tryd.prog main (DT (ScZ z) Ch) Stop (G (b.at (a.put o.dst (val i)) (.inRegion ops rest :: k)) cs) w2) :
 GoesI Tryd.prog main (DT (ScZ z) Ch) Stop (G (b.at a (.inRegion ops (i :: rest) :: k)) cs) w1:=by
 have e:o.op=.call { callee:=.value (.func f),args:=xs,argTypes:=ats }:=by
  rw [ho] at hp
  exact Option.some.inj hp
 refine goesI_call (f:=f) (fn:=fn) (args:=args) hE fineT ho hw hk e ha hf hname hb hc hres hr hn (R:=fun r u=>r=x∧Grows v1 u) hwp (fun r u w2 hR hr2 hn2=>?_)
 rw [hR.1,←hx]
 exact hk2 u w2 hr2 hn2 hR.2
end
end Go.Proofs.YtfjjoohflcchnaaDoor.Gen
