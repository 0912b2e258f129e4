/- Of the proof of CounterAlone. Part 18 of 21. (Joined, by program, and written short, of: CtG, GObj, CtC, GNow, CtPk.) -/
import Derived.Test.YtfjjoohflcchnaaDoorCounterAlone05
import Derived.Test.YtfjjoohflcchnaaDoorCounterAlone10
import Derived.Test.YtfjjoohflcchnaaDoorCounterAlone11
import Derived.Test.YtfjjoohflcchnaaDoorCounterAlone13
import Derived.Test.YtfjjoohflcchnaaDoorCounterAlone17
set_option linter.unusedSimpArgs false
set_option linter.unusedVariables false
set_option maxHeartbeats 4000000
set_option maxRecDepth 100000
namespace Go.Proofs.YtfjjoohflcchnaaDoor.Gen
open Go Go.Lift Go.Conc Go.RowKit
structure Fcs (v:World) (c sb s:Nat) (kb:List Nat) (xs:List Int):Prop where
 ctr:Ctr v c sb s kb
 len:xs.length=s
 klen:kb.length=s
 cel:∀ (j cb:Nat) (x:Int),kb[j]? = some cb→xs[j]? = some x→v.heap[cb]? = some (.cells #[I 0,I x] 158 (0,0))
 nd:kb.Nodup
 csb:c≠sb
 ckb:∀ cb∈kb,cb≠c∧cb≠sb
structure Bl (B:Nat) (v v':World):Prop where
 old:∀ b,b<B→v'.heap[b]? = v.heap[b]?
 size:v.heap.size≤v'.heap.size
 os:v'.os=v.os
 out:v'.output=v.output
section
variable {B c sb s tb:Nat} {kb:List Nat} {xs:List Int} {v v' v'':World}
theorem Bl.trans (h:Bl B v v') (g:Bl B v' v''):Bl B v v'':=⟨fun b hb=>by rw [g.old b hb,h.old b hb],Nat.le_trans h.size g.size,g.os.trans h.os,g.out.trans h.out⟩
theorem Bl.refl:Bl B v v:=⟨fun _ _=>rfl,Nat.le_refl _,rfl,rfl⟩
theorem Bl.same (h:Bl B v v') (e1:v''.heap=v'.heap) (e2:v''.os=v'.os) (e3:v''.output=v'.output):Bl B v v'':=⟨fun b hb=>by rw [e1];exact h.old b hb,by rw [e1];exact h.size,e2.trans h.os,e3.trans h.out⟩
theorem Bl.grows (h:Bl v.heap.size v v'):Grows v v':=⟨h.size,h.old,h.os,h.out⟩
theorem Bl.cell (h:Bl B v v') {b j:Nat} {x:Value} (hb:b<B) (hx:v.cell? ⟨b,j,none⟩=some x):v'.cell? ⟨b,j,none⟩=some x:=by
 rw [World.cell?_of_block (w:=v) (w':=v') (h.old b hb)];exact hx
theorem Grows.bl (h:Grows v v') (hB:B≤v.heap.size):Bl B v v':=⟨fun b hb=>h.old b (by omega),h.size,h.os,h.output⟩
theorem Fcs.lt (h:Fcs v c sb s kb xs):c<v.heap.size∧sb<v.heap.size∧∀ cb∈kb,cb<v.heap.size:=by
 refine ⟨World.block_lt_of_cell? _ _ h.ctr.row,?_,fun cb hcb=>?_⟩
 ·obtain ⟨cb,_,e⟩:=h.ctr.cel 0 h.ctr.s0
  exact World.block_lt_of_cell? _ _ e
 ·obtain ⟨j,hj,e⟩:=List.getElem_of_mem hcb
  obtain ⟨x,hx⟩:∃ x,xs[j]? = some x:=⟨_,List.getElem?_eq_getElem (by rw [h.len,←h.klen];exact hj)⟩
  exact (Array.getElem?_eq_some_iff.1 (h.cel j cb x (by rw [List.getElem?_eq_getElem hj,e]) hx)).1
theorem Fcs.bl (h:Fcs v c sb s kb xs) (g:Bl v.heap.size v v'):Fcs v' c sb s kb xs:=by
 obtain ⟨l1,l2,l3⟩:=h.lt
 refine ⟨⟨g.cell l1 h.ctr.row,fun j hj=>?_,h.ctr.s0,h.ctr.s1⟩,h.len,h.klen,fun j cb x hc hx=>?_,h.nd,h.csb,h.ckb⟩
 ·obtain ⟨cb,e1,e2⟩:=h.ctr.cel j hj
  exact ⟨cb,e1,g.cell l2 e2⟩
 ·rw [g.old cb (l3 cb (List.mem_of_getElem? hc))];exact h.cel j cb x hc hx
theorem Fcs.fm (h:Fcs v c sb s kb xs) {j cb:Nat} {x:Int} (h1:kb[j]? = some cb) (h2:xs[j]? = some x) (ht:v.cell? ⟨tb,0,none⟩=some (.pointer none)):Fm tb cb x v:=⟨ht,fun e=>by
 have:=h.cel j cb x h1 h2
 rw [e,World.cell?,this] at ht
 simp at ht,h.cel j cb x h1 h2⟩
end
section
variable {Ch:Nat→Prop} {Stop:Goroutine→World→Prop} {main:Bool} {v w:World} {tb c cb sb s i nb fb k:Nat} {kb:List Nat} {xs:List Int} {x:Int}
theorem fcoll_look (hks:k<s) (hcb:v.cell? ⟨sb,k,none⟩=some (Pt cb 0)) {a:Act} (hA:Fl 25 [(0,Pt c 0),(1,Pt tb 0),(2,.slice (some ⟨nb,0,none⟩) s s),(11,.slice (some ⟨sb,0,none⟩) s s),(12,I s),(13,I k)] a) (cs:List Frame) (hvw:Rel zn v w) (hn:NoRow Ch v) (m0:Fm tb cb x v)
 (hk:∀ a v' w',Fl 25 [(0,Pt c 0),(1,Pt tb 0),(2,.slice (some ⟨nb,0,none⟩) s s),(11,.slice (some ⟨sb,0,none⟩) s s),(12,I s),(13,I k)] a→Fl 25 [(18,.slice (some ⟨nb,0,none⟩) s s),(19,I k)] a→Rel zn v' w'→NoRow Ch v'→v'.heap=v.heap→v'.os=v.os→v'.output=v.output→GoesI Tryd.prog main (DT (ScZ zn) Ch) Stop (G (kSeen a (I x)) cs) w') :
 GoesI Tryd.prog main (DT (ScZ zn) Ch) Stop (G (kFr a) cs) w:=by
 have e0:w.cell? ⟨sb,k,none⟩=some (Pt cb 0):=by rw [hvw.cell?];exact hcb
 have hks':(k:Int)<(s:Int):=by omega
 have HM:Hid (Fm tb cb x v):=⟨m0⟩
 clear m0
 unfold kSeen ops883 r884 B88 L88 Tryd.f88 seq1 seq2 blockC loopC opsOf at hk
 simp only [Option.getD_some] at hk
 obtain ⟨hsz,hd,hpp⟩:=hA
 obtain ⟨u,rfl,hg⟩:=litN hsz hd
 have u0:=(hg 0).symm.trans (hpp (0,Pt c 0) (by simp))
 have u1:=(hg 1).symm.trans (hpp (1,Pt tb 0) (by simp))
 have u2:=(hg 2).symm.trans (hpp (2,.slice (some ⟨nb,0,none⟩) s s) (by simp))
 have u11:=(hg 11).symm.trans (hpp (11,.slice (some ⟨sb,0,none⟩) s s) (by simp))
 have u12:=(hg 12).symm.trans (hpp (12,I s) (by simp))
 have u13:=(hg 13).symm.trans (hpp (13,I k) (by simp))
 clear hg hpp hsz hd
 unfold kFr L88 Tryd.f88 seq2 blockC loopC
 simp only [Option.getD_some,lits,Nat.reduceAdd,u0,u1,u2,u11,u12,u13]
 clear u0 u1 u2 u11 u12 u13
 refine goesI_seq (dt_idle _ _) ?_
 refine goesI_region (dt_idle _ _) ?_
 simp only [List.size_toArray,List.length_cons,List.length_nil,Nat.reduceAdd,Nat.zero_add,List.range,List.range.loop]
 iterate 1
  (refine goesI_oper rfl rfl (by decide) (fun d K hK=>?_)
   go_simp
   refine hK _ _ ⟨dt_reads (fun e he=>?_),GoesI.at ?_ d⟩
   ·have hm:=mem_listed he
    simp [go_sem, *] at hm
    try exact ⟨_,_,hm⟩
   clear hK K)
 refine goesI_regionEnd (dt_idle _ _) ?_
 refine goesI_seq (dt_idle _ _) ?_
 refine goesI_cond (dt_idle _ _) (t:=true) (by simp [Act.eval,hks]) ?_
 simp only [if_true,if_false,Bool.false_eq_true]
 refine goesI_skip (dt_idle _ _) ?_
 refine goesI_seq (dt_idle _ _) ?_
 refine goesI_block (dt_idle _ _) ?_
 refine goesI_seq (dt_idle _ _) ?_
 refine goesI_region (dt_idle _ _) ?_
 simp only [List.size_toArray,List.length_cons,List.length_nil,Nat.reduceAdd,Nat.zero_add,List.range,List.range.loop]
 iterate 5
  (refine goesI_oper rfl rfl (by decide) (fun d K hK=>?_)
   go_simp
   refine hK _ _ ⟨dt_reads (fun e he=>?_),GoesI.at ?_ d⟩
   ·have hm:=mem_listed he
    simp [go_sem, *] at hm
    try exact ⟨_,_,hm⟩
   clear hK K)
 refine goesI_regionEnd (dt_idle _ _) ?_
 refine goesI_region (dt_idle _ _) ?_
 simp only [List.size_toArray,List.length_cons,List.length_nil,Nat.reduceAdd,Nat.zero_add,List.range,List.range.loop]
 iterate 4
  (refine goesI_oper rfl rfl (by decide) (fun d K hK=>?_)
   go_simp
   refine hK _ _ ⟨dt_reads (fun e he=>?_),GoesI.at ?_ d⟩
   ·have hm:=mem_listed he
    simp [go_sem, *] at hm
    try exact ⟨_,_,hm⟩
   clear hK K)
 refine goesI_into (f:=73) (fn:=Tryd.f73) (args:=#[Pt cb 0,Pt tb 0]) (dt_idle _ _) rfl rfl (by decide) rfl (by simp [Act.eval]) Tryd.func73 (by decide) rfl ?_
 refine free17 x _ rfl hvw hn HM.out (fun v2 w2 r2 n2 h2=>?_) _ rfl
 exact hk _ v2 w2 ⟨rfl,rfl,by
  intro p hp
  simp only [List.mem_cons,List.not_mem_nil,or_false] at hp
  rcases hp with rfl|rfl|rfl|rfl|rfl|rfl<;>rfl⟩ ⟨rfl,rfl,by
  intro p hp
  simp only [List.mem_cons,List.not_mem_nil,or_false] at hp
  rcases hp with rfl|rfl<;>rfl⟩ r2 n2 (h2.stay HM.out) h2.os h2.out
theorem fcoll_loop {u0:World} (hC:Fcs u0 c sb s kb xs) (ht:u0.cell? ⟨tb,0,none⟩=some (.pointer none)) (hnb:u0.heap.size≤nb) (hfb:u0.heap.size≤fb) (hne:nb≠fb) (m:List Int) {cs:List Frame} {bc:Frame} {ac:Act} {ops:Array Oper} {q:Nat} {rest:List Nat} {oc:Oper} {kk:List Item} (hoc:ops[q]? = some oc)
 (hk:∀ v' w',Rel zn v' w'→NoRow Ch v'→Bl u0.heap.size u0 v'→v'.heap[nb]? = some (rowI xs)→v'.heap[fb]? = some (rowI m)→GoesI Tryd.prog main (DT (ScZ zn) Ch) Stop (G (bc.at (ac.put oc.dst (.tuple #[])) (.inRegion ops rest :: kk)) cs) w') :
 ∀ d k,s - k=d→k≤s→∀ (l:List Int) (a:Act) (v w:World),Fl 25 [(0,Pt c 0),(1,Pt tb 0),(2,.slice (some ⟨nb,0,none⟩) s s),(11,.slice (some ⟨sb,0,none⟩) s s),(12,I s),(13,I k)] a→Rel zn v w→NoRow Ch v→Bl u0.heap.size u0 v→v.heap[nb]? = some (rowI l)→l.length=s→(∀ j,j<k→l[j]? = xs[j]?)→v.heap[fb]? = some (rowI m)→GoesI Tryd.prog main (DT (ScZ zn) Ch) Stop (G (kFr a) (bc.at ac (.inRegion ops (q :: rest) :: kk) :: cs)) w:=by
 intro d
 induction d with
 |zero =>
  intro k hd hks l a v w hA hvw hn hb h1 hl hj h2
  have e:k=s:=by omega
  have el:l=xs:=List.ext_getElem? fun j=>by
   by_cases h:j<k
   ·exact hj j h
   ·rw [List.getElem?_eq_none (by omega),List.getElem?_eq_none (by rw [hC.len];omega)]
  subst el
  exact coll_done (v:=v) e hA _ hoc hvw hn (fun w1 r1=>hk v w1 r1 hn hb h1 h2)
 |succ d ih =>
  intro k hd hks l a v w hA hvw hn hb h1 hl hj h2
  have hlt:k<s:=by omega
  obtain ⟨cb,e1,e2⟩:=hC.ctr.cel k hlt
  obtain ⟨x,hx⟩:∃ x,xs[k]? = some x:=⟨_,List.getElem?_eq_getElem (by rw [hC.len];exact hlt)⟩
  obtain ⟨y,hy⟩:∃ y,l[k]? = some y:=⟨_,List.getElem?_eq_getElem (by rw [hl];exact hlt)⟩
  have htl:tb<u0.heap.size:=World.block_lt_of_cell? _ _ ht
  refine fcoll_look hlt (hb.cell hC.lt.2.1 e2) hA _ hvw hn ((hC.bl hb).fm e1 hx (hb.cell htl ht)) (fun a2 v2 w2 hA2 hB2 r2 n2 q1 q2 q3=>?_)
  have h1':v2.heap[nb]? = some (rowI l):=by rw [q1];exact h1
  refine coll_put x y hlt hC.ctr.s1 (rowI_cell h1' hy) (rowI_froz h1' k) hA2 hB2 _ r2 n2 (fun a3 w3 hA3 r3 n3=>?_)
  have oth:∀ b,b≠nb→(v2.setCell ⟨nb,k,none⟩ (I x)).heap[b]? = v2.heap[b]?:=fun b hb=>Below.heap_setCell _ _ _ _ hb
  refine ih (k+1) (by omega) (by omega) (l.set k x) a3 _ w3 hA3 r3 n3 ((hb.same q1 q2 q3).trans ⟨fun b hb'=>oth b (by omega),by simp [World.setCell],rfl,rfl⟩) (rowI_set h1' k x) (by rw [List.length_set];exact hl) (fun j hj2=>?_) (by rw [oth fb (fun e=>hne e.symm),q1];exact h2)
  rw [List.getElem?_set]
  by_cases e:k=j
  ·subst e
   rw [if_pos rfl,if_pos (by rw [hl];exact hlt),hx]
  ·rw [if_neg e];exact hj j (by omega)
theorem fsum {cs:List Frame} {bc:Frame} {ac:Act} {ops:Array Oper} {q:Nat} {rest:List Nat} {oc:Oper} {k:List Item} (hoc:ops[q]? = some oc)
 (hvw:Rel zn v w) (hn:NoRow Ch v) (hC:Fcs v c sb s kb xs) (ht:v.cell? ⟨tb,0,none⟩=some (.pointer none)) (hF:R1.Flds v)
 (hk:∀ v' w',Rel zn v' w'→NoRow Ch v'→Grows v v'→GoesI Tryd.prog main (DT (ScZ zn) Ch) Stop (G (bc.at (ac.put oc.dst (I (R1.totI xs))) (.inRegion ops rest :: k)) cs) w') (code:Code) (hc:Tryd.f57.body=some code) :
 GoesI Tryd.prog main (DT (ScZ zn) Ch) Stop (G ((base 57).at { tmps:=#[Pt c 0,Pt tb 0]++Array.replicate 33 undef,defers:=[] } [.code code]) (bc.at ac (.inRegion ops (q :: rest) :: k) :: cs)) w:=by
 refine sum_in hC.ctr.s1 hC.ctr.row _ hvw hn (fun a v1 w1 nb fb hA hnf r1 n1 a1 b1 c1=>?_) code hc
 have hnb:v.heap.size≤nb:=by omega
 have hfb:v.heap.size≤fb:=by omega
 have hne:nb≠fb:=by omega
 have g1:Bl v.heap.size v v1:=⟨fun b hb=>by
  rw [a1]
  simp only [Array.getElem?_push,Array.size_push]
  repeat rw [if_neg (by omega)],by rw [a1];simp;omega,b1,c1⟩
 have hrows:v1.heap[nb]? = some (rowI (List.replicate s 0))∧v1.heap[fb]? = some (rowI (List.replicate s 0)):=by
  rw [a1]
  simp only [Array.getElem?_push,Array.size_push]
  rcases hnf with ⟨rfl,rfl⟩|⟨rfl,rfl⟩
  ·simp
  ·simp
 refine sum_first (v:=v1) (sb:=sb) hA _ (fun a2 hA2 code2 hc2=>?_)
 refine coll_in (v:=v1) (sb:=sb) (s:=s) (nb:=nb) (g1.cell hC.lt.1 hC.ctr.row) _ r1 n1 (fun ak v2 w2 hK r2 n2 a2' b2 c2=>?_) code2 hc2
 refine fcoll_loop hC ht hnb hfb hne (List.replicate s 0) (bc:=base 57) (ac:=a2) (ops:=ops572) (q:=3) (rest:=[]) (oc:=ops572.getD 3 default) (kk:=[.code (seq2 B57),.inBlock 1,.inLoop L57,.inBlock 0]) (by rfl) (fun v3 w3 r3 n3 g3 h3 h3'=>?_) s 0 (by omega) (by omega) (List.replicate s 0) ak v2 w2 hK r2 n2 (g1.same a2' b2 c2) (by rw [a2'];exact hrows.1) (by simp) (fun j hj=>by omega) (by rw [a2'];exact hrows.2)
 refine sum_mid (sb:=sb) (nb:=nb) (fb:=fb) (v:=v3) hA2 xs (List.replicate s 0) hC.len (by simp) h3 h3' _ r3 n3 (fun a4 w4 hA4 r4 n4 code4 hc4=>?_)
 have oth:∀ b,b≠fb→(v3.setRow fb (xs.map I).toArray).heap[b]? = v3.heap[b]?:=fun b hb=>setRow_other v3 fb b _ hb
 have g4:Bl v.heap.size v (v3.setRow fb (xs.map I).toArray):=g3.trans ⟨fun b hb=>oth b (by omega),by simp [World.setRow],rfl,rfl⟩
 refine coll_in (sb:=sb) (s:=s) (nb:=nb) (g4.cell hC.lt.1 hC.ctr.row) _ r4 n4 (fun ak v5 w5 hK r5 n5 a5 b5 c5=>?_) code4 hc4
 refine fcoll_loop hC ht hnb hfb hne xs (bc:=base 57) (ac:=a4) (ops:=ops574) (q:=3) (rest:=[]) (oc:=ops574.getD 3 default) (kk:=[.code (seq2 (seq2 (seq2 B57))),.inBlock 1,.inLoop L57,.inBlock 0]) (by rfl) (fun v6 w6 r6 n6 g6 h6 h6'=>?_) s 0 (by omega) (by omega) xs ak v5 w5 hK r5 n5 (g4.same a5 b5 c5) (by rw [a5,oth nb hne];exact h3) hC.len (fun j hj=>by omega) (by rw [a5];exact setRow_rowI h3' xs)
 refine sum_end (sb:=sb) (nb:=nb) (fb:=fb) (v:=v6) hA4 xs xs hC.ctr.s1 hC.len hC.len (hF.of fun a x ha=>gx_cell g6.grows ha) h6 h6' _ hoc r6 n6 (fun _ v7 w7 r7 n7 g7=>hk v7 w7 r7 n7 (gx_trans g6.grows g7)) (fun hne _ _ _ _ _ _ _=>absurd rfl hne)
end
def padd (pk:Nat→Option Obj) (b:Nat) (o:Obj):Nat→Option Obj:=fun x=>if x=b then some o else pk x
theorem padd_at (pk:Nat→Option Obj) (b:Nat) (o:Obj):padd pk b o b=some o:=by unfold padd;rw [if_pos rfl]
theorem padd_ne {pk:Nat→Option Obj} {b x:Nat} {o:Obj} (h:x≠b):padd pk b o x=pk x:=by unfold padd;rw [if_neg h]
theorem cell_of {v:World} {b j:Nat} {c:Array Value} {t:TypeId} {f:Nat×Nat} {x:Value} (h:v.heap[b]? = some (.cells c t f)) (hj:c[j]? = some x):v.cell? ⟨b,j,none⟩=some x:=by
 unfold World.cell?
 rw [h]
 exact hj
section
variable {v u u':World} {S S1:TS} {K:List (Nat×Int)} {xs:List Int} {pk:Nat→Option Obj}
theorem Objs.start (hm:Mem zn S [] v) (hch:S.chg=[]):Objs v S [] (fun _=>none) S [] v :=
 ⟨Cel.refl hm,rfl,⟨S.cv,by unfold cellsS;rw [List.length_nil,List.replicate_zero,←hch]⟩,fun b o h=>(by cases h),fun b h=>absurd rfl h,fun b o h=>(by cases h)⟩
theorem Objs.startG (hm:Mem zn S [] v) (hch:S.chg=[]) (hpk:Has pk v) (hf:∀ b,pk b≠none→¬ Own S [] b∧b≠S.bk) (hr:∀ b o,pk b=some o→∃ c e f,o=.cells c e f):Objs v S [] pk S [] v :=
 ⟨Cel.refl hm,rfl,⟨S.cv,by unfold cellsS;rw [List.length_nil,List.replicate_zero,←hch]⟩,hpk,fun b h=>⟨.inr (hf b h).2,(hf b h).1⟩,hr⟩
theorem Objs.push (h:Objs v S xs pk S1 K u) {c:Array Value} {t:TypeId} (e:u'.heap=u.heap.push (.cells c t)) (e1:u'.os=u.os) (e2:u'.output=u.output):Objs v S xs (padd pk u.heap.size (.cells c t)) S1 K u':=by
 refine ⟨h.cel.push e e1 e2,h.vals,h.st,fun b o hb=>?_,fun b hb=>?_,fun b o hb=>?_⟩
 ·by_cases hbu:b=u.heap.size
  ·subst hbu
   rw [padd_at] at hb
   cases hb
   rw [e]
   exact Array.getElem?_push_size
  ·rw [padd_ne hbu] at hb
   have:=h.has b o hb
   have hl:=(Array.getElem?_eq_some_iff.1 this).1
   rw [e,Array.getElem?_push,if_neg (by omega)]
   exact this
 ·by_cases hbu:b=u.heap.size
  ·subst hbu
   exact ⟨.inl h.cel.fr.size,fun ho=>by have:=h.cel.mem.lt ho;omega⟩
  ·rw [padd_ne hbu] at hb
   exact h.new b hb
 ·by_cases hbu:b=u.heap.size
  ·subst hbu
   rw [padd_at] at hb
   cases hb
   exact ⟨_,_,_,rfl⟩
  ·rw [padd_ne hbu] at hb
   exact h.row b o hb
theorem Objs.more (h:Objs v S xs pk S1 K u) {S2:TS} {K2:List (Nat×Int)} {ys:List Int} (c:Cel zn S1 K u S2 K2 u') (hv:K2.map (·.2)=ys) (hs:∃ cv,S2=cellsS S cv ys.length):Objs v S ys pk S2 K2 u':=by
 have hl:∀ b o,pk b=some o→b<u.heap.size:=fun b o hb=>(Array.getElem?_eq_some_iff.1 (h.has b o hb)).1
 refine ⟨h.cel.trans c,hv,hs,fun b o hb=>?_,fun b hb=>?_,h.row⟩
 ·rw [c.fr.block b (hl b o hb) (h.new b (by rw [hb];simp)).2]
  exact h.has b o hb
 ·obtain ⟨o,ho⟩:=Option.ne_none_iff_exists'.1 hb
  refine ⟨(h.new b hb).1,fun ho'=>?_⟩
  rcases c.own b ho' with e|e
  ·exact (h.new b hb).2 e
  ·have:=hl b o ho;omega
theorem Objs.cell (h:Objs v S xs pk S1 K u) (x:Int) (hl:xs.length≤1000000):Calls Tryd.prog 70 #[Pt S.wb 0,I x] u (fun e w'=>∃ cb,e=.returned (Pt cb 0)∧u.heap.size≤w'.heap.size∧∃ S2,Objs v S (xs++[x]) pk S2 (K++[(cb,x)]) w'):=by
 obtain ⟨cv,rfl⟩:=h.st
 have h10:=(body10 h.cel.mem x (by show (List.replicate xs.length (0:Int)).length≤_;simp;omega)).calls Tryd.func70 rfl
 refine h10.mono ?_
 rintro e w' ⟨r,rfl,cb,cv',rfl,hm1,hf1,hn1⟩
 refine ⟨cb,rfl,hf1.size,_,h.more ⟨hm1,hf1,hn1⟩ (by rw [List.map_append,h.vals];rfl) ⟨cv',?_⟩⟩
 unfold celledS cellsS
 simp only [List.length_append,List.length_cons,List.length_nil,Nat.zero_add,List.replicate_succ']
end
def CBack {α:Type} (main:Bool) (pb:Nat) (enc:α→Value) (f:α→Int×Int) (cu:Value→Goroutine) (cl:Value→Goroutine):Prop :=
 ∀ (z:Nat→Option Nat) (Ch:Nat→Prop) (Stop:Goroutine→World→Prop) (w v:World) (S:TS) (K:List (Nat×Int)) (x:α),Rel z v w→NoRow Ch v→Mem z S K v→v.heap[pb]? = some (.cells #[I 0,I 0] 38 (0,0))→¬ Own S K pb →
   (∀ v' w',Rel z v' w'→NoRow Ch v'→EvoP (· = pb) z S K v S K v'→GoesI Tryd.prog main (DT (ScZ z) Ch) Stop (cl (.agg #[I (f x).1,I (f x).2])) w') →
   GoesI Tryd.prog main (DT (ScZ z) Ch) Stop (cu (enc x)) w
noncomputable def c860:Code:=seq1 (Tryd.f86.body.getD .skip)
theorem fine_c860:fineCode Tryd.prog true LT c860:=fineCode_ask callT extT (by kernel_rfl)
theorem call_add {z:Nat→Option Nat} {Ch:Nat→Prop} {Stop:Goroutine→World→Prop} {main:Bool} {v w:World} {c tb:Nat} (ca cb cc:Int) (cs:List Frame) {bc:Frame} {ac:Act} {ops:Array Oper} {q:Nat} {rest:List Nat} {oc:Oper} {k:List Item} (hoc:ops[q]? = some oc)
 (hvw:Rel z v w) (hn:NoRow Ch v)
 (hstop:∀ v' w' (bd:Frame) (ad:Act) (od:Array Oper) (qd:Nat) (rd:List Nat) (oe:Oper) (kd:List Item),Rel z v' w'→NoRow Ch v'→Grows v v'→v'.heap[v.heap.size+1]? = some (.cells #[I 0,I 0] 38 (0,0))→od[qd]? = some oe →
   CBack main (v.heap.size+1) (fun _:Unit=>.tuple #[]) (fun _=>(0,0)) (fun r=>G (bd.at (ad.put oe.dst r) (.inRegion od rd :: kd)) (bc.at ac (.inRegion ops (q :: rest) :: k) :: cs)) (fun r=>G (bc.at (ac.put oc.dst r) (.inRegion ops rest :: k)) cs)→∀ code,Tryd.f55.body=some code →
   GoesI Tryd.prog main (DT (ScZ z) Ch) Stop (G ((base 55).at { tmps:=#[Pt c 0,Pt tb 0,I (ca.tmod 1000)]++Array.replicate 29 undef,defers:=[] } [.code code]) (bd.at ad (.inRegion od (qd :: rd) :: kd) :: bc.at ac (.inRegion ops (q :: rest) :: k) :: cs)) w') (code:Code) (hc:Tryd.f86.body=some code) :
 GoesI Tryd.prog main (DT (ScZ z) Ch) Stop (G ((base 86).at { tmps:=#[Pt c 0,Pt tb 0,.agg #[I 1,I ca,I cb,I cc]]++Array.replicate 22 undef,defers:=[] } [.code code]) (bc.at ac (.inRegion ops (q :: rest) :: k) :: cs)) w:=by
 have hw0:code=.seq c860 (seq2 (Tryd.f86.body.getD .skip)):=by
  rw [show code=Tryd.f86.body.getD .skip by rw [hc];rfl];rfl
 subst hw0
 clear hc
 refine goesI_seq (dt_idle _ _) ?_
 refine goesI_plain (z:=z) (wr:=true) (L:=LT) (I:=NoRow Ch) hE fineT noRow_keeps (fun v v' w w' es hi hr ho he=>dt_of_z v v' w w' es hi hr ho he) hvw fine_c860 rfl (by simp [base]) hn
  (Q:=fun a w'=>a={ tmps:=#[Pt c 0,Pt tb 0,.agg #[I 1,I ca,I cb,I cc],undef,undef,Pt v.heap.size 0,Pt (v.heap.size+1) 0]++Array.replicate 18 undef,defers:=[] } ∧
    w'.heap=(v.heap.push (.cells #[I 1,I ca,I cb,I cc] 35)).push (.cells #[I 0,I 0] 38)∧w'.os=v.os∧w'.output=v.output) (fun τ=>?_) ?_
 ·show Code.wp Tryd.prog (seq1 (Tryd.f86.body.getD .skip)) _ _ _
  unfold Tryd.f86 seq1
  simp only [Option.getD_some,Array.replicate_succ,Array.replicate_zero,List.push_toArray,List.append_toArray,List.nil_append,List.cons_append]
  go_wp2_with fail
  exact ⟨rfl,rfl,rfl,rfl⟩
 rintro a' v' w' ⟨rfl,hv1,hv2,hv3⟩ hr' hn' -
 have hsz:v'.heap.size=v.heap.size+2:=by rw [hv1];simp
 have hg:Grows v v':=⟨by omega,fun b hb=>by rw [hv1,Array.getElem?_push,if_neg (by simp;omega),Array.getElem?_push,if_neg (by omega)],hv2,hv3⟩
 have hbox:v'.heap[v.heap.size]? = some (.cells #[I 1,I ca,I cb,I cc] 35):=by rw [hv1,Array.getElem?_push,if_neg (by simp)];exact Array.getElem?_push_size
 have hans:v'.heap[v.heap.size+1]? = some (.cells #[I 0,I 0] 38):=by rw [hv1,Array.getElem?_push,if_pos (by simp)]
 have b0:w'.cell? ⟨v.heap.size,0,none⟩=some (I 1):=by rw [hr'.cell?];simp [World.cell?,hbox]
 have b1:w'.cell? ⟨v.heap.size,1,none⟩=some (I ca):=by rw [hr'.cell?];simp [World.cell?,hbox]
 have HV:Hid (Grows v v'∧v'.heap[v.heap.size+1]? = some (.cells #[I 0,I 0] 38)∧NoRow Ch v'∧Rel z v' w'):=⟨⟨hg,hans,hn',hr'⟩⟩
 clear hv1 hv2 hv3 hsz hg hbox hans hn' hvw hn hr'
 generalize hN:v.heap.size=N at b0 b1 HV hstop ⊢
 simp only [Array.replicate_succ,Array.replicate_zero,List.push_toArray,List.append_toArray,List.nil_append,List.cons_append]
 show GoesI Tryd.prog main (DT (ScZ z) Ch) Stop (G ((base 86).at _ [.code (seq2 (Tryd.f86.body.getD .skip))]) _) w'
 unfold Tryd.f86 seq2
 simp only [Option.getD_some]
 refine goesI_seq (dt_idle _ _) ?_
 refine goesI_seq (dt_idle _ _) ?_
 refine goesI_region (dt_idle _ _) ?_
 simp only [List.size_toArray,List.length_cons,List.length_nil,Nat.reduceAdd,Nat.zero_add,List.range,List.range.loop]
 iterate 2
  (refine goesI_oper rfl rfl (by decide) (fun d K hK=>?_)
   go_simp
   refine hK _ _ ⟨dt_reads (fun e he=>?_),GoesI.at ?_ d⟩
   ·have hm:=mem_listed he
    simp [go_sem, *] at hm
    try exact ⟨_,_,hm⟩
   clear hK K)
 refine goesI_regionEnd (dt_idle _ _) ?_
 refine goesI_block (dt_idle _ _) ?_
 refine goesI_seq (dt_idle _ _) ?_
 refine goesI_region (dt_idle _ _) ?_
 simp only [List.size_toArray,List.length_cons,List.length_nil,Nat.reduceAdd,Nat.zero_add,List.range,List.range.loop]
 iterate 2
  (refine goesI_oper rfl rfl (by decide) (fun d K hK=>?_)
   go_simp
   refine hK _ _ ⟨dt_reads (fun e he=>?_),GoesI.at ?_ d⟩
   ·have hm:=mem_listed he
    simp [go_sem, *] at hm
    try exact ⟨_,_,hm⟩
   clear hK K)
 refine goesI_regionEnd (dt_idle _ _) ?_
 refine goesI_cond (dt_idle _ _) (t:=true) (by simp [Act.eval]) ?_
 simp only [if_true,if_false,Bool.false_eq_true]
 refine goesI_seq (dt_idle _ _) ?_
 refine goesI_region (dt_idle _ _) ?_
 simp only [List.size_toArray,List.length_cons,List.length_nil,Nat.reduceAdd,Nat.zero_add,List.range,List.range.loop]
 iterate 5
  (refine goesI_oper rfl rfl (by decide) (fun d K hK=>?_)
   go_simp
   refine hK _ _ ⟨dt_reads (fun e he=>?_),GoesI.at ?_ d⟩
   ·have hm:=mem_listed he
    simp [go_sem, *] at hm
    try exact ⟨_,_,hm⟩
   clear hK K)
 refine goesI_into (f:=55) (fn:=Tryd.f55) (args:=#[Pt c 0,Pt tb 0,I (ca.tmod 1000)]) (dt_idle _ _) rfl rfl (by decide) rfl (by simp [Act.eval]) Tryd.func55 (by decide) rfl ?_
 refine hstop v' w' _ _ _ _ _ _ _ HV.out.2.2.2 HV.out.2.2.1 HV.out.1 HV.out.2.1 rfl ?_ _ rfl
 clear b0 b1 HV hstop
 intro z1 Ch1 St w2 v2 S1 K1 x r2 n2 m2 hpb2 hown2 hk
 have q0:v2.cell? ⟨N+1,0,none⟩=some (I 0):=by simp [World.cell?,hpb2]
 have q1:v2.cell? ⟨N+1,1,none⟩=some (I 0):=by simp [World.cell?,hpb2]
 have p0:v2.frozen? ⟨N+1,0,none⟩=false:=by simp [World.frozen?,hpb2]
 have p1:v2.frozen? ⟨N+1,1,none⟩=false:=by simp [World.frozen?,hpb2]
 have e3:=m2.other (v':=(v2.setCell ⟨N+1,0,none⟩ (I 0)).setCell ⟨N+1,1,none⟩ (I 0)) hown2 (fun b hb=>by rw [Below.heap_setCell _ _ _ _ hb,Below.heap_setCell _ _ _ _ hb]) (by simp [World.setCell]) rfl rfl
 have hrow:((v2.setCell ⟨N+1,0,none⟩ (I 0)).setCell ⟨N+1,1,none⟩ (I 0)).heap[N+1]? = some (.cells #[I 0,I 0] 38 (0,0)):=by
  have:=heap_setCell_same (o:=1) (heap_setCell_same (o:=0) hpb2 (I 0)) (I 0)
  simpa using this
 have HM:Hid (Mem z1 S1 K1 v2∧v2.heap[N+1]? = some (.cells #[I 0,I 0] 38 (0,0))):=⟨⟨m2,hpb2⟩⟩
 clear m2 hpb2
 show GoesI Tryd.prog main (DT (ScZ z1) Ch1) St _ w2
 walk_nrm
 refine goesI_regionEnd (dt_idle _ _) ?_
 refine goesI_seq (dt_idle _ _) ?_
 refine goesI_region (dt_idle _ _) ?_
 simp only [List.size_toArray,List.length_cons,List.length_nil,Nat.reduceAdd,Nat.zero_add,List.range,List.range.loop]
 iterate 1
  (refine goesI_oper rfl rfl (by decide) (fun d K hK=>?_)
   go_simp
   refine hK _ _ ⟨dt_reads (fun e he=>?_),GoesI.at ?_ d⟩
   ·have hm:=mem_listed he
    simp [go_sem, *] at hm
    try exact ⟨_,_,hm⟩
   clear hK K)
 refine goesI_doZ (L:=LT) rfl rfl (by decide) (fineOp_ask callT extT (by kernel_rfl)) r2 n2 (v':=(v2.setCell ⟨N+1,0,none⟩ (I 0)).setCell ⟨N+1,1,none⟩ (I 0)) (by go_simp) rfl (fun w3 r3 n3=>?_)
 refine goesI_regionEnd (dt_idle _ _) ?_
 refine GoesI.ctl rfl (fun _=>stepG_ret') (dt_idle _ _) ?_
 refine goesI_leaveZ (f:=86) (fn:=Tryd.f86) (x:=.agg #[I 0,I 0]) r3 n3 Tryd.func86 rfl hoc ?_ (fun w' r'=>hk _ w' r' n3 e3)
 generalize ((v2.setCell ⟨N+1,0,none⟩ (I 0)).setCell ⟨N+1,1,none⟩ (I 0))=V at hrow
 have k0:V.cell? ⟨N+1,0,none⟩=some (I 0):=by simp [World.cell?,hrow]
 have k1:V.cell? ⟨N+1,1,none⟩=some (I 0):=by simp [World.cell?,hrow]
 simp [results,go_sem,Tryd.f86, *]
theorem call_sum {z:Nat→Option Nat} {Ch:Nat→Prop} {Stop:Goroutine→World→Prop} {main:Bool} {v w:World} {c tb:Nat} (ca cb cc:Int) (cs:List Frame) {bc:Frame} {ac:Act} {ops:Array Oper} {q:Nat} {rest:List Nat} {oc:Oper} {k:List Item} (hoc:ops[q]? = some oc)
 (hvw:Rel z v w) (hn:NoRow Ch v)
 (hstop:∀ v' w' (bd:Frame) (ad:Act) (od:Array Oper) (qd:Nat) (rd:List Nat) (oe:Oper) (kd:List Item),Rel z v' w'→NoRow Ch v'→Grows v v'→v'.heap[v.heap.size+1]? = some (.cells #[I 0,I 0] 38 (0,0))→od[qd]? = some oe →
   CBack main (v.heap.size+1) (fun x:Int=>I x) (fun x=>(0,x)) (fun r=>G (bd.at (ad.put oe.dst r) (.inRegion od rd :: kd)) (bc.at ac (.inRegion ops (q :: rest) :: k) :: cs)) (fun r=>G (bc.at (ac.put oc.dst r) (.inRegion ops rest :: k)) cs)→∀ code,Tryd.f57.body=some code →
   GoesI Tryd.prog main (DT (ScZ z) Ch) Stop (G ((base 57).at { tmps:=#[Pt c 0,Pt tb 0]++Array.replicate 33 undef,defers:=[] } [.code code]) (bd.at ad (.inRegion od (qd :: rd) :: kd) :: bc.at ac (.inRegion ops (q :: rest) :: k) :: cs)) w') (code:Code) (hc:Tryd.f86.body=some code) :
 GoesI Tryd.prog main (DT (ScZ z) Ch) Stop (G ((base 86).at { tmps:=#[Pt c 0,Pt tb 0,.agg #[I 2,I ca,I cb,I cc]]++Array.replicate 22 undef,defers:=[] } [.code code]) (bc.at ac (.inRegion ops (q :: rest) :: k) :: cs)) w:=by
 have hw0:code=.seq c860 (seq2 (Tryd.f86.body.getD .skip)):=by
  rw [show code=Tryd.f86.body.getD .skip by rw [hc];rfl];rfl
 subst hw0
 clear hc
 refine goesI_seq (dt_idle _ _) ?_
 refine goesI_plain (z:=z) (wr:=true) (L:=LT) (I:=NoRow Ch) hE fineT noRow_keeps (fun v v' w w' es hi hr ho he=>dt_of_z v v' w w' es hi hr ho he) hvw fine_c860 rfl (by simp [base]) hn
  (Q:=fun a w'=>a={ tmps:=#[Pt c 0,Pt tb 0,.agg #[I 2,I ca,I cb,I cc],undef,undef,Pt v.heap.size 0,Pt (v.heap.size+1) 0]++Array.replicate 18 undef,defers:=[] } ∧
    w'.heap=(v.heap.push (.cells #[I 2,I ca,I cb,I cc] 35)).push (.cells #[I 0,I 0] 38)∧w'.os=v.os∧w'.output=v.output) (fun τ=>?_) ?_
 ·show Code.wp Tryd.prog (seq1 (Tryd.f86.body.getD .skip)) _ _ _
  unfold Tryd.f86 seq1
  simp only [Option.getD_some,Array.replicate_succ,Array.replicate_zero,List.push_toArray,List.append_toArray,List.nil_append,List.cons_append]
  go_wp2_with fail
  exact ⟨rfl,rfl,rfl,rfl⟩
 rintro a' v' w' ⟨rfl,hv1,hv2,hv3⟩ hr' hn' -
 have hsz:v'.heap.size=v.heap.size+2:=by rw [hv1];simp
 have hg:Grows v v':=⟨by omega,fun b hb=>by rw [hv1,Array.getElem?_push,if_neg (by simp;omega),Array.getElem?_push,if_neg (by omega)],hv2,hv3⟩
 have hbox:v'.heap[v.heap.size]? = some (.cells #[I 2,I ca,I cb,I cc] 35):=by rw [hv1,Array.getElem?_push,if_neg (by simp)];exact Array.getElem?_push_size
 have hans:v'.heap[v.heap.size+1]? = some (.cells #[I 0,I 0] 38):=by rw [hv1,Array.getElem?_push,if_pos (by simp)]
 have b0:w'.cell? ⟨v.heap.size,0,none⟩=some (I 2):=by rw [hr'.cell?];simp [World.cell?,hbox]
 have b1:w'.cell? ⟨v.heap.size,1,none⟩=some (I ca):=by rw [hr'.cell?];simp [World.cell?,hbox]
 have HV:Hid (Grows v v'∧v'.heap[v.heap.size+1]? = some (.cells #[I 0,I 0] 38)∧NoRow Ch v'∧Rel z v' w'):=⟨⟨hg,hans,hn',hr'⟩⟩
 clear hv1 hv2 hv3 hsz hg hbox hans hn' hvw hn hr'
 generalize hN:v.heap.size=N at b0 b1 HV hstop ⊢
 simp only [Array.replicate_succ,Array.replicate_zero,List.push_toArray,List.append_toArray,List.nil_append,List.cons_append]
 show GoesI Tryd.prog main (DT (ScZ z) Ch) Stop (G ((base 86).at _ [.code (seq2 (Tryd.f86.body.getD .skip))]) _) w'
 unfold Tryd.f86 seq2
 simp only [Option.getD_some]
 refine goesI_seq (dt_idle _ _) ?_
 refine goesI_seq (dt_idle _ _) ?_
 refine goesI_region (dt_idle _ _) ?_
 simp only [List.size_toArray,List.length_cons,List.length_nil,Nat.reduceAdd,Nat.zero_add,List.range,List.range.loop]
 iterate 2
  (refine goesI_oper rfl rfl (by decide) (fun d K hK=>?_)
   go_simp
   refine hK _ _ ⟨dt_reads (fun e he=>?_),GoesI.at ?_ d⟩
   ·have hm:=mem_listed he
    simp [go_sem, *] at hm
    try exact ⟨_,_,hm⟩
   clear hK K)
 refine goesI_regionEnd (dt_idle _ _) ?_
 refine goesI_block (dt_idle _ _) ?_
 refine goesI_seq (dt_idle _ _) ?_
 refine goesI_region (dt_idle _ _) ?_
 simp only [List.size_toArray,List.length_cons,List.length_nil,Nat.reduceAdd,Nat.zero_add,List.range,List.range.loop]
 iterate 2
  (refine goesI_oper rfl rfl (by decide) (fun d K hK=>?_)
   go_simp
   refine hK _ _ ⟨dt_reads (fun e he=>?_),GoesI.at ?_ d⟩
   ·have hm:=mem_listed he
    simp [go_sem, *] at hm
    try exact ⟨_,_,hm⟩
   clear hK K)
 refine goesI_regionEnd (dt_idle _ _) ?_
 refine goesI_cond (dt_idle _ _) (t:=false) (by simp [Act.eval]) ?_
 simp only [if_true,if_false,Bool.false_eq_true]
 refine goesI_seq (dt_idle _ _) ?_
 refine goesI_region (dt_idle _ _) ?_
 simp only [List.size_toArray,List.length_cons,List.length_nil,Nat.reduceAdd,Nat.zero_add,List.range,List.range.loop]
 iterate 2
  (refine goesI_oper rfl rfl (by decide) (fun d K hK=>?_)
   go_simp
   refine hK _ _ ⟨dt_reads (fun e he=>?_),GoesI.at ?_ d⟩
   ·have hm:=mem_listed he
    simp [go_sem, *] at hm
    try exact ⟨_,_,hm⟩
   clear hK K)
 refine goesI_regionEnd (dt_idle _ _) ?_
 refine goesI_cond (dt_idle _ _) (t:=true) (by simp [Act.eval]) ?_
 simp only [if_true,if_false,Bool.false_eq_true]
 refine goesI_seq (dt_idle _ _) ?_
 refine goesI_region (dt_idle _ _) ?_
 simp only [List.size_toArray,List.length_cons,List.length_nil,Nat.reduceAdd,Nat.zero_add,List.range,List.range.loop]
 iterate 2
  (refine goesI_oper rfl rfl (by decide) (fun d K hK=>?_)
   go_simp
   refine hK _ _ ⟨dt_reads (fun e he=>?_),GoesI.at ?_ d⟩
   ·have hm:=mem_listed he
    simp [go_sem, *] at hm
    try exact ⟨_,_,hm⟩
   clear hK K)
 refine goesI_into (f:=57) (fn:=Tryd.f57) (args:=#[Pt c 0,Pt tb 0]) (dt_idle _ _) rfl rfl (by decide) rfl (by simp [Act.eval]) Tryd.func57 (by decide) rfl ?_
 refine hstop v' w' _ _ _ _ _ _ _ HV.out.2.2.2 HV.out.2.2.1 HV.out.1 HV.out.2.1 rfl ?_ _ rfl
 clear b0 b1 HV hstop
 intro z1 Ch1 St w2 v2 S1 K1 x r2 n2 m2 hpb2 hown2 hk
 have q0:v2.cell? ⟨N+1,0,none⟩=some (I 0):=by simp [World.cell?,hpb2]
 have q1:v2.cell? ⟨N+1,1,none⟩=some (I 0):=by simp [World.cell?,hpb2]
 have p0:v2.frozen? ⟨N+1,0,none⟩=false:=by simp [World.frozen?,hpb2]
 have p1:v2.frozen? ⟨N+1,1,none⟩=false:=by simp [World.frozen?,hpb2]
 have e3:=m2.other (v':=(v2.setCell ⟨N+1,0,none⟩ (I 0)).setCell ⟨N+1,1,none⟩ (I x)) hown2 (fun b hb=>by rw [Below.heap_setCell _ _ _ _ hb,Below.heap_setCell _ _ _ _ hb]) (by simp [World.setCell]) rfl rfl
 have hrow:((v2.setCell ⟨N+1,0,none⟩ (I 0)).setCell ⟨N+1,1,none⟩ (I x)).heap[N+1]? = some (.cells #[I 0,I x] 38 (0,0)):=by
  have:=heap_setCell_same (o:=1) (heap_setCell_same (o:=0) hpb2 (I 0)) (I x)
  simpa using this
 have HM:Hid (Mem z1 S1 K1 v2∧v2.heap[N+1]? = some (.cells #[I 0,I 0] 38 (0,0))):=⟨⟨m2,hpb2⟩⟩
 clear m2 hpb2
 show GoesI Tryd.prog main (DT (ScZ z1) Ch1) St _ w2
 walk_nrm
 iterate 1
  (refine goesI_oper rfl rfl (by decide) (fun d K hK=>?_)
   go_simp
   refine hK _ _ ⟨dt_reads (fun e he=>?_),GoesI.at ?_ d⟩
   ·have hm:=mem_listed he
    simp [go_sem, *] at hm
    try exact ⟨_,_,hm⟩
   clear hK K)
 refine goesI_doZ (L:=LT) rfl rfl (by decide) (fineOp_ask callT extT (by kernel_rfl)) r2 n2 (v':=(v2.setCell ⟨N+1,0,none⟩ (I 0)).setCell ⟨N+1,1,none⟩ (I x)) (by go_simp) rfl (fun w3 r3 n3=>?_)
 refine goesI_regionEnd (dt_idle _ _) ?_
 refine GoesI.ctl rfl (fun _=>stepG_ret') (dt_idle _ _) ?_
 refine goesI_leaveZ (f:=86) (fn:=Tryd.f86) (x:=.agg #[I 0,I x]) r3 n3 Tryd.func86 rfl hoc ?_ (fun w' r'=>hk _ w' r' n3 e3)
 generalize ((v2.setCell ⟨N+1,0,none⟩ (I 0)).setCell ⟨N+1,1,none⟩ (I x))=V at hrow
 have k0:V.cell? ⟨N+1,0,none⟩=some (I 0):=by simp [World.cell?,hrow]
 have k1:V.cell? ⟨N+1,1,none⟩=some (I x):=by simp [World.cell?,hrow]
 simp [results,go_sem,Tryd.f86, *]
theorem call_none {z:Nat→Option Nat} {Ch:Nat→Prop} {Stop:Goroutine→World→Prop} {main:Bool} {v w:World} {c tb:Nat} (ca cb cc:Int) (cs:List Frame) {bc:Frame} {ac:Act} {ops:Array Oper} {q:Nat} {rest:List Nat} {oc:Oper} {k:List Item} (hoc:ops[q]? = some oc)
 (hvw:Rel z v w) (hn:NoRow Ch v) (po:Int) (h1:po≠1) (h2:po≠2)
 (hstop:∀ v' w',Rel z v' w'→NoRow Ch v'→Grows v v'→v'.heap[v.heap.size+1]? = some (.cells #[I 1,I 0] 38 (0,0))→GoesI Tryd.prog main (DT (ScZ z) Ch) Stop (G (bc.at (ac.put oc.dst (.agg #[I 1,I 0])) (.inRegion ops rest :: k)) cs) w') (code:Code) (hc:Tryd.f86.body=some code) :
 GoesI Tryd.prog main (DT (ScZ z) Ch) Stop (G ((base 86).at { tmps:=#[Pt c 0,Pt tb 0,.agg #[I po,I ca,I cb,I cc]]++Array.replicate 22 undef,defers:=[] } [.code code]) (bc.at ac (.inRegion ops (q :: rest) :: k) :: cs)) w:=by
 have hw0:code=.seq c860 (seq2 (Tryd.f86.body.getD .skip)):=by
  rw [show code=Tryd.f86.body.getD .skip by rw [hc];rfl];rfl
 subst hw0
 clear hc
 refine goesI_seq (dt_idle _ _) ?_
 refine goesI_plain (z:=z) (wr:=true) (L:=LT) (I:=NoRow Ch) hE fineT noRow_keeps (fun v v' w w' es hi hr ho he=>dt_of_z v v' w w' es hi hr ho he) hvw fine_c860 rfl (by simp [base]) hn
  (Q:=fun a w'=>a={ tmps:=#[Pt c 0,Pt tb 0,.agg #[I po,I ca,I cb,I cc],undef,undef,Pt v.heap.size 0,Pt (v.heap.size+1) 0]++Array.replicate 18 undef,defers:=[] } ∧
    w'.heap=(v.heap.push (.cells #[I po,I ca,I cb,I cc] 35)).push (.cells #[I 0,I 0] 38)∧w'.os=v.os∧w'.output=v.output) (fun τ=>?_) ?_
 ·show Code.wp Tryd.prog (seq1 (Tryd.f86.body.getD .skip)) _ _ _
  unfold Tryd.f86 seq1
  simp only [Option.getD_some,Array.replicate_succ,Array.replicate_zero,List.push_toArray,List.append_toArray,List.nil_append,List.cons_append]
  go_wp2_with fail
  exact ⟨rfl,rfl,rfl,rfl⟩
 rintro a' v' w' ⟨rfl,hv1,hv2,hv3⟩ hr' hn' -
 have hsz:v'.heap.size=v.heap.size+2:=by rw [hv1];simp
 have hg:Grows v v':=⟨by omega,fun b hb=>by rw [hv1,Array.getElem?_push,if_neg (by simp;omega),Array.getElem?_push,if_neg (by omega)],hv2,hv3⟩
 have hbox:v'.heap[v.heap.size]? = some (.cells #[I po,I ca,I cb,I cc] 35):=by rw [hv1,Array.getElem?_push,if_neg (by simp)];exact Array.getElem?_push_size
 have hans:v'.heap[v.heap.size+1]? = some (.cells #[I 0,I 0] 38):=by rw [hv1,Array.getElem?_push,if_pos (by simp)]
 have b0:w'.cell? ⟨v.heap.size,0,none⟩=some (I po):=by rw [hr'.cell?];simp [World.cell?,hbox]
 have b1:w'.cell? ⟨v.heap.size,1,none⟩=some (I ca):=by rw [hr'.cell?];simp [World.cell?,hbox]
 have HV:Hid (Grows v v'∧v'.heap[v.heap.size+1]? = some (.cells #[I 0,I 0] 38)∧NoRow Ch v'∧Rel z v' w'):=⟨⟨hg,hans,hn',hr'⟩⟩
 clear hv1 hv2 hv3 hsz hg hbox hans hn' hvw hn hr'
 generalize hN:v.heap.size=N at b0 b1 HV hstop ⊢
 simp only [Array.replicate_succ,Array.replicate_zero,List.push_toArray,List.append_toArray,List.nil_append,List.cons_append]
 show GoesI Tryd.prog main (DT (ScZ z) Ch) Stop (G ((base 86).at _ [.code (seq2 (Tryd.f86.body.getD .skip))]) _) w'
 unfold Tryd.f86 seq2
 simp only [Option.getD_some]
 refine goesI_seq (dt_idle _ _) ?_
 refine goesI_seq (dt_idle _ _) ?_
 refine goesI_region (dt_idle _ _) ?_
 simp only [List.size_toArray,List.length_cons,List.length_nil,Nat.reduceAdd,Nat.zero_add,List.range,List.range.loop]
 iterate 2
  (refine goesI_oper rfl rfl (by decide) (fun d K hK=>?_)
   go_simp
   refine hK _ _ ⟨dt_reads (fun e he=>?_),GoesI.at ?_ d⟩
   ·have hm:=mem_listed he
    simp [go_sem, *] at hm
    try exact ⟨_,_,hm⟩
   clear hK K)
 refine goesI_regionEnd (dt_idle _ _) ?_
 refine goesI_block (dt_idle _ _) ?_
 refine goesI_seq (dt_idle _ _) ?_
 refine goesI_region (dt_idle _ _) ?_
 simp only [List.size_toArray,List.length_cons,List.length_nil,Nat.reduceAdd,Nat.zero_add,List.range,List.range.loop]
 iterate 2
  (refine goesI_oper rfl rfl (by decide) (fun d K hK=>?_)
   go_simp
   refine hK _ _ ⟨dt_reads (fun e he=>?_),GoesI.at ?_ d⟩
   ·have hm:=mem_listed he
    simp [go_sem, *] at hm
    try exact ⟨_,_,hm⟩
   clear hK K)
 refine goesI_regionEnd (dt_idle _ _) ?_
 refine goesI_cond (dt_idle _ _) (t:=false) (by simp [Act.eval,h1]) ?_
 simp only [if_true,if_false,Bool.false_eq_true]
 refine goesI_seq (dt_idle _ _) ?_
 refine goesI_region (dt_idle _ _) ?_
 simp only [List.size_toArray,List.length_cons,List.length_nil,Nat.reduceAdd,Nat.zero_add,List.range,List.range.loop]
 iterate 2
  (refine goesI_oper rfl rfl (by decide) (fun d K hK=>?_)
   go_simp
   refine hK _ _ ⟨dt_reads (fun e he=>?_),GoesI.at ?_ d⟩
   ·have hm:=mem_listed he
    simp [go_sem, *] at hm
    try exact ⟨_,_,hm⟩
   clear hK K)
 refine goesI_regionEnd (dt_idle _ _) ?_
 refine goesI_cond (dt_idle _ _) (t:=false) (by simp [Act.eval,h2]) ?_
 simp only [if_true,if_false,Bool.false_eq_true]
 refine goesI_skip (dt_idle _ _) ?_
 refine goesI_inBlock (dt_idle _ _) ?_
 refine goesI_seq (dt_idle _ _) ?_
 refine goesI_region (dt_idle _ _) ?_
 simp only [List.size_toArray,List.length_cons,List.length_nil,Nat.reduceAdd,Nat.zero_add,List.range,List.range.loop]
 obtain ⟨hg,hans,hn',hr'⟩:=HV.out
 have q0:v'.cell? ⟨N+1,0,none⟩=some (I 0):=by simp [World.cell?,hans]
 have q1:v'.cell? ⟨N+1,1,none⟩=some (I 0):=by simp [World.cell?,hans]
 have p0:v'.frozen? ⟨N+1,0,none⟩=false:=by simp [World.frozen?,hans]
 have p1:v'.frozen? ⟨N+1,1,none⟩=false:=by simp [World.frozen?,hans]
 have hrow:((v'.setCell ⟨N+1,0,none⟩ (I 1)).setCell ⟨N+1,1,none⟩ (I 0)).heap[N+1]? = some (.cells #[I 1,I 0] 38 (0,0)):=by
  have:=heap_setCell_same (o:=1) (heap_setCell_same (o:=0) hans (I 1)) (I 0)
  simpa using this
 have hg2:Grows v ((v'.setCell ⟨N+1,0,none⟩ (I 1)).setCell ⟨N+1,1,none⟩ (I 0)):=by
  refine ⟨by simp [World.setCell];exact hg.size,fun b hb=>?_,hg.os,hg.output⟩
  have hbN:b≠N+1:=by omega
  rw [Below.heap_setCell _ _ _ _ hbN,Below.heap_setCell _ _ _ _ hbN]
  exact hg.old b hb
 clear hg hans b0 b1 HV
 iterate 1
  (refine goesI_oper rfl rfl (by decide) (fun d K hK=>?_)
   go_simp
   refine hK _ _ ⟨dt_reads (fun e he=>?_),GoesI.at ?_ d⟩
   ·have hm:=mem_listed he
    simp [go_sem, *] at hm
    try exact ⟨_,_,hm⟩
   clear hK K)
 refine goesI_doZ (L:=LT) rfl rfl (by decide) (fineOp_ask callT extT (by kernel_rfl)) hr' hn' (v':=(v'.setCell ⟨N+1,0,none⟩ (I 1)).setCell ⟨N+1,1,none⟩ (I 0)) (by go_simp) rfl (fun w3 r3 n3=>?_)
 refine goesI_regionEnd (dt_idle _ _) ?_
 refine GoesI.ctl rfl (fun _=>stepG_ret') (dt_idle _ _) ?_
 refine goesI_leaveZ (f:=86) (fn:=Tryd.f86) (x:=.agg #[I 1,I 0]) r3 n3 Tryd.func86 rfl hoc ?_ (fun w' r'=>hstop _ w' r' n3 hg2 hrow)
 generalize ((v'.setCell ⟨N+1,0,none⟩ (I 1)).setCell ⟨N+1,1,none⟩ (I 0))=V at hrow
 have k0:V.cell? ⟨N+1,0,none⟩=some (I 1):=by simp [World.cell?,hrow]
 have k1:V.cell? ⟨N+1,1,none⟩=some (I 0):=by simp [World.cell?,hrow]
 simp [results,go_sem,Tryd.f86, *]
variable {mc:Mc}
structure Now (X:Fix mc) (z:Nat→Option Nat) (cont:Addr→Value) (Ch:Nat→Prop) (S0:TS) (K0:List (Nat×Int)) (v0:World) (Mo0 Mo:Nat→Option Obj) (σ:TS) (κ:List (Nat×Int)) (S:TS) (v w:World) (t:Thr):Prop where
 at_:At X z cont Ch S κ v w t
 evo:EvoP (fun b=>Mo0 b≠none) z S0 K0 v0 S κ v
 nv:nv S=σ
 bk:S.bk=S0.bk
 mo:Has Mo v
 far:∀ b,Mo b≠none→¬ Own S κ b
 new:∀ b,Mo b≠none→Mo0 b≠none∨v0.heap.size≤b
 row:∀ b o,Mo b=some o→∃ c e f,o=.cells c e f
section
variable {X:Fix mc} {z:Nat→Option Nat} {cont:Addr→Value} {Ch:Nat→Prop} {Stop:Goroutine→World→Prop} {cu:Value→Goroutine} {S0:TS} {K0:List (Nat×Int)} {v0:World} {Mo0 Mo:Nat→Option Obj} {σ:TS} {κ:List (Nat×Int)} {S:TS} {v w:World} {t:Thr} {H:Nx→(Nat→Option Obj)→Goroutine→Prop}
theorem Now.good (N:Now X z cont Ch S0 K0 v0 Mo0 Mo σ κ S v w t) {x:Nx} (hx:∀ e y,x≠.ans e y):Good v0 Mo0 x Mo:=⟨hx,N.new,N.row⟩
theorem Now.on (N:Now X z cont Ch S0 K0 v0 Mo0 Mo σ κ S v w t) {S' σ':TS} {κ':List (Nat×Int)} {v' w':World} {t':Thr} (e:Evo z S κ v S' κ' v') (r:Rel z v' w') (n:NoRow Ch v') (hS:Gen.nv S'=σ') (ht:S'.thr[X.i]? = some t') (htb:t'.tb=X.tb) (hgc:t'.gc=X.gc) (hbk:S'.bk=S.bk):Now X z cont Ch S0 K0 v0 Mo0 Mo σ' κ' S' v' w' t':=by
 have kp:∀ b,b<v.heap.size→¬ Own S κ b→v'.heap[b]? = v.heap[b]?∧¬ Own S' κ' b:=fun b hb ho=>(Evo.toP (Pr:=fun _=>False) e).keeps hb ho (fun h=>h)
 have km:∀ (M:Nat→Option Obj),Has M v→(∀ b,M b≠none→¬ Own S κ b)→Has M v'∧∀ b,M b≠none→¬ Own S' κ' b:=fun M hM hf=>by
  have h1:∀ b o,M b=some o→v'.heap[b]? = v.heap[b]?∧¬ Own S' κ' b:=fun b o hb=>kp b (Array.getElem?_eq_some_iff.1 (hM b o hb)).1 (hf b (by rw [hb];simp))
  refine ⟨fun b o hb=>by rw [(h1 b o hb).1];exact hM b o hb,fun b hb=>?_⟩
  obtain ⟨o,ho⟩:=Option.ne_none_iff_exists'.1 hb
  exact (h1 b o ho).2
 have k1:=km X.pk N.at_.pk N.at_.far
 have k2:=km Mo N.mo N.far
 exact ⟨⟨r,n,e.mem,ht,htb,hgc,e.blks.trans N.at_.kb,N.at_.z,N.at_.cont,k1.1,k1.2⟩,N.evo.trans (Evo.toP e),hS,hbk.trans N.bk,k2.1,k2.2,N.new,N.row⟩
theorem Now.same (N:Now X z cont Ch S0 K0 v0 Mo0 Mo σ κ S v w t) {v' w':World} (r:Rel z v' w') (n:NoRow Ch v') (e1:v'.heap=v.heap) (e2:v'.os=v.os) (e3:v'.output=v.output):Now X z cont Ch S0 K0 v0 Mo0 Mo σ κ S v' w' t :=
 N.on (N.at_.mem.grows ⟨by rw [e1];exact Nat.le_refl _,fun b _=>by rw [e1],e2,e3⟩) r n N.nv N.at_.thr N.at_.tb N.at_.gc rfl
theorem Now.here (A:At X z cont Ch S κ v w t) (hm:Has Mo v) (hf:∀ b,Mo b≠none→¬ Own S κ b) (hr:∀ b o,Mo b=some o→∃ c e f,o=.cells c e f):Now X z cont Ch S κ v Mo Mo (Gen.nv S) κ S v w t :=
 ⟨A,Evo.toP (A.mem.grows ⟨Nat.le_refl _,fun _ _=>rfl,rfl,rfl⟩),rfl,rfl,hm,hf,fun b hb=>.inl hb,hr⟩
theorem Now.cell (N:Now X z cont Ch S0 K0 v0 Mo0 Mo σ κ S v w t) {j cb:Nat} (h:X.kb[j]? = some cb):κ[j]? = some (cb,(cellAt κ j).2)∧cellAt κ j=(cb,(cellAt κ j).2):=by
 rw [←N.at_.kb,List.getElem?_map,Option.map_eq_some_iff] at h
 obtain ⟨p,h1,rfl⟩:=h
 have:cellAt κ j=p:=by unfold cellAt;rw [h1];rfl
 rw [this]
 exact ⟨h1,rfl⟩
theorem ob_turn {op:Int} {j:Nat} {q:Q} (hob:Ob X H z cont Ch Stop cu S0 K0 v0 Mo0 σ κ (.turn op j q)) (N:Now X z cont Ch S0 K0 v0 Mo0 Mo σ κ S v w t) (g:Goroutine) (w':World) (hg:GiveT z cont X.h S.bk t.gc (H (.turn op j q) Mo) (Then z Ch S κ v (waiting S X.i t 1 op j) κ) g w'):Stop g w':=by
 refine hob.seat 1 op j (.inl ⟨⟨q,rfl⟩,rfl⟩) g w' Mo (N.good (fun _ _ h=>by cases h)) ?_
 rw [N.at_.gc,N.bk] at hg
 refine atGive_mono (fun hF=>?_) hg
 obtain ⟨v',r,n,e⟩:=hF
 have N':=N.on e r n rfl (t':={ t with st:=1,op:=op,ce:=j,se:=_ }) (List.getElem?_set_self (List.getElem?_eq_some_iff.1 N.at_.thr).1) N.at_.tb N.at_.gc rfl
 refine ⟨v',_,r,n,?_,N'.evo,N'.mo,N'.far⟩
 rw [←N.nv,show thrI (Gen.nv S) X.i=t from thrI_of N.at_.thr]
 rfl
end
def nx2 (s:Nat) (l:List Int):Nx:=if l.length<s then .turn 1 l.length (2,l) else .turn 1 0 (3,l)
def nx3 (s:Nat) (d:List Int):Nx:=if d.length<2*s then .turn 1 (d.length - s) (3,d) else if d.take s=d.drop s then .ans 0 (R1.totI (d.drop s)) else .turn 1 0 (2,[])
def mcC (s:Nat):Mc where
 start i c:=if c.po=1 then .turn 1 (i % s) (0,[((i % s:Nat):Int),c.ca.tmod 1000]) else if c.po=2 then .turn 1 0 (2,[]) else .ans 1 0
 turn q x :=
  if q.1=0 then ((x,x),x,.turn 4 (q.2.getD 0 0).toNat (1,[q.2.getD 0 0,q.2.getD 1 0,x]))
  else if q.1=1 then ((effCas (q.2.getD 2 0) (R1.addI (q.2.getD 2 0) (q.2.getD 1 0)) x).1,(effCas (q.2.getD 2 0) (R1.addI (q.2.getD 2 0) (q.2.getD 1 0)) x).2.1,if x=q.2.getD 2 0 then .ans 0 0 else .turn 1 (q.2.getD 0 0).toNat (0,[q.2.getD 0 0,q.2.getD 1 0]))
  else if q.1=2 then ((x,x),x,nx2 s (q.2++[x]))
  else ((x,x),x,nx3 s (q.2++[x]))
 woke _:=.ans 1 0
 stuck _:=(4,0)
 bnd:=true
abbrev box0:Obj:=.cells #[I 0,I 0] 38 (0,0)
def boxO (pb:Nat):Nat→Option Obj:=fun b=>if b=pb then some box0 else none
theorem boxO_at (pb:Nat):boxO pb pb=some box0:=by unfold boxO;rw [if_pos rfl]
theorem boxO_eq {pb b:Nat} (h:boxO pb b≠none):b=pb:=by
 unfold boxO at h
 split at h
 ·assumption
 ·exact absurd rfl h
theorem boxO_row (pb:Nat):∀ b o,boxO pb b=some o→∃ c e f,o=.cells c e f:=fun b o h=>by
 unfold boxO at h
 split at h
 ·cases h;exact ⟨_,_,_,rfl⟩
 ·cases h
def moS (pb nb fb:Nat) (l m:List Int):Nat→Option Obj:=fun b=>if b=pb then some box0 else if b=nb then some (rowI l) else if b=fb then some (rowI m) else none
theorem moS_row (pb nb fb:Nat) (l m:List Int):∀ b o,moS pb nb fb l m b=some o→∃ c e f,o=.cells c e f:=fun b o h=>by
 unfold moS at h
 split at h
 ·cases h;exact ⟨_,_,_,rfl⟩
 ·split at h
  ·cases h;exact ⟨_,_,_,rfl⟩
  ·split at h
   ·cases h;exact ⟨_,_,_,rfl⟩
   ·cases h
theorem moS_in {pb nb fb:Nat} {l m:List Int} {b:Nat} (h:moS pb nb fb l m b≠none):b=pb∨b=nb∨b=fb:=by
 unfold moS at h
 split at h
 ·exact .inl (by assumption)
 ·split at h
  ·exact .inr (.inl (by assumption))
  ·split at h
   ·exact .inr (.inr (by assumption))
   ·exact absurd rfl h
theorem moS_dom {pb nb fb:Nat} {l m l' m':List Int} {b:Nat} (h:moS pb nb fb l m b≠none):moS pb nb fb l' m' b≠none:=by
 unfold moS
 rcases moS_in h with rfl|rfl|rfl
 ·rw [if_pos rfl];simp
 ·split
  ·simp
  ·rw [if_pos rfl];simp
 ·split
  ·simp
  ·split
   ·simp
   ·rw [if_pos rfl];simp
structure Apart3 (pb nb fb:Nat):Prop where
 pn:pb≠nb
 pf:pb≠fb
 nf:nb≠fb
theorem moS_pb (pb nb fb:Nat) (l m:List Int):moS pb nb fb l m pb=some box0:=by unfold moS;rw [if_pos rfl]
theorem moS_nb {pb nb fb:Nat} (h:Apart3 pb nb fb) (l m:List Int):moS pb nb fb l m nb=some (rowI l):=by unfold moS;rw [if_neg (fun e=>h.pn e.symm),if_pos rfl]
theorem moS_fb {pb nb fb:Nat} (h:Apart3 pb nb fb) (l m:List Int):moS pb nb fb l m fb=some (rowI m):=by unfold moS;rw [if_neg (fun e=>h.pf e.symm),if_neg (fun e=>h.nf e.symm),if_pos rfl]
theorem moS_has {pb nb fb:Nat} (h:Apart3 pb nb fb) {l m:List Int} {v:World} (h1:v.heap[pb]? = some box0) (h2:v.heap[nb]? = some (rowI l)) (h3:v.heap[fb]? = some (rowI m)):Has (moS pb nb fb l m) v:=fun b o hb=>by
 rcases moS_in (by rw [hb];simp) with rfl|rfl|rfl
 ·rw [moS_pb] at hb;cases hb;exact h1
 ·rw [moS_nb h] at hb;cases hb;exact h2
 ·rw [moS_fb h] at hb;cases hb;exact h3
structure Frs where
 bd:Frame
 ad:Act
 od:Array Oper
 qd:Nat
 rd:List Nat
 oe:Oper
 kd:List Item
 fs:List Frame
namespace Frs
def cu (f:Frs) (r:Value):Goroutine:=G (f.bd.at (f.ad.put f.oe.dst r) (.inRegion f.od f.rd :: f.kd)) f.fs
def top (f:Frs):Frame:=f.bd.at f.ad (.inRegion f.od (f.qd :: f.rd) :: f.kd)
end Frs
section
variable {mc:Mc} {X:Fix mc} {z:Nat→Option Nat} {cont:Addr→Value} {Ch:Nat→Prop} {Stop:Goroutine→World→Prop} {cu:Value→Goroutine} {S0:TS} {K0:List (Nat×Int)} {v0:World} {Mo0 Mo Mo':Nat→Option Obj} {σ:TS} {κ:List (Nat×Int)} {S:TS} {v w v' w':World} {t:Thr}
theorem Now.more (N:Now X z cont Ch S0 K0 v0 Mo0 Mo σ κ S v w t) (g:Grows v v') (r:Rel z v' w') (n:NoRow Ch v') (hd:∀ b,Mo' b≠none→Mo b≠none∨v.heap.size≤b) (hm:Has Mo' v') (hr:∀ b o,Mo' b=some o→∃ c e f,o=.cells c e f):Now X z cont Ch S0 K0 v0 Mo0 Mo' σ κ S v' w' t:=by
 have N1:=N.on (N.at_.mem.grows g) r n N.nv N.at_.thr N.at_.tb N.at_.gc rfl
 exact ⟨N1.at_,N1.evo,N1.nv,N1.bk,hm,fun b hb=>(hd b hb).elim (N1.far b) (fun h ho=>by have:=N.at_.mem.lt ho;omega),fun b hb=>(hd b hb).elim (N.new b) (fun h=>.inr (Nat.le_trans N.evo.fr.size h)),hr⟩
theorem Now.write (N:Now X z cont Ch S0 K0 v0 Mo0 Mo σ κ S v w t) {B:Nat} (hB:Mo B≠none) (hpk:X.pk B=none) (r:Rel z v' w') (n:NoRow Ch v') (hw:∀ b,b≠B→v'.heap[b]? = v.heap[b]?) (hs:v'.heap.size=v.heap.size) (ho:v'.os=v.os) (hu:v'.output=v.output) (hd:∀ b,Mo' b≠none→Mo b≠none) (hm:Has Mo' v') (hr:∀ b o,Mo' b=some o→∃ c e f,o=.cells c e f):Now X z cont Ch S0 K0 v0 Mo0 Mo' σ κ S v' w' t:=by
 have ev:=N.at_.mem.other (v':=v') (N.far B hB) hw hs ho hu
 refine ⟨⟨r,n,ev.mem,N.at_.thr,N.at_.tb,N.at_.gc,N.at_.kb,N.at_.z,N.at_.cont,fun b o hb=>?_,N.at_.far⟩,N.evo.join ev (fun b hb=>?_),N.nv,N.bk,hm,fun b hb=>N.far b (hd b hb),fun b hb=>N.new b (hd b hb),hr⟩
 ·rw [hw b (fun e=>by subst e;rw [hpk] at hb;cases hb)];exact N.at_.pk b o hb
 ·have e:b=B:=hb
  subst e
  exact N.new b hB
end
structure CMine (s:Nat) (X:Fix (mcC s)) (c sb:Nat):Prop where
 caps:X.caps=#[Pt c 0]
 mem:∀ v,Has X.pk v→Ctr v c sb s X.kb∧R1.Flds v
abbrev FA (c tb cb:Nat) (n:Int) (a:Act):Prop:=Fl 32 [(0,Pt c 0),(1,Pt tb 0),(2,I n),(6,Pt cb 0)] a
abbrev FS (s c tb nb fb:Nat) (a:Act):Prop:=Fl 35 [(0,Pt c 0),(1,Pt tb 0),(5,.slice (some ⟨nb,0,none⟩) s s),(6,.slice (some ⟨fb,0,none⟩) s s)] a
abbrev FK (s c tb nb sb k:Nat) (a:Act):Prop:=Fl 25 [(0,Pt c 0),(1,Pt tb 0),(2,.slice (some ⟨nb,0,none⟩) s s),(11,.slice (some ⟨sb,0,none⟩) s s),(12,I s),(13,I k)] a
abbrev FK2 (s nb k:Nat) (a:Act):Prop:=Fl 25 [(18,.slice (some ⟨nb,0,none⟩) s s),(19,I k)] a
def ctSit (s:Nat) (X:Fix (mcC s)) (x:Nx) (Mo:Nat→Option Obj) (cu:Value→Goroutine) (g:Goroutine):Prop :=
 ∃ (c sb pb:Nat) (f:Frs),CMine s X c sb∧f.od[f.qd]? = some f.oe ∧
   ((CBack (X.h==0) pb (fun _:Unit=>.tuple #[]) (fun _=>(0,0)) f.cu cu∧Mo=boxO pb∧∃ (n:Int) (cb:Nat) (a:Act),X.kb[X.i % s]? = some cb∧FA c X.tb cb n a ∧
      ((x=.turn 1 (X.i % s) (0,[((X.i % s:Nat):Int),n])∧OpBack (X.h==0) X.i (X.i % s) cb X.tb 1 effLoad (fun r=>G (aSeen a r) (f.top :: f.fs)) g) ∨
       (∃ y:Int,x=.turn 4 (X.i % s) (1,[((X.i % s:Nat):Int),n,y])∧OpBack (X.h==0) X.i (X.i % s) cb X.tb 4 (effCas y (R1.addI y n)) (fun r=>G (aTried a r) (f.top :: f.fs)) g))) ∨
    (CBack (X.h==0) pb (fun x:Int=>I x) (fun x=>(0,x)) f.cu cu∧∃ (nb fb:Nat) (l m:List Int) (a ak:Act) (k cb:Nat),Mo=moS pb nb fb l m∧Apart3 pb nb fb∧l.length=s∧m.length=s∧k<s∧X.kb[k]? = some cb∧FS s c X.tb nb fb a∧FK s c X.tb nb sb k ak∧FK2 s nb k ak ∧
      ((x=.turn 1 k (2,l.take k)∧OpBack (X.h==0) X.i k cb X.tb 1 effLoad (fun r=>G (kSeen ak r) (sOne a :: f.top :: f.fs)) g) ∨
       (x=.turn 1 k (3,m++l.take k)∧OpBack (X.h==0) X.i k cb X.tb 1 effLoad (fun r=>G (kSeen ak r) (sTwo a :: f.top :: f.fs)) g))))
section
variable {s:Nat} {X:Fix (mcC s)} {z:Nat→Option Nat} {cont:Addr→Value} {Ch:Nat→Prop} {Stop:Goroutine→World→Prop} {cu:Value→Goroutine} {S0:TS} {K0:List (Nat×Int)} {v0:World} {Mo0 Mo:Nat→Option Obj} {σ:TS} {κ:List (Nat×Int)} {S:TS} {v w:World} {t:Thr} {H:Nx→(Nat→Option Obj)→Goroutine→Prop} {c sb pb nb fb:Nat} {f:Frs} {l m:List Int}
theorem ct_ans {α:Type} {enc:α→Value} {fa:α→Int×Int} (hB:CBack (X.h==0) pb enc fa f.cu cu) (y:α) {x:Nx} (hob:Ob X H z cont Ch Stop cu S0 K0 v0 Mo0 σ κ x) (hx:x=.ans (fa y).1 (fa y).2) (hpb:Mo pb=some box0) (N:Now X z cont Ch S0 K0 v0 Mo0 Mo σ κ S v w t) :
 GoesI Tryd.prog (X.h==0) (DT (ScZ z) Ch) Stop (f.cu (enc y)) w :=
 hB z Ch Stop w v S κ y N.at_.rel N.at_.noRow N.at_.mem (N.mo pb _ hpb) (N.far pb (by rw [hpb];simp)) (fun v' w' r n ev=>hob.ans (fa y) (.inl hx) v' w' S r n N.nv (N.evo.join ev (fun b hb=>by
  have hb':b=pb:=hb
  subst hb'
  exact N.new b (by rw [hpb];simp))))
theorem ct_add (hm:CMine s X c sb) (hoe:f.od[f.qd]? = some f.oe) (hB:CBack (X.h==0) pb (fun _:Unit=>.tuple #[]) (fun _=>(0,0)) f.cu cu) (hH:∀ x Mo' g,Good v0 Mo0 x Mo'→ctSit s X x Mo' cu g→H x Mo' g) {n:Int} {cb:Nat} (hcb:X.kb[X.i % s]? = some cb) {a:Act} (hA:FA c X.tb cb n a)
 (hob:Ob X H z cont Ch Stop cu S0 K0 v0 Mo0 σ κ (.turn 1 (X.i % s) (0,[((X.i % s:Nat):Int),n]))) (N:Now X z cont Ch S0 K0 v0 Mo0 (boxO pb) σ κ S v w t) :
 GoesI Tryd.prog (X.h==0) (DT (ScZ z) Ch) Stop (G (aFr a) (f.top :: f.fs)) w:=by
 have hA':FA c t.tb cb n a:=by rw [N.at_.tb];exact hA
 exact add_loop (h:=X.h) (i:=X.i) (j:=X.i % s) (cb:=cb) _ hA' _ (H (.turn 1 (X.i % s) (0,[((X.i % s:Nat):Int),n])) (boxO pb)) (fun g hg=>by
  obtain ⟨a1,hA1,hg⟩:=hg
  rw [N.at_.tb] at hA1 hg
  exact hH _ _ g (N.good (fun _ _ h=>by cases h)) ⟨c,sb,pb,f,hm,hoe,.inl ⟨hB,rfl,n,cb,a1,hcb,hA1,.inl ⟨rfl,hg⟩⟩⟩) N.at_.rel N.at_.noRow N.at_.mem N.at_.thr (N.cell hcb).1 (by rw [N.at_.tb];exact N.at_.z) (by rw [N.at_.tb,N.at_.gc];exact N.at_.cont) (ob_turn hob N)
theorem ct_aseen (hm:CMine s X c sb) (hoe:f.od[f.qd]? = some f.oe) (hB:CBack (X.h==0) pb (fun _:Unit=>.tuple #[]) (fun _=>(0,0)) f.cu cu) (hH:∀ x Mo' g,Good v0 Mo0 x Mo'→ctSit s X x Mo' cu g→H x Mo' g) {n:Int} {cb:Nat} (hcb:X.kb[X.i % s]? = some cb) {a:Act} (hA:FA c X.tb cb n a) (y:Int)
 (hob:Ob X H z cont Ch Stop cu S0 K0 v0 Mo0 σ κ (.turn 4 (X.i % s) (1,[((X.i % s:Nat):Int),n,y]))) (N:Now X z cont Ch S0 K0 v0 Mo0 (boxO pb) σ κ S v w t) :
 GoesI Tryd.prog (X.h==0) (DT (ScZ z) Ch) Stop (G (aSeen a (I y)) (f.top :: f.fs)) w:=by
 have hA':FA c t.tb cb n a:=by rw [N.at_.tb];exact hA
 exact add_try (h:=X.h) (i:=X.i) (j:=X.i % s) (cb:=cb) y _ (hm.mem v N.at_.pk).2 hA' _ (H (.turn 4 (X.i % s) (1,[((X.i % s:Nat):Int),n,y])) (boxO pb)) (fun g hg=>by
  obtain ⟨a1,hA1,hg⟩:=hg
  rw [N.at_.tb] at hA1 hg
  exact hH _ _ g (N.good (fun _ _ h=>by cases h)) ⟨c,sb,pb,f,hm,hoe,.inl ⟨hB,rfl,n,cb,a1,hcb,hA1,.inr ⟨y,rfl,hg⟩⟩⟩) N.at_.rel N.at_.noRow N.at_.mem N.at_.thr (N.cell hcb).1 (by rw [N.at_.tb];exact N.at_.z) (by rw [N.at_.tb,N.at_.gc];exact N.at_.cont) (ob_turn hob N)
end
end Go.Proofs.YtfjjoohflcchnaaDoor.Gen
