/- Of the proof of StackVersions. Part 32 of 34. (Joined, by program, and written short, of: StF2, StNn.) -/
import Derived.Test.YtbbhahigofeacaaDoorStackVersions23
import Derived.Test.YtbbhahigofeacaaDoorStackVersions30
import Derived.Test.YtbbhahigofeacaaDoorStackVersions31
set_option linter.unusedSimpArgs false
set_option linter.unusedVariables false
set_option maxHeartbeats 4000000
set_option maxRecDepth 100000
namespace Go.Proofs.YtbbhahigofeacaaDoor.Gen
open Go Go.Lift Go.Conc Go.RowKit
open R1 (fstI verI hdI)
structure Fk (B:Nat) (v v':World):Prop where
 size:v.heap.size≤v'.heap.size
 old:∀ b,b<B→v'.heap[b]? = v.heap[b]?
 os:v'.os=v.os
 out:v'.output=v.output
theorem Fk.refl (B:Nat) (v:World):Fk B v v:=⟨Nat.le_refl _,fun _ _=>rfl,rfl,rfl⟩
theorem Fk.trans {B:Nat} {v v' v'':World} (h:Fk B v v') (k:Fk B v' v''):Fk B v v'':=⟨Nat.le_trans h.size k.size,fun b hb=>(k.old b hb).trans (h.old b hb),k.os.trans h.os,k.out.trans h.out⟩
structure Fst (n c s sb rb tb:Nat) (kb:List Nat) (B:Nat) (xs:List Int) (v:World):Prop where
 stk:Stk v c s sb rb n kb
 fld:R1.Flds v
 thr:v.cell? ⟨tb,0,none⟩=some (.pointer none)
 cel:∀ (j cb:Nat) (x:Int),kb[j]? = some cb→xs[j]? = some x→v.heap[cb]? = some (.cells #[I 0,I x] 123 (0,0))
 nd:kb.Nodup
 far:∀ cb∈kb,4≤cb∧cb≠c∧cb≠s∧cb≠sb∧cb≠rb∧cb≠tb∧B≤cb
section
variable {n c s sb rb tb B:Nat} {kb:List Nat} {xs:List Int} {v u v' w:World}
theorem Fst.fm (h:Fst n c s sb rb tb kb B xs v) {j cb:Nat} {x:Int} (hj:kb[j]? = some cb) (hx:xs[j]? = some x):Fm tb cb x v:=⟨h.thr,fun e=>(h.far cb (List.mem_of_getElem? hj)).2.2.2.2.2.1 e.symm,h.cel j cb x hj hx⟩
theorem Stk.of {v v':World} (h:Stk v c s sb rb n kb) (k:∀ a:Addr,a.block=c∨a.block=s∨a.block=sb∨a.block=rb→∀ x,v.cell? a=some x→v'.cell? a=some x):Stk v' c s sb rb n kb:=by
 have k1:∀ o x,v.cell? ⟨c,o,none⟩=some x→v'.cell? ⟨c,o,none⟩=some x:=fun o x h=>k _ (.inl rfl) x h
 have k2:∀ o x,v.cell? ⟨s,o,none⟩=some x→v'.cell? ⟨s,o,none⟩=some x:=fun o x h=>k _ (.inr (.inl rfl)) x h
 have k3:∀ o x,v.cell? ⟨sb,o,none⟩=some x→v'.cell? ⟨sb,o,none⟩=some x:=fun o x h=>k _ (.inr (.inr (.inl rfl))) x h
 have k4:∀ o x,v.cell? ⟨rb,o,none⟩=some x→v'.cell? ⟨rb,o,none⟩=some x:=fun o x h=>k _ (.inr (.inr (.inr rfl))) x h
 refine ⟨⟨?_,k2 _ _ h.slt.row,fun i hi=>?_,fun i hi=>?_⟩,k1 _ _ h.slots,?_,k1 _ _ h.row,fun i hi=>?_,fun i hi=>?_,h.n1⟩
 ·obtain ⟨b,h1,h2⟩:=h.slt.head;exact ⟨b,h1,k2 _ _ h2⟩
 ·obtain ⟨b,h1,h2⟩:=h.slt.next i hi;exact ⟨b,h1,k3 _ _ h2⟩
 ·obtain ⟨b,h1,h2⟩:=h.slt.used i hi;exact ⟨b,h1,k3 _ _ h2⟩
 ·obtain ⟨b,h1,h2⟩:=h.head;exact ⟨b,h1,k1 _ _ h2⟩
 ·obtain ⟨b,h1,h2⟩:=h.value i hi;exact ⟨b,h1,k4 _ _ h2⟩
 ·obtain ⟨b,h1,h2⟩:=h.link i hi;exact ⟨b,h1,k4 _ _ h2⟩
theorem Fst.step (h:Fst n c s sb rb tb kb B xs v) {j cb:Nat} {y:Int} (hj:kb[j]? = some cb) (g:Grows v u) (f:Fto tb cb y u v') (hB:B≤v.heap.size):Fst n c s sb rb tb kb B (xs.set j y) v'∧Fk B v v':=by
 have hf:=h.far cb (List.mem_of_getElem? hj)
 have kc:∀ a:Addr,a.block≠cb→∀ x,v.cell? a=some x→v'.cell? a=some x:=fun a ha x hx=>by
  rw [World.cell?_of_block (w:=u) (f.old _ ha)]
  exact g.cell hx
 refine ⟨⟨h.stk.of (fun a ha x hx=>kc a (by omega) x hx),?_,f.fm.thr,fun i ci x hi hx=>?_,h.nd,h.far⟩,⟨by rw [f.size];exact g.size,fun b hb=>?_,f.os.trans g.os,f.out.trans g.output⟩⟩
 ·have q:∀ (b o:Nat) (x:Value),b<4→v.cell? ⟨b,o,none⟩=some x→v'.cell? ⟨b,o,none⟩=some x:=fun b o x hb hx=>kc _ (by show b≠cb;omega) x hx
  have F:=h.fld
  exact ⟨q _ _ _ (by omega) F.a0,q _ _ _ (by omega) F.a1,q _ _ _ (by omega) F.b0,q _ _ _ (by omega) F.b1,q _ _ _ (by omega) F.c0,q _ _ _ (by omega) F.c1,q _ _ _ (by omega) F.d0,q _ _ _ (by omega) F.d1⟩
 ·rw [List.getElem?_set] at hx
  by_cases e:j=i
  ·subst e
   rw [hj] at hi
   cases hi
   split at hx
   ·split at hx
    ·cases hx;exact f.fm.cel
    ·cases hx
   ·rename_i hne;exact absurd rfl hne
  ·rw [if_neg e] at hx
   have hne:ci≠cb:=fun e2=>by
    subst e2
    exact e ((List.getElem?_inj (List.getElem?_eq_some_iff.1 hj).1 h.nd).1 (hj.trans hi.symm))
   have hc:=h.cel i ci x hi hx
   rw [f.old ci hne,g.old ci (Array.getElem?_eq_some_iff.1 hc).1]
   exact hc
 ·rw [f.old b (by omega),g.old b (by omega)]
end
theorem Fst.grow {n c s sb rb tb B:Nat} {kb:List Nat} {xs:List Int} {v v1:World} (h:Fst n c s sb rb tb kb B xs v) (g:Grows v v1):Fst n c s sb rb tb kb B xs v1:=⟨h.stk.of (fun a _ x hx=>g.cell hx),flds_grows h.fld g,g.cell h.thr,fun j cb x hj hx=>by have hc:=h.cel j cb x hj hx;rw [g.old cb (Array.getElem?_eq_some_iff.1 hc).1];exact hc,h.nd,h.far⟩
theorem Fk.grow {B:Nat} {v v1:World} (g:Grows v v1) (hB:B≤v.heap.size):Fk B v v1:=⟨g.size,fun b hb=>g.old b (by omega),g.os,g.output⟩
theorem fpush {Ch:Nat→Prop} {Stop:Goroutine→World→Prop} {main:Bool} {c s sb rb tb B:Nat} {kb:List Nat} {h0 nx us hd vl lk:Int} {v w:World} (x:Int) (hx:fstI h0=((0:Nat):Int)+1) (h:Fst 1 c s sb rb tb kb B [h0,nx,us,hd,vl,lk] v) (hB:B≤v.heap.size) (cs:List Frame) {bc:Frame} {ac:Act} {ops:Array Oper} {q:Nat} {rest:List Nat} {oc:Oper} {k0:List Item} (hoc:ops[q]? = some oc) (hvw:Rel zn v w) (hn:NoRow Ch v)
 (hk:∀ v' w',Rel zn v' w'→NoRow Ch v'→Fst 1 c s sb rb tb kb B [hdI nx (verI h0+1),nx,1,hdI 1 (verI hd+1),x,fstI hd] v'→Fk B v v'→GoesI Tryd.prog main (DT (ScZ zn) Ch) Stop (G (bc.at (ac.put oc.dst (I 0)) (.inRegion ops rest :: k0)) cs) w') (code:Code) (hc:Tryd.f50.body=some code) :
 GoesI Tryd.prog main (DT (ScZ zn) Ch) Stop (G ((base 50).at { tmps:=#[Pt c 0,Pt tb 0,I x]++Array.replicate 56 undef,defers:=[] } [.code code]) (bc.at ac (.inRegion ops (q :: rest) :: k0) :: cs)) w:=by
 refine push_in h.stk.slots _ hvw (fun ap code hc hP=>?_) code hc
 refine take_in _ (fun a hA=>?_) code hc
 obtain ⟨cb1,jb1,cc1⟩:=h.stk.slt.head
 refine take_lookF cc1 hA _ (fun a1 u1 v1 w1 hA1 r1 n1 gg1 f1=>?_) hvw hn (h.fm jb1 rfl)
 obtain ⟨h1,k1⟩:=h.step jb1 gg1 f1 hB
 have b1:=Nat.le_trans hB k1.size
 have h1:Fst 1 c s sb rb tb kb B [h0,nx,us,hd,vl,lk] v1:=h1
 obtain ⟨cb2,jb2,cc2⟩:=h1.stk.slt.next 0 (by decide)
 refine take_nextF 0 hx (by decide) h1.fld h1.stk.slt.row cc2 hA1 _ (fun a2 u2 v2 w2 hA2 r2 n2 gg2 f2=>?_) r1 n1 (h1.fm jb2 rfl)
 obtain ⟨h2,k2⟩:=h1.step jb2 gg2 f2 b1
 have b2:=Nat.le_trans b1 k2.size
 have h2:Fst 1 c s sb rb tb kb B [h0,nx,us,hd,vl,lk] v2:=h2
 refine take_try nx hA2 _ (fun a3 code3 hc3 hA3=>?_)
 obtain ⟨cb4,jb4,cc4⟩:=h2.stk.slt.head
 refine ch46_goF h0 nx h2.fld cc4 _ (fun a4 u4 v4 w4 hA4 r4 n4 gg4 f4=>?_) r2 n2 (h2.fm jb4 rfl) code3 hc3
 rw [cas_yes]
 obtain ⟨h4,k4⟩:=h2.step jb4 gg4 f4 b2
 have b4:=Nat.le_trans b2 k4.size
 rw [show (effCas h0 (hdI nx (verI h0+1)) h0).2.1=hdI nx (verI h0+1) by unfold effCas;rw [if_pos rfl]] at h4
 have h4:Fst 1 c s sb rb tb kb B [hdI nx (verI h0+1),nx,us,hd,vl,lk] v4:=h4
 obtain ⟨oc1,ho1,ho2⟩:=oc_of tO6_13
 refine ch46_back (bc:=base 25) (ac:=a3) (ops:=tO6) (q:=13) (rest:=[14]) (oc:=oc1) (k0:=(.code tC6 :: .code t7 :: tE)) true hA4 _ ho1 r4 n4 (fun x1 rx1=>?_)
 rw [ho2]
 clear ho1 ho2 oc1
 obtain ⟨cb5,jb5,cc5⟩:=h4.stk.slt.used 0 (by decide)
 refine take_wonF (by decide) h4.stk.slt.row cc5 hA3 _ (fun a5 u5 v5 w5 hA5 r5 n5 gg5 f5=>?_) rx1 n4 (h4.fm jb5 rfl)
 obtain ⟨h5,k5⟩:=h4.step jb5 gg5 f5 b4
 have b5:=Nat.le_trans b4 k5.size
 have h5:Fst 1 c s sb rb tb kb B [hdI nx (verI h0+1),nx,1,hd,vl,lk] v5:=h5
 obtain ⟨oc1,ho1,ho2⟩:=oc_of pO1_5
 refine take_done (bc:=base 50) (ac:=ap) (ops:=pO1) (q:=5) (rest:=[6,7,8,9,10]) (oc:=oc1) (k0:=(.code p2 :: [.inScope pS])) _ hA5 _ ho1 r5 n5 (fun x2 rx2=>?_)
 rw [ho2]
 clear ho1 ho2 oc1
 obtain ⟨cb6,jb6,cc6⟩:=h5.stk.value 0 (by decide)
 refine push_valF 0 (by decide) h5.stk.row cc6 hP _ (fun a6 u6 v6 w6 hA6 r6 n6 gg6 f6=>?_) rx2 n5 (h5.fm jb6 rfl)
 obtain ⟨h6,k6⟩:=h5.step jb6 gg6 f6 b5
 have b6:=Nat.le_trans b5 k6.size
 have h6:Fst 1 c s sb rb tb kb B [hdI nx (verI h0+1),nx,1,hd,x,lk] v6:=h6
 refine push_head _ hA6 _ (fun a7 hA7p=>?_)
 obtain ⟨cb7,jb7,cc7⟩:=h6.stk.head
 refine push_lookF cc7 hA7p _ (fun a8 u7 v7 w7 hA7 r7 n7 gg7 f7=>?_) r6 n6 (h6.fm jb7 rfl)
 obtain ⟨h7,k7⟩:=h6.step jb7 gg7 f7 b6
 have b7:=Nat.le_trans b6 k7.size
 have h7:Fst 1 c s sb rb tb kb B [hdI nx (verI h0+1),nx,1,hd,x,lk] v7:=h7
 obtain ⟨cb8,jb8,cc8⟩:=h7.stk.link 0 (by decide)
 refine push_linkF hd (by decide) h7.fld h7.stk.row cc8 hA7 _ (fun a9 u8 v8 w8 hA8 r8 n8 gg8 f8=>?_) r7 n7 (h7.fm jb8 rfl)
 obtain ⟨h8,k8⟩:=h7.step jb8 gg8 f8 b7
 have b8:=Nat.le_trans b7 k8.size
 have h8:Fst 1 c s sb rb tb kb B [hdI nx (verI h0+1),nx,1,hd,x,fstI hd] v8:=h8
 refine push_try (by decide) _ hA8 _ (fun a10 code4 hc4 hA10=>?_)
 obtain ⟨cb9,jb9,cc9⟩:=h8.stk.head
 refine ch73_goF hd (((0:Nat):Int)+1) h8.fld cc9 _ (fun a9 u9 v9 w9 hA9 r9 n9 gg9 f9=>?_) r8 n8 (h8.fm jb9 rfl) code4 hc4
 rw [cas_yes]
 obtain ⟨h9,k9⟩:=h8.step jb9 gg9 f9 b8
 rw [show (effCas hd (hdI (((0:Nat):Int)+1) (verI hd+1)) hd).2.1=hdI 1 (verI hd+1) by unfold effCas;rw [if_pos rfl];rfl] at h9
 have h9:Fst 1 c s sb rb tb kb B [hdI nx (verI h0+1),nx,1,hdI 1 (verI hd+1),x,fstI hd] v9:=h9
 obtain ⟨oc1,ho1,ho2⟩:=oc_of pO7_5
 refine ch73_back (bc:=base 50) (ac:=a10) (ops:=pO7) (q:=5) (rest:=[6]) (oc:=oc1) (k0:=(.code pC7 :: .code p8 :: pE)) true hA9 _ ho1 r9 n9 (fun x3 rx3=>?_)
 rw [ho2]
 clear ho1 ho2 oc1
 exact push_done (bc:=bc) (ac:=ac) (ops:=ops) (q:=q) (rest:=rest) (oc:=oc) (k0:=k0) hA10 cs hoc rx3 n9 (fun w' r'=>hk v9 w' r' n9 h9 (((((((k1.trans k2).trans k4).trans k5).trans k6).trans k7).trans k8).trans k9))
theorem fpush_full {Ch:Nat→Prop} {Stop:Goroutine→World→Prop} {main:Bool} {c s sb rb tb B:Nat} {kb:List Nat} {h0 nx us hd vl lk:Int} {v w:World} (x:Int) (hx:fstI h0=0) (h:Fst 1 c s sb rb tb kb B [h0,nx,us,hd,vl,lk] v) (hB:B≤v.heap.size) (cs:List Frame) {bc:Frame} {ac:Act} {ops:Array Oper} {q:Nat} {rest:List Nat} {oc:Oper} {k0:List Item} (hoc:ops[q]? = some oc) (hvw:Rel zn v w) (hn:NoRow Ch v)
 (hk:∀ v' w',Rel zn v' w'→NoRow Ch v'→Fst 1 c s sb rb tb kb B [h0,nx,us,hd,vl,lk] v'→Fk B v v'→GoesI Tryd.prog main (DT (ScZ zn) Ch) Stop (G (bc.at (ac.put oc.dst (I 80)) (.inRegion ops rest :: k0)) cs) w') (code:Code) (hc:Tryd.f50.body=some code) :
 GoesI Tryd.prog main (DT (ScZ zn) Ch) Stop (G ((base 50).at { tmps:=#[Pt c 0,Pt tb 0,I x]++Array.replicate 56 undef,defers:=[] } [.code code]) (bc.at ac (.inRegion ops (q :: rest) :: k0) :: cs)) w:=by
 refine push_in h.stk.slots _ hvw (fun ap code hc hP=>?_) code hc
 refine take_in _ (fun a hA=>?_) code hc
 obtain ⟨cb1,jb1,cc1⟩:=h.stk.slt.head
 refine take_lookF cc1 hA _ (fun a1 u1 v1 w1 hA1 r1 n1 gg1 f1=>?_) hvw hn (h.fm jb1 rfl)
 obtain ⟨h1,k1⟩:=h.step jb1 gg1 f1 hB
 have b1:=Nat.le_trans hB k1.size
 have h1:Fst 1 c s sb rb tb kb B [h0,nx,us,hd,vl,lk] v1:=h1
 obtain ⟨oc1,ho1,ho2⟩:=oc_of pO1_5
 refine take_full (bc:=base 50) (ac:=ap) (ops:=pO1) (q:=5) (rest:=[6,7,8,9,10]) (oc:=oc1) (k0:=(.code p2 :: [.inScope pS])) h0 hx h1.fld hA1 _ ho1 r1 n1 (fun v2 w2 r2 n2 g2=>?_)
 rw [ho2]
 clear ho1 ho2 oc1
 exact push_full (bc:=bc) (ac:=ac) (ops:=ops) (q:=q) (rest:=rest) (oc:=oc) (k0:=k0) hP cs hoc r2 n2 (fun w' r'=>hk v2 w' r' n2 (h1.grow g2) (k1.trans (.grow g2 b1)))
theorem fpop_empty {Ch:Nat→Prop} {Stop:Goroutine→World→Prop} {main:Bool} {c s sb rb tb B:Nat} {kb:List Nat} {h0 nx us hd vl lk:Int} {v w:World} (hx:fstI hd=0) (h:Fst 1 c s sb rb tb kb B [h0,nx,us,hd,vl,lk] v) (hB:B≤v.heap.size) (cs:List Frame) {bc:Frame} {ac:Act} {ops:Array Oper} {q:Nat} {rest:List Nat} {oc:Oper} {k0:List Item} (hoc:ops[q]? = some oc) (hvw:Rel zn v w) (hn:NoRow Ch v)
 (hk:∀ v' w',Rel zn v' w'→NoRow Ch v'→Fst 1 c s sb rb tb kb B [h0,nx,us,hd,vl,lk] v'→Fk B v v'→GoesI Tryd.prog main (DT (ScZ zn) Ch) Stop (G (bc.at (ac.put oc.dst (.tuple #[I 0,I 90])) (.inRegion ops rest :: k0)) cs) w') (code:Code) (hc:Tryd.f51.body=some code) :
 GoesI Tryd.prog main (DT (ScZ zn) Ch) Stop (G ((base 51).at { tmps:=#[Pt c 0,Pt tb 0]++Array.replicate 56 undef,defers:=[] } [.code code]) (bc.at ac (.inRegion ops (q :: rest) :: k0) :: cs)) w:=by
 refine pop_in _ (fun a hA=>?_) code hc
 obtain ⟨cb1,jb1,cc1⟩:=h.stk.head
 refine pop_lookF cc1 hA _ (fun a1 u1 v1 w1 hA1 r1 n1 gg1 f1=>?_) hvw hn (h.fm jb1 rfl)
 obtain ⟨h1,k1⟩:=h.step jb1 gg1 f1 hB
 have b1:=Nat.le_trans hB k1.size
 have h1:Fst 1 c s sb rb tb kb B [h0,nx,us,hd,vl,lk] v1:=h1
 exact pop_empty (bc:=bc) (ac:=ac) (ops:=ops) (q:=q) (rest:=rest) (oc:=oc) (k0:=k0) hd hx h1.fld hA1 cs hoc r1 n1 (fun v2 w2 r2 n2 g2=>hk v2 w2 r2 n2 (h1.grow g2) (k1.trans (.grow g2 b1)))
theorem fpop {Ch:Nat→Prop} {Stop:Goroutine→World→Prop} {main:Bool} {c s sb rb tb B:Nat} {kb:List Nat} {h0 nx us hd vl lk:Int} {v w:World} (hx:fstI hd=((0:Nat):Int)+1) (hus:us=1) (h:Fst 1 c s sb rb tb kb B [h0,nx,us,hd,vl,lk] v) (hB:B≤v.heap.size) (cs:List Frame) {bc:Frame} {ac:Act} {ops:Array Oper} {q:Nat} {rest:List Nat} {oc:Oper} {k0:List Item} (hoc:ops[q]? = some oc) (hvw:Rel zn v w) (hn:NoRow Ch v)
 (hk:∀ v' w',Rel zn v' w'→NoRow Ch v'→Fst 1 c s sb rb tb kb B [hdI 1 (verI h0+1),fstI h0,0,hdI lk (verI hd+1),vl,lk] v'→Fk B v v'→GoesI Tryd.prog main (DT (ScZ zn) Ch) Stop (G (bc.at (ac.put oc.dst (.tuple #[I vl,I 0])) (.inRegion ops rest :: k0)) cs) w') (code:Code) (hc:Tryd.f51.body=some code) :
 GoesI Tryd.prog main (DT (ScZ zn) Ch) Stop (G ((base 51).at { tmps:=#[Pt c 0,Pt tb 0]++Array.replicate 56 undef,defers:=[] } [.code code]) (bc.at ac (.inRegion ops (q :: rest) :: k0) :: cs)) w:=by
 refine pop_in _ (fun a hA=>?_) code hc
 obtain ⟨cb1,jb1,cc1⟩:=h.stk.head
 refine pop_lookF cc1 hA _ (fun a1 u1 v1 w1 hA1 r1 n1 gg1 f1=>?_) hvw hn (h.fm jb1 rfl)
 obtain ⟨h1,k1⟩:=h.step jb1 gg1 f1 hB
 have b1:=Nat.le_trans hB k1.size
 have h1:Fst 1 c s sb rb tb kb B [h0,nx,us,hd,vl,lk] v1:=h1
 obtain ⟨cb2,jb2,cc2⟩:=h1.stk.link 0 (by decide)
 refine pop_linkF 0 hx (by decide) h1.fld h1.stk.row cc2 hA1 _ (fun a2 u2 v2 w2 hA2 r2 n2 gg2 f2=>?_) r1 n1 (h1.fm jb2 rfl)
 obtain ⟨h2,k2⟩:=h1.step jb2 gg2 f2 b1
 have b2:=Nat.le_trans b1 k2.size
 have h2:Fst 1 c s sb rb tb kb B [h0,nx,us,hd,vl,lk] v2:=h2
 refine pop_try lk hA2 _ (fun a3 code3 hc3 hA3=>?_)
 obtain ⟨cb4,jb4,cc4⟩:=h2.stk.head
 refine ch73_goF hd lk h2.fld cc4 _ (fun a4 u4 v4 w4 hA4 r4 n4 gg4 f4=>?_) r2 n2 (h2.fm jb4 rfl) code3 hc3
 rw [cas_yes]
 obtain ⟨h4,k4⟩:=h2.step jb4 gg4 f4 b2
 have b4:=Nat.le_trans b2 k4.size
 rw [show (effCas hd (hdI lk (verI hd+1)) hd).2.1=hdI lk (verI hd+1) by unfold effCas;rw [if_pos rfl]] at h4
 have h4:Fst 1 c s sb rb tb kb B [h0,nx,us,hdI lk (verI hd+1),vl,lk] v4:=h4
 obtain ⟨oc1,ho1,ho2⟩:=oc_of oO7_4
 refine ch73_back (bc:=base 51) (ac:=a3) (ops:=oO7) (q:=4) (rest:=[5]) (oc:=oc1) (k0:=(.code oC7 :: .code o8 :: oE)) true hA4 _ ho1 r4 n4 (fun x1 rx1=>?_)
 rw [ho2]
 clear ho1 ho2 oc1
 obtain ⟨cb5,jb5,cc5⟩:=h4.stk.value 0 (by decide)
 refine pop_valF (by decide) h4.stk.row cc5 hA3 _ (fun a5 u5 v5 w5 hA5 r5 n5 gg5 f5=>?_) rx1 n4 (h4.fm jb5 rfl)
 obtain ⟨h5,k5⟩:=h4.step jb5 gg5 f5 b4
 have b5:=Nat.le_trans b4 k5.size
 have h5:Fst 1 c s sb rb tb kb B [h0,nx,us,hdI lk (verI hd+1),vl,lk] v5:=h5
 refine pop_give vl h5.stk.slots hA5 _ r5 (fun ao code4 hc4 hO=>?_)
 obtain ⟨cb6,jb6,cc6⟩:=h5.stk.slt.used 0 (by decide)
 refine give_inF (by decide) h5.stk.slt.row cc6 _ (fun a6 u6 v6 w6 hA6 r6 n6 gg6 f6=>?_) r5 n5 (h5.fm jb6 rfl) code4 hc4
 subst hus
 rw [cas_yes]
 obtain ⟨h6,k6⟩:=h5.step jb6 gg6 f6 b5
 have b6:=Nat.le_trans b5 k6.size
 rw [show (effCas 1 0 1).2.1=0 by unfold effCas;rw [if_pos rfl]] at h6
 have h6:Fst 1 c s sb rb tb kb B [h0,nx,0,hdI lk (verI hd+1),vl,lk] v6:=h6
 refine give_goes hA6 _ (fun a7 hA7=>?_)
 obtain ⟨cb8,jb8,cc8⟩:=h6.stk.slt.head
 refine give_lookF cc8 hA7 _ (fun a8 u8 v8 w8 hA8 r8 n8 gg8 f8=>?_) r6 n6 (h6.fm jb8 rfl)
 obtain ⟨h8,k8⟩:=h6.step jb8 gg8 f8 b6
 have b8:=Nat.le_trans b6 k8.size
 have h8:Fst 1 c s sb rb tb kb B [h0,nx,0,hdI lk (verI hd+1),vl,lk] v8:=h8
 obtain ⟨cb9,jb9,cc9⟩:=h8.stk.slt.next 0 (by decide)
 refine give_nextF (by decide) h8.fld h8.stk.slt.row cc9 hA8 _ (fun a9 u9 v9 w9 hA9 r9 n9 gg9 f9=>?_) r8 n8 (h8.fm jb9 rfl)
 obtain ⟨h9,k9⟩:=h8.step jb9 gg9 f9 b8
 have b9:=Nat.le_trans b8 k9.size
 have h9:Fst 1 c s sb rb tb kb B [h0,fstI h0,0,hdI lk (verI hd+1),vl,lk] v9:=h9
 refine give_try (by decide) _ hA9 _ (fun a10 code5 hc5 hA10=>?_)
 obtain ⟨cb11,jb11,cc11⟩:=h9.stk.slt.head
 refine ch46_goF h0 (((0:Nat):Int)+1) h9.fld cc11 _ (fun a11 u11 v11 w11 hA11 r11 n11 gg11 f11=>?_) r9 n9 (h9.fm jb11 rfl) code5 hc5
 rw [cas_yes]
 obtain ⟨h11,k11⟩:=h9.step jb11 gg11 f11 b9
 rw [show (effCas h0 (hdI (((0:Nat):Int)+1) (verI h0+1)) h0).2.1=hdI 1 (verI h0+1) by unfold effCas;rw [if_pos rfl];rfl] at h11
 have h11:Fst 1 c s sb rb tb kb B [hdI 1 (verI h0+1),fstI h0,0,hdI lk (verI hd+1),vl,lk] v11:=h11
 obtain ⟨oc1,ho1,ho2⟩:=oc_of gO7_5
 refine ch46_back (bc:=base 26) (ac:=a10) (ops:=gO7) (q:=5) (rest:=[6]) (oc:=oc1) (k0:=(.code gC7 :: .code g8 :: gE)) true hA11 _ ho1 r11 n11 (fun x3 rx3=>?_)
 rw [ho2]
 clear ho1 ho2 oc1
 obtain ⟨oc1,ho1,ho2⟩:=oc_of oO9_6
 refine give_done (bc:=base 51) (ac:=ao) (ops:=oO9) (q:=6) (rest:=[]) (oc:=oc1) (k0:=(.code o10 :: oE)) hA10 _ ho1 rx3 n11 (fun x4 rx4=>?_)
 rw [ho2]
 clear ho1 ho2 oc1
 exact pop_done (bc:=bc) (ac:=ac) (ops:=ops) (q:=q) (rest:=rest) (oc:=oc) (k0:=k0) _ hO cs hoc rx4 n11 (fun w' r'=>hk v11 w' r' n11 h11 ((((((((k1).trans k2).trans k4).trans k5).trans k6).trans k8).trans k9).trans k11))
structure ObjN (v:World) (S:TS) (xs:List Int) (pk:Nat→Option Obj) (S1:TS) (K:List (Nat×Int)) (u:World):Prop where
 size:v.heap.size≤u.heap.size
 has:Has pk u
 vals:K.map (·.2)=xs
 cels:∀ (j:Nat) (c:Nat×Int),K[j]? = some c→u.heap[c.1]? = some (.cells #[I 0,I c.2] 123 (0,0))∧v.heap.size≤c.1∧pk c.1=none
 nd:(K.map (·.1)).Nodup
 old:∀ b,b<v.heap.size→u.heap[b]? = v.heap[b]?
 os:u.os=v.os
 out:u.output=v.output
section
variable {v u u':World} {S S1:TS} {K:List (Nat×Int)} {xs:List Int} {pk:Nat→Option Obj}
theorem ObjN.lt (h:ObjN v S xs pk S1 K u) {b:Nat} {o:Obj} (hb:pk b=some o):b<u.heap.size:=(Array.getElem?_eq_some_iff.1 (h.has b o hb)).1
theorem ObjN.start (hpk:Has pk v):ObjN v S [] pk S1 [] v:=⟨Nat.le_refl _,hpk,rfl,fun j c h=>(by cases h),List.nodup_nil,fun _ _=>rfl,rfl,rfl⟩
theorem ObjN.grows (h:ObjN v S xs pk S1 K u) (g:Grows u u'):ObjN v S xs pk S1 K u':=by
 refine ⟨Nat.le_trans h.size g.size,fun b o hb=>by rw [g.old b (h.lt hb)];exact h.has b o hb,h.vals,fun j c hc=>?_,h.nd,fun b hb=>by rw [g.old b (by have:=h.size;omega)];exact h.old b hb,g.os.trans h.os,g.output.trans h.out⟩
 have:=h.cels j c hc
 exact ⟨by rw [g.old _ (Array.getElem?_eq_some_iff.1 this.1).1];exact this.1,this.2⟩
theorem ObjN.same (h:ObjN v S xs pk S1 K u) (e:u'.heap=u.heap) (e1:u'.os=u.os) (e2:u'.output=u.output):ObjN v S xs pk S1 K u':=h.grows ⟨by rw [e];exact Nat.le_refl _,fun b _=>by rw [e],e1,e2⟩
theorem ObjN.push (h:ObjN v S xs pk S1 K u) {c:Array Value} {t:TypeId} (e:u'.heap=u.heap.push (.cells c t)) (e1:u'.os=u.os) (e2:u'.output=u.output):ObjN v S xs (padd pk u.heap.size (.cells c t)) S1 K u':=by
 have g:Grows u u':=⟨by rw [e];simp,fun b hb=>by rw [e,Array.getElem?_push,if_neg (by omega)],e1,e2⟩
 have k:=h.grows g
 refine ⟨k.size,fun b o hb=>?_,k.vals,fun j c' hc=>?_,k.nd,k.old,k.os,k.out⟩
 ·by_cases hbu:b=u.heap.size
  ·subst hbu
   rw [padd_at] at hb
   cases hb
   rw [e,Array.getElem?_push_size]
  ·rw [padd_ne hbu] at hb;exact k.has b o hb
 ·have q:=k.cels j c' hc
  have hlt:=(Array.getElem?_eq_some_iff.1 (h.cels j c' hc).1).1
  exact ⟨q.1,q.2.1,by rw [padd_ne (by omega)];exact q.2.2⟩
theorem ObjN.set (h:ObjN v S xs pk S1 K u) {b:Nat} {o o':Obj} (hb:pk b=some o) (hvb:v.heap.size≤b) (hw:∀ x,x≠b→u'.heap[x]? = u.heap[x]?) (hn:u'.heap[b]? = some o') (hs:u'.heap.size=u.heap.size) (e1:u'.os=u.os) (e2:u'.output=u.output) (hr:∃ c e f,o'=.cells c e f):ObjN v S xs (padd pk b o') S1 K u':=by
 refine ⟨by rw [hs];exact h.size,fun x y hx=>?_,h.vals,fun j c hc=>?_,h.nd,fun x hx=>by rw [hw x (by omega)];exact h.old x hx,e1.trans h.os,e2.trans h.out⟩
 ·by_cases e:x=b
  ·subst e;rw [padd_at] at hx;cases hx;exact hn
  ·rw [padd_ne e] at hx;rw [hw x e];exact h.has x y hx
 ·have q:=h.cels j c hc
  have hne:c.1≠b:=fun e=>by rw [e,hb] at q;cases q.2.2
  exact ⟨by rw [hw _ hne];exact q.1,q.2.1,by rw [padd_ne hne];exact q.2.2⟩
theorem ObjN.cell (h:ObjN v S xs pk S1 K u) (x:Int) (hl:xs.length≤1000000):Calls Tryd.prog 41 #[.pointer none,I x] u (fun e w'=>∃ cb,e=.returned (Pt cb 0)∧u.heap.size≤w'.heap.size∧∃ S2,ObjN v S (xs++[x]) pk S2 (K++[(cb,x)]) w'):=by
 refine ((body10n u x).calls Tryd.func41 rfl).mono ?_
 rintro e w1 ⟨_,rfl,rfl,q1,q2,q3⟩
 have g:Grows u w1:=⟨by rw [q1];simp,fun b hb=>by rw [q1,Array.getElem?_push,if_neg (by omega)],q2,q3⟩
 have k:=h.grows g
 refine ⟨u.heap.size,rfl,g.size,S1,k.size,k.has,by rw [List.map_append,k.vals];rfl,fun j c hc=>?_,?_,k.old,k.os,k.out⟩
 ·rw [List.getElem?_append] at hc
  split at hc
  ·exact k.cels j c hc
  ·have e0:j - K.length=0:=by
    rcases Nat.eq_zero_or_pos (j - K.length) with h0|h0
    ·exact h0
    ·rw [List.getElem?_eq_none (by simp;omega)] at hc;cases hc
   rw [e0] at hc
   cases hc
   refine ⟨by rw [q1,Array.getElem?_push_size],h.size,?_⟩
   cases hp:pk u.heap.size with
   |none=>rfl
   |some o=>exact absurd (h.lt hp) (by omega)
 ·rw [List.map_append,List.nodup_append]
  refine ⟨k.nd,by simp,fun a ha b hb=>?_⟩
  simp only [List.map_cons,List.map_nil,List.mem_cons,List.not_mem_nil,or_false] at hb
  subst hb
  obtain ⟨c,hc,rfl⟩:=List.mem_map.1 ha
  obtain ⟨j,hj⟩:=List.mem_iff_getElem?.1 hc
  have:=(Array.getElem?_eq_some_iff.1 (h.cels j c hj).1).1
  omega
end
theorem slotsNewN {v u:World} {S S1:TS} {pk:Nat→Option Obj} (hO:ObjN v S [] pk S1 [] u) (hF:R1.Flds u) (n:Nat) (hn:n≤1000):Body Tryd.f24 #[.pointer none,I n] u (fun r u'=>r=Pt (u.heap.size+1) 0∧∃ S2 K pk',ObjN v S (nxs n n) pk' S2 K u'∧SlN pk pk' n (u.heap.size+1) u.heap.size K):=by
 intro code hb
 obtain rfl:=Option.some.inj hb
 clear hb
 have hmk:=make_slots n (by omega)
 rw [made_rowC n 1 94 [] (by simp)] at hmk
 have hmx:(Builtin.max_ #[3,3] 3 #[I n,I 0])=pure (I n):=by
  show (pure (Value.int .i64 (if (0:Int) > n then 0 else n)):Sem Value)=_
  rw [if_neg (by omega)]
 have hmn:(Builtin.min_ #[3,3] 3 #[I n,I 1000])=pure (I n):=by
  show (pure (Value.int .i64 (if (1000:Int)<n then 1000 else n)):Sem Value)=_
  rw [if_neg (by omega)]
 have huv:v.heap.size≤u.heap.size:=hO.size
 have HUV:Hid (v.heap.size≤u.heap.size):=⟨huv⟩
 have HN:Hid (n≤1000):=⟨hn⟩
 have HF:Hid (R1.Flds u):=⟨hF⟩
 have o1:=hO.push (u':=u.alloc (objC n 1 94 [])) (c:=(rowC (2*n) 1 []).toArray) (t:=94) rfl rfl rfl
 have o2:=o1.push (u':=(u.alloc (objC n 1 94 [])).alloc (.cells #[.pointer none,.slice (some ⟨u.heap.size,0,none⟩) n n] 91)) (c:=#[.pointer none,.slice (some ⟨u.heap.size,0,none⟩) n n]) (t:=91) rfl rfl rfl
 have hsz:(u.alloc (objC n 1 94 [])).heap.size=u.heap.size+1:=by simp
 rw [hsz] at o2
 have HO:Hid _:=⟨o2⟩
 have HP:Hid (∀ b o,pk b=some o→b<u.heap.size):=⟨fun b o hb=>hO.lt hb⟩
 clear hO o1 o2 hF huv hn
 simp only [Tryd.ntmps24,List.size_toArray,List.length_cons,List.length_nil,Nat.reduceAdd,Nat.reduceSub,Array.replicate_succ,Array.replicate_zero,List.push_toArray,List.append_toArray,List.nil_append,List.cons_append]
 go_wp2_with (first
  |(go_at_call 43;refine (behind0_any n HN.out _).mono ?_;rintro e w1 ⟨rfl,rfl⟩))
 refine ((R1.shead_any (bh 0 n) 0 _ (HF.out.below (((Below.refl _ _).alloc (Nat.le_refl _) _).alloc (by simp) _))).calls Tryd.func42 rfl).mono ?_
 rintro e u3 ⟨r,rfl,rfl,hb3⟩
 have HO3:Hid _:=⟨HO.out.grows (blw_grows hb3)⟩
 clear hb3 HF HO hmk hmx hmn
 have hlt0:=HP.out
 generalize hNN:u.heap.size=N at *
 go_wp2_with (first
  |(go_at_call 41;refine (HO3.out.cell (hdI (bh 0 n) 0) (by simp)).mono ?_;rintro e w4 ⟨c0,rfl,hs4,S2,o4⟩
    have HO4:Hid _:=⟨o4⟩
    have hB:=o4.has (N+1) _ (padd_at _ _ _)
    have c5:w4.cell? ⟨N+1,0,none⟩=some (.pointer none):=cell_of hB rfl
    have c6:w4.frozen? ⟨N+1,0,none⟩=false:=by simp [World.frozen?,hB]
    have c7:w4.cell? ⟨N+1,1,none⟩=some (.slice (some ⟨N,0,none⟩) n n):=cell_of hB rfl
    have HB:Hid (w4.heap[N+1]? = _):=⟨hB⟩
    clear o4 hB HO3))
 go_loopw [27] (fun i u'=>∃ (k:Nat) (K:List (Nat×Int)) (S1':TS) (pk':Nat→Option Obj),k≤n∧i=.int .i64 k∧K.length=1+2*k∧ObjN v S (nxs n k) pk' S1' K u'∧SlN pk pk' n (N+1) N K) (fun i _=>n - (intOf i).toNat)
 case atStart =>
  refine ⟨0,[(c0,hdI (bh 0 n) 0)],S2,_,Nat.zero_le _,rfl,rfl,HO4.out.set (b:=N+1) (o':=.cells #[Pt c0 0,.slice (some ⟨N,0,none⟩) n n] 91 (0,0)) (padd_at _ _ _) (by have:=HUV.out;omega) (fun x hx=>Below.heap_setCell _ _ _ _ hx) ?_ (by simp [World.setCell]) rfl rfl ⟨_,_,_,rfl⟩,?_⟩
  ·have:=heap_setCell_same (o:=0) HB.out (Pt c0 0)
   simpa using this
  ·refine ⟨fun b o hb=>?_,⟨_,rfl,padd_at _ _ _⟩,?_⟩
   ·have:=hlt0 b o hb
    rw [padd_ne (by omega),padd_ne (by omega),padd_ne (by omega)]
    exact hb
   ·rw [padd_ne (by omega),padd_ne (by omega),padd_at]
    rw [objC_none (K:=[(c0,hdI (bh 0 n) 0)]) (by simp)]
    rfl
 case round =>
  obtain ⟨k,K,S1',pk',hk,rfl,hK,hO,hS⟩:=hrel
  have HOB:Hid (ObjN v S (nxs n k) pk' S1' K wr):=⟨hO⟩
  have HS:Hid (SlN pk pk' n (N+1) N K):=⟨hS⟩
  obtain ⟨cc,hcc,hbox⟩:=hS.box
  have hB:=hO.has (N+1) _ hbox
  have c1:wr.cell? ⟨N+1,1,none⟩=some (.slice (some ⟨N,0,none⟩) n n):=cell_of hB rfl
  clear HO4 HB c5 c6 c7 hO hS hB
  have HBX:Hid (pk' (N+1)=_):=⟨hbox⟩
  clear hbox
  by_cases hlt:k<n
  ·have hks:(k:Int)<(n:Int):=by omega
   go_wp2_with fail
   go_region_held3 (fun u=>u.cell? ⟨N+1,1,none⟩=some (.slice (some ⟨N,0,none⟩) n n))
    (first|assumption|(simp [go_sem, *];done))
    (first
      |(go_at_call 43;refine (behind_any k n (by have:=HN.out;omega) HN.out _).mono ?_;rintro e w1 ⟨rfl,rfl⟩)
      |(go_at_call 41;refine ((HOB.out.same (u':=wr.drew) rfl rfl rfl).cell (bh (k+1) n) (by rw [nxs_len];have:=HN.out;omega)).mono ?_;rintro e w1 ⟨cb,rfl,hs1,S2,o2⟩
        have HO2:Hid (ObjN v S (nxs n k++[bh (k+1) n]) pk' S2 (K++[(cb,bh (k+1) n)]) w1):=⟨o2⟩
        have hN:=o2.has N _ HS.out.row
        have c2:w1.cell? ⟨N+1,1,none⟩=some (.slice (some ⟨N,0,none⟩) n n):=cell_of (o2.has (N+1) _ HBX.out) rfl
        obtain ⟨c3,c4⟩:=objC_at (j:=k*2) hN (by omega) (by omega)
        have HN1:Hid (w1.heap[N]? = some (objC n 1 94 K)):=⟨hN⟩
        clear o2 hN))
   have O3:=HO2.out.set (b:=N) (o':=objC n 1 94 (K++[(cb,bh (k+1) n)])) (u':=w1.setCell ⟨N,k*2,none⟩ (.pointer (some ⟨cb,0,none⟩))) HS.out.row HUV.out (fun x hx=>Below.heap_setCell _ _ _ _ hx) (objC_next (j:=k*2) (cb,bh (k+1) n) HN1.out (by omega) (by omega)) (by simp [World.setCell]) rfl rfl ⟨_,_,_,rfl⟩
   have HO3:Hid _:=⟨O3⟩
   clear O3 HO2 HN1 c2 c3 c4 hs1
   generalize hW:w1.setCell ⟨N,k*2,none⟩ (.pointer (some ⟨cb,0,none⟩))=W at *
   have hLK:(K++[(cb,bh (k+1) n)]).length=1+(k*2+1):=by rw [List.length_append,hK];simp;omega
   go_wp2_with fail
   go_region_held3 (fun u=>u.cell? ⟨N+1,1,none⟩=some (.slice (some ⟨N,0,none⟩) n n))
    (first|assumption|(simp [go_sem, *];done))
    (first
      |(go_at_call 41;refine ((HO3.out.same (u':=W.drew) rfl rfl rfl).cell 0 (by rw [List.length_append,nxs_len];have:=HN.out;simp;omega)).mono ?_;rintro e w2 ⟨cb2,rfl,hs2,S3,o2⟩
        have HO5:Hid _:=⟨o2⟩
        have hN:=o2.has N _ (padd_at _ _ _)
        have c2:w2.cell? ⟨N+1,1,none⟩=some (.slice (some ⟨N,0,none⟩) n n):=cell_of (o2.has (N+1) _ (by rw [padd_ne (by omega)];exact HBX.out)) rfl
        obtain ⟨c3,c4⟩:=objC_at (j:=k*2+1) hN hLK (by omega)
        have HN2:Hid (w2.heap[N]? = some (objC n 1 94 (K++[(cb,bh (k+1) n)]))):=⟨hN⟩
        clear o2 hN))
   have hn3:=HN.out
   go_wp2_with fail
   go_roundw
   case rel =>
    have O6:=HO5.out.set (b:=N) (o':=objC n 1 94 (K++[(cb,bh (k+1) n)]++[(cb2,0)])) (u':=w2.setCell ⟨N,k*2+1,none⟩ (.pointer (some ⟨cb2,0,none⟩))) (padd_at _ _ _) HUV.out (fun x hx=>Below.heap_setCell _ _ _ _ hx) (objC_next (j:=k*2+1) (cb2,0) HN2.out hLK (by omega)) (by simp [World.setCell]) rfl rfl ⟨_,_,_,rfl⟩
    refine ⟨k+1,K++[(cb,bh (k+1) n)]++[(cb2,0)],S3,_,by omega,by go_num,by rw [List.length_append,hLK];simp;omega,O6,fun b o hb=>?_,?_,padd_at _ _ _⟩
    ·have:=hlt0 b o hb
     rw [padd_ne (by omega),padd_ne (by omega)]
     exact HS.out.old b o hb
    ·refine ⟨cc,?_,?_⟩
     ·rw [List.append_assoc,List.getElem?_append_left (by omega)];exact hcc
     ·rw [padd_ne (by omega),padd_ne (by omega)];exact HBX.out
   case measure=>simp [intOf];omega
  ·have:k=n:=by omega
   subst this
   go_wp2_with fail
   go_ret
   subst hNN
   exact ⟨_,rfl,rfl,S1',K,pk',HOB.out,HS.out⟩
theorem stackNewN {v:World} {S:TS} {pk:Nat→Option Obj} (hO:ObjN v S [] pk S [] v) (hF:R1.Flds v) (n:Nat) (hn:n≤1000):Body Tryd.f49 #[.pointer none,I n] v (fun r u'=>r=Pt (v.heap.size+1) 0∧∃ S2 K pk',ObjN v S (sts n n) pk' S2 K u'∧StkN pk pk' n (v.heap.size+1) (v.heap.size+3) (v.heap.size+2) v.heap.size K):=by
 intro code hb
 obtain rfl:=Option.some.inj hb
 clear hb
 have hmk:=make_places n (by omega)
 rw [made_rowC n (2*n+2) 134 [] (by simp)] at hmk
 have hmx:(Builtin.max_ #[3,3] 3 #[I n,I 0])=pure (I n):=by
  show (pure (Value.int .i64 (if (0:Int) > n then 0 else n)):Sem Value)=_
  rw [if_neg (by omega)]
 have hmn:(Builtin.min_ #[3,3] 3 #[I n,I 1000])=pure (I n):=by
  show (pure (Value.int .i64 (if (1000:Int)<n then 1000 else n)):Sem Value)=_
  rw [if_neg (by omega)]
 have HN:Hid (n≤1000):=⟨hn⟩
 have o1:=hO.push (u':=v.alloc (objC n (2*n+2) 134 [])) (c:=(rowC (2*n) (2*n+2) []).toArray) (t:=134) rfl rfl rfl
 have o2:=o1.push (u':=(v.alloc (objC n (2*n+2) 134 [])).alloc (.cells #[.pointer none,.pointer none,.slice (some ⟨v.heap.size,0,none⟩) n n] 132)) (c:=#[.pointer none,.pointer none,.slice (some ⟨v.heap.size,0,none⟩) n n]) (t:=132) rfl rfl rfl
 have hsz:(v.alloc (objC n (2*n+2) 134 [])).heap.size=v.heap.size+1:=by simp
 rw [hsz] at o2
 have h24:=(slotsNewN o2 (hF.below (((Below.refl _ _).alloc (Nat.le_refl _) _).alloc (by simp) _)) n hn).calls Tryd.func24 rfl
 rw [show ((v.alloc (objC n (2*n+2) 134 [])).alloc (.cells #[.pointer none,.pointer none,.slice (some ⟨v.heap.size,0,none⟩) n n] 132)).heap.size=v.heap.size+2 by simp] at h24
 have H24:Hid _:=⟨h24⟩
 have HP:Hid (∀ b o,pk b=some o→b<v.heap.size):=⟨fun b o hb=>hO.lt hb⟩
 clear hO o1 o2 hF hn h24
 simp only [Tryd.ntmps49,List.size_toArray,List.length_cons,List.length_nil,Nat.reduceAdd,Nat.reduceSub,Array.replicate_succ,Array.replicate_zero,List.push_toArray,List.append_toArray,List.nil_append,List.cons_append]
 go_wp2_with fail
 refine H24.out.mono ?_
 rintro e u3 ⟨r,rfl,rfl,S3,K3,pk3,o3,hs3⟩
 clear H24 hmk hmx hmn
 have hlt0:=HP.out
 have hNv:v.heap.size≤v.heap.size:=Nat.le_refl _
 generalize hNN:v.heap.size=N at *
 have hbx:=hs3.old (N+1) _ (padd_at _ _ _)
 have hrw:=hs3.old N _ (by rw [padd_ne (by omega),padd_at])
 have hK3:K3.length=1+2*n:=by have:=congrArg List.length o3.vals;rw [List.length_map,nxs_len] at this;exact this
 have hB:=o3.has (N+1) _ hbx
 have c0:u3.cell? ⟨N+1,0,none⟩=some (.pointer none):=cell_of hB rfl
 have c1:u3.frozen? ⟨N+1,0,none⟩=false:=by simp [World.frozen?,hB]
 have O4:=o3.set (b:=N+1) (o':=.cells #[Pt (N+3) 0,.pointer none,.slice (some ⟨N,0,none⟩) n n] 132 (0,0)) (u':=u3.setCell ⟨N+1,0,none⟩ (Pt (N+3) 0)) hbx (by omega) (fun x hx=>Below.heap_setCell _ _ _ _ hx) (by have:=heap_setCell_same (o:=0) hB (Pt (N+3) 0);simpa using this) (by simp [World.setCell]) rfl rfl ⟨_,_,_,rfl⟩
 have HO4:Hid _:=⟨O4⟩
 have HS3:Hid _:=⟨hs3⟩
 have HRW:Hid _:=⟨hrw⟩
 clear O4 o3 hs3 hbx hB hrw
 go_wp2_with (first
  |(go_at_call 41;refine (HO4.out.cell 0 (by rw [nxs_len];have:=HN.out;omega)).mono ?_;rintro e w4 ⟨hc,rfl,hs4,S4,o4⟩
    have HO5:Hid _:=⟨o4⟩
    have hB:=o4.has (N+1) _ (padd_at _ _ _)
    have c5:w4.cell? ⟨N+1,1,none⟩=some (.pointer none):=cell_of hB rfl
    have c6:w4.frozen? ⟨N+1,1,none⟩=false:=by simp [World.frozen?,hB]
    have c7:w4.cell? ⟨N+1,2,none⟩=some (.slice (some ⟨N,0,none⟩) n n):=cell_of hB rfl
    have HB:Hid (w4.heap[N+1]? = _):=⟨hB⟩
    clear o4 hB HO4 c0 c1))
 go_loopw [30] (fun i u'=>∃ (k:Nat) (K:List (Nat×Int)) (S1':TS) (pk':Nat→Option Obj),k≤n∧i=.int .i64 k∧K.length=2*n+2+2*k∧ObjN v S (sts n k) pk' S1' K u'∧StkN pk pk' n (N+1) (N+3) (N+2) N K) (fun i _=>n - (intOf i).toNat)
 case atStart =>
  have hold:=HS3.out.old
  obtain ⟨cz,hcz,hbz⟩:=HS3.out.box
  refine ⟨0,K3++[(hc,0)],S4,_,Nat.zero_le _,rfl,by rw [List.length_append,hK3];simp;omega,HO5.out.set (b:=N+1) (o':=.cells #[Pt (N+3) 0,Pt hc 0,.slice (some ⟨N,0,none⟩) n n] 132 (0,0)) (padd_at _ _ _) (by omega) (fun x hx=>Below.heap_setCell _ _ _ _ hx) ?_ (by simp [World.setCell]) rfl rfl ⟨_,_,_,rfl⟩,?_⟩
  ·have:=heap_setCell_same (o:=1) HB.out (Pt hc 0)
   simpa using this
  ·refine ⟨fun b o hb=>?_,⟨cz,?_,?_⟩,?_,⟨(hc,0),?_,padd_at _ _ _⟩,?_⟩
   ·have:=hlt0 b o hb
    rw [padd_ne (by omega),padd_ne (by omega)]
    refine hold b o ?_
    rw [padd_ne (by omega),padd_ne (by omega)]
    exact hb
   ·rw [List.getElem?_append_left (by omega)];exact hcz
   ·rw [padd_ne (by omega),padd_ne (by omega)];exact hbz
   ·rw [padd_ne (by omega),padd_ne (by omega),objC_far _ (by omega)];exact HS3.out.row
   ·rw [show 2*n+1=K3.length by omega];simp
   ·rw [padd_ne (by omega),padd_ne (by omega),objC_none (by rw [List.length_append,hK3];simp;omega)];exact HRW.out
 case round =>
  obtain ⟨k,K,S1',pk',hk,rfl,hK,hO,hS⟩:=hrel
  have HOB:Hid (ObjN v S (sts n k) pk' S1' K wr):=⟨hO⟩
  have HS:Hid (StkN pk pk' n (N+1) (N+3) (N+2) N K):=⟨hS⟩
  obtain ⟨cc,hcc,hbox⟩:=hS.box
  have hB:=hO.has (N+1) _ hbox
  have c1:wr.cell? ⟨N+1,2,none⟩=some (.slice (some ⟨N,0,none⟩) n n):=cell_of hB rfl
  clear HO5 HB c5 c6 c7 hO hS hB HS3 HRW
  have HBX:Hid (pk' (N+1)=_):=⟨hbox⟩
  clear hbox
  by_cases hlt:k<n
  ·have hks:(k:Int)<(n:Int):=by omega
   go_wp2_with fail
   go_region_held3 (fun u=>u.cell? ⟨N+1,2,none⟩=some (.slice (some ⟨N,0,none⟩) n n))
    (first|assumption|(simp [go_sem, *];done))
    (first
      |(go_at_call 41;refine ((HOB.out.same (u':=wr.drew) rfl rfl rfl).cell 0 (by rw [sts_len];have:=HN.out;omega)).mono ?_;rintro e w1 ⟨cb,rfl,hs1,S2,o2⟩
        have HO2:Hid (ObjN v S (sts n k++[0]) pk' S2 (K++[(cb,0)]) w1):=⟨o2⟩
        have hN:=o2.has N _ HS.out.row
        have c2:w1.cell? ⟨N+1,2,none⟩=some (.slice (some ⟨N,0,none⟩) n n):=cell_of (o2.has (N+1) _ HBX.out) rfl
        obtain ⟨c3,c4⟩:=objC_at (j:=k*2) hN (by omega) (by omega)
        have HN1:Hid (w1.heap[N]? = some (objC n (2*n+2) 134 K)):=⟨hN⟩
        clear o2 hN))
   have O3:=HO2.out.set (b:=N) (o':=objC n (2*n+2) 134 (K++[(cb,0)])) (u':=w1.setCell ⟨N,k*2,none⟩ (.pointer (some ⟨cb,0,none⟩))) HS.out.row (by omega) (fun x hx=>Below.heap_setCell _ _ _ _ hx) (objC_next (j:=k*2) (cb,0) HN1.out (by omega) (by omega)) (by simp [World.setCell]) rfl rfl ⟨_,_,_,rfl⟩
   have HO3:Hid _:=⟨O3⟩
   clear O3 HO2 HN1 c2 c3 c4 hs1
   generalize hW:w1.setCell ⟨N,k*2,none⟩ (.pointer (some ⟨cb,0,none⟩))=W at *
   have hLK:(K++[(cb,(0:Int))]).length=2*n+2+(k*2+1):=by rw [List.length_append,hK];simp;omega
   go_wp2_with fail
   go_region_held3 (fun u=>u.cell? ⟨N+1,2,none⟩=some (.slice (some ⟨N,0,none⟩) n n))
    (first|assumption|(simp [go_sem, *];done))
    (first
      |(go_at_call 41;refine ((HO3.out.same (u':=W.drew) rfl rfl rfl).cell 0 (by rw [List.length_append,sts_len];have:=HN.out;simp;omega)).mono ?_;rintro e w2 ⟨cb2,rfl,hs2,S3,o2⟩
        have HO5:Hid _:=⟨o2⟩
        have hN:=o2.has N _ (padd_at _ _ _)
        have c2:w2.cell? ⟨N+1,2,none⟩=some (.slice (some ⟨N,0,none⟩) n n):=cell_of (o2.has (N+1) _ (by rw [padd_ne (by omega)];exact HBX.out)) rfl
        obtain ⟨c3,c4⟩:=objC_at (j:=k*2+1) hN hLK (by omega)
        have HN2:Hid (w2.heap[N]? = some (objC n (2*n+2) 134 (K++[(cb,0)]))):=⟨hN⟩
        clear o2 hN))
   have hn3:=HN.out
   go_wp2_with fail
   go_roundw
   case rel =>
    have O6:=HO5.out.set (b:=N) (o':=objC n (2*n+2) 134 (K++[(cb,0)]++[(cb2,0)])) (u':=w2.setCell ⟨N,k*2+1,none⟩ (.pointer (some ⟨cb2,0,none⟩))) (padd_at _ _ _) (by omega) (fun x hx=>Below.heap_setCell _ _ _ _ hx) (objC_next (j:=k*2+1) (cb2,0) HN2.out hLK (by omega)) (by simp [World.setCell]) rfl rfl ⟨_,_,_,rfl⟩
    obtain ⟨cz,hcz,hbz⟩:=HS.out.sbox
    refine ⟨k+1,K++[(cb,0)]++[(cb2,0)],S3,_,by omega,by go_num,by rw [List.length_append,hLK];simp;omega,O6,fun b o hb=>?_,⟨cz,?_,?_⟩,?_,⟨cc,?_,?_⟩,padd_at _ _ _⟩
    ·have:=hlt0 b o hb
     rw [padd_ne (by omega),padd_ne (by omega)]
     exact HS.out.old b o hb
    ·rw [List.append_assoc,List.getElem?_append_left (by omega)];exact hcz
    ·rw [padd_ne (by omega),padd_ne (by omega)];exact hbz
    ·rw [padd_ne (by omega),padd_ne (by omega),objC_far _ (by omega),objC_far _ (by omega)];exact HS.out.srow
    ·rw [List.append_assoc,List.getElem?_append_left (by omega)];exact hcc
    ·rw [padd_ne (by omega),padd_ne (by omega)];exact HBX.out
   case measure=>simp [intOf];omega
  ·have:k=n:=by omega
   subst this
   go_wp2_with fail
   go_ret
   subst hNN
   exact ⟨_,rfl,rfl,S1',K,pk',HOB.out,HS.out⟩
end Go.Proofs.YtbbhahigofeacaaDoor.Gen
