/- Of the proof of CounterTimes. Part 21 of 31. (Joined, by program, and written short, of: GObj, GRK, GFree, CtF, CtG, CtPk2, CtPkg, CtN, CtH, GEnd, La15a, La15b, GL14.) -/
import Derived.Test.YtfjjoohflcchnaaDoorCounterTimes05
import Derived.Test.YtfjjoohflcchnaaDoorCounterTimes12
import Derived.Test.YtfjjoohflcchnaaDoorCounterTimes15
import Derived.Test.YtfjjoohflcchnaaDoorCounterTimes17
import Derived.Test.YtfjjoohflcchnaaDoorCounterTimes18
import Derived.Test.YtfjjoohflcchnaaDoorCounterTimes19
import Derived.Test.YtfjjoohflcchnaaDoorCounterTimes20
import Derived.Deep.RegionWith
import Derived.Deep.OwnRows
import Derived.Deep.RegionHeld3
import Derived.BigQuiet
set_option linter.unusedSimpArgs false
set_option linter.unusedVariables false
set_option maxHeartbeats 4000000
set_option maxRecDepth 100000
namespace Go.Proofs.YtfjjoohflcchnaaDoor.Gen
open Go Go.Lift Go.Conc Go.RowKit
def padd (pk:Nat→Option Obj) (b:Nat) (o:Obj):Nat→Option Obj:=fun x=>if x=b then some o else pk x
theorem padd_at (pk:Nat→Option Obj) (b:Nat) (o:Obj):padd pk b o b=some o:=by unfold padd;rw [if_pos rfl]
theorem padd_ne {pk:Nat→Option Obj} {b x:Nat} {o:Obj} (h:x≠b):padd pk b o x=pk x:=by unfold padd;rw [if_neg h]
theorem cell_of {v:World} {b j:Nat} {c:Array Value} {t:TypeId} {f:Nat×Nat} {x:Value} (h:v.heap[b]? = some (.cells c t f)) (hj:c[j]? = some x):v.cell? ⟨b,j,none⟩=some x:=by
 unfold World.cell?
 rw [h]
 exact hj
section
variable {v u u':World} {S S1:TS} {K:List (Nat×Int)} {xs:List Int} {pk:Nat→Option Obj}
theorem Objs.start (hm:Mem zn S [] v) (hch:S.chg=[]):Objs v S [] (fun _=>none) S [] v :=
 ⟨Cel.refl hm,rfl,⟨S.cv,by unfold cellsS;rw [List.length_nil,List.replicate_zero,←hch]⟩,fun b o h=>(by cases h),fun b h=>absurd rfl h,fun b o h=>(by cases h)⟩
theorem Objs.startG (hm:Mem zn S [] v) (hch:S.chg=[]) (hpk:Has pk v) (hf:∀ b,pk b≠none→¬ Own S [] b∧b≠S.bk) (hr:∀ b o,pk b=some o→∃ c e f,o=.cells c e f):Objs v S [] pk S [] v :=
 ⟨Cel.refl hm,rfl,⟨S.cv,by unfold cellsS;rw [List.length_nil,List.replicate_zero,←hch]⟩,hpk,fun b h=>⟨.inr (hf b h).2,(hf b h).1⟩,hr⟩
theorem Objs.push (h:Objs v S xs pk S1 K u) {c:Array Value} {t:TypeId} (e:u'.heap=u.heap.push (.cells c t)) (e1:u'.os=u.os) (e2:u'.output=u.output):Objs v S xs (padd pk u.heap.size (.cells c t)) S1 K u':=by
 refine ⟨h.cel.push e e1 e2,h.vals,h.st,fun b o hb=>?_,fun b hb=>?_,fun b o hb=>?_⟩
 ·by_cases hbu:b=u.heap.size
  ·subst hbu
   rw [padd_at] at hb
   cases hb
   rw [e]
   exact Array.getElem?_push_size
  ·rw [padd_ne hbu] at hb
   have:=h.has b o hb
   have hl:=(Array.getElem?_eq_some_iff.1 this).1
   rw [e,Array.getElem?_push,if_neg (by omega)]
   exact this
 ·by_cases hbu:b=u.heap.size
  ·subst hbu
   exact ⟨.inl h.cel.fr.size,fun ho=>by have:=h.cel.mem.lt ho;omega⟩
  ·rw [padd_ne hbu] at hb
   exact h.new b hb
 ·by_cases hbu:b=u.heap.size
  ·subst hbu
   rw [padd_at] at hb
   cases hb
   exact ⟨_,_,_,rfl⟩
  ·rw [padd_ne hbu] at hb
   exact h.row b o hb
theorem Objs.more (h:Objs v S xs pk S1 K u) {S2:TS} {K2:List (Nat×Int)} {ys:List Int} (c:Cel zn S1 K u S2 K2 u') (hv:K2.map (·.2)=ys) (hs:∃ cv,S2=cellsS S cv ys.length):Objs v S ys pk S2 K2 u':=by
 have hl:∀ b o,pk b=some o→b<u.heap.size:=fun b o hb=>(Array.getElem?_eq_some_iff.1 (h.has b o hb)).1
 refine ⟨h.cel.trans c,hv,hs,fun b o hb=>?_,fun b hb=>?_,h.row⟩
 ·rw [c.fr.block b (hl b o hb) (h.new b (by rw [hb];simp)).2]
  exact h.has b o hb
 ·obtain ⟨o,ho⟩:=Option.ne_none_iff_exists'.1 hb
  refine ⟨(h.new b hb).1,fun ho'=>?_⟩
  rcases c.own b ho' with e|e
  ·exact (h.new b hb).2 e
  ·have:=hl b o ho;omega
theorem Objs.cell (h:Objs v S xs pk S1 K u) (x:Int) (hl:xs.length≤1000000):Calls Tryd.prog 70 #[Pt S.wb 0,I x] u (fun e w'=>∃ cb,e=.returned (Pt cb 0)∧u.heap.size≤w'.heap.size∧∃ S2,Objs v S (xs++[x]) pk S2 (K++[(cb,x)]) w'):=by
 obtain ⟨cv,rfl⟩:=h.st
 have h10:=(body10 h.cel.mem x (by show (List.replicate xs.length (0:Int)).length≤_;simp;omega)).calls Tryd.func70 rfl
 refine h10.mono ?_
 rintro e w' ⟨r,rfl,cb,cv',rfl,hm1,hf1,hn1⟩
 refine ⟨cb,rfl,hf1.size,_,h.more ⟨hm1,hf1,hn1⟩ (by rw [List.map_append,h.vals];rfl) ⟨cv',?_⟩⟩
 unfold celledS cellsS
 simp only [List.length_append,List.length_cons,List.length_nil,Nat.zero_add,List.replicate_succ']
end
def TrL (g:Nat) (L:List Stp) (v:World):Prop:=∀ (k:Nat) (s:Stp),L[k]? = some s→v.cell? ⟨g,k*5,none⟩=some (I s.th)∧v.cell? ⟨g,k*5+1,none⟩=some (I s.ce)∧v.cell? ⟨g,k*5+2,none⟩=some (I s.op)∧v.cell? ⟨g,k*5+3,none⟩=some (I s.ol)∧v.cell? ⟨g,k*5+4,none⟩=some (I s.ne)
structure RK (n M b o:Nat) (A ln cp rb ro:Nat→Nat) (pc:Nat→Option Addr) (cl:Nat→List Cl) (l:Nat→Ph) (v:World):Prop where
 ar:∀ k,k<n→v.cell? ⟨M,k,none⟩=some (.slice (some ⟨A k,0,none⟩) (ln k) (ln k))
 an:∀ k,k<n→∀ (j:Nat) (q:Int×Int),(l k).ans[j]? = some q→v.cell? ⟨A k,j*2,none⟩=some (I q.1)∧v.cell? ⟨A k,j*2+1,none⟩=some (I q.2)
 sr:∀ k,k<n→v.cell? ⟨b,o+k,none⟩=some (.slice (pc k) (ln k) (cp k))
 pq:∀ k,k<n→0<ln k→pc k=some ⟨rb k,ro k,none⟩
 sa:∀ k,k<n→∀ (j:Nat) (c:Cl),(cl k)[j]? = some c→v.cell? ⟨rb k,ro k+j*4,none⟩=some (I c.po)∧v.cell? ⟨rb k,ro k+j*4+1,none⟩=some (I c.ca)
theorem RK.go {n M b o:Nat} {A ln cp rb ro:Nat→Nat} {pc:Nat→Option Addr} {cl:Nat→List Cl} {l:Nat→Ph} {v v':World} (h:RK n M b o A ln cp rb ro pc cl l v) (g:∀ q,q<v.heap.size→v'.heap[q]? = v.heap[q]?):RK n M b o A ln cp rb ro pc cl l v':=by
 have hc:∀ (a:Addr) (x:Value),v.cell? a=some x→v'.cell? a=some x:=fun a x ha=>by rw [World.cell?_of_block (w:=v) (w':=v') (g _ (World.block_lt_of_cell? _ _ ha))];exact ha
 exact ⟨fun k hk=>hc _ _ (h.ar k hk),fun k hk j q hq=>⟨hc _ _ (h.an k hk j q hq).1,hc _ _ (h.an k hk j q hq).2⟩,fun k hk=>hc _ _ (h.sr k hk),h.pq,fun k hk j c hj=>⟨hc _ _ (h.sa k hk j c hj).1,hc _ _ (h.sa k hk j c hj).2⟩⟩
theorem TrL.go {g:Nat} {L:List Stp} {v v':World} (h:TrL g L v) (q:∀ b,b<v.heap.size→v'.heap[b]? = v.heap[b]?):TrL g L v':=fun k s hs=>by
 have hc:∀ (a:Addr) (x:Value),v.cell? a=some x→v'.cell? a=some x:=fun a x ha=>by rw [World.cell?_of_block (w:=v) (w':=v') (q _ (World.block_lt_of_cell? _ _ ha))];exact ha
 obtain ⟨h1,h2,h3,h4,h5⟩:=h k s hs
 exact ⟨hc _ _ h1,hc _ _ h2,hc _ _ h3,hc _ _ h4,hc _ _ h5⟩
structure Fm (tb cb:Nat) (x:Int) (v:World):Prop where
 thr:v.cell? ⟨tb,0,none⟩=some (.pointer none)
 ne:tb≠cb
 cel:v.heap[cb]? = some (.cells #[I 0,I x] 158 (0,0))
structure Fto (tb cb:Nat) (x:Int) (v v':World):Prop where
 fm:Fm tb cb x v'
 old:∀ b,b≠cb→v'.heap[b]? = v.heap[b]?
 size:v'.heap.size=v.heap.size
 os:v'.os=v.os
 out:v'.output=v.output
section
variable {tb cb:Nat} {x y:Int} {v v' v'':World}
theorem Fm.cells (h:Fm tb cb x v):v.cell? ⟨tb,0,none⟩=some (.pointer none)∧v.cell? ⟨cb,0,none⟩=some (I 0)∧v.cell? ⟨cb,1,none⟩=some (I x)∧v.frozen? ⟨cb,1,none⟩=false:=by
 refine ⟨h.thr,?_,?_,?_⟩
 ·unfold World.cell?;rw [show v.heap[cb]? = _ from h.cel];rfl
 ·unfold World.cell?;rw [show v.heap[cb]? = _ from h.cel];rfl
 ·unfold World.frozen?;rw [show v.heap[cb]? = _ from h.cel];rfl
theorem Fm.same (h:Fm tb cb x v) (e:v'.heap=v.heap):Fm tb cb x v':=⟨by rw [World.cell?_of_block (w:=v) (by rw [e])];exact h.thr,h.ne,by rw [e];exact h.cel⟩
theorem Fto.refl (h:Fm tb cb x v):Fto tb cb x v v:=⟨h,fun _ _=>rfl,rfl,rfl,rfl⟩
theorem Fto.same (h:Fto tb cb x v v') (e1:v''.heap=v'.heap) (e2:v''.os=v'.os) (e3:v''.output=v'.output):Fto tb cb x v v'' :=
 ⟨h.fm.same e1,fun b hb=>by rw [e1];exact h.old b hb,by rw [e1];exact h.size,e2.trans h.os,e3.trans h.out⟩
theorem Fto.set (h:Fm tb cb x v) (y:Int):Fto tb cb y v (v.setCell ⟨cb,1,none⟩ (I y)) :=
 ⟨⟨by rw [World.cell?_of_block (Below.heap_setCell _ _ _ _ h.ne)];exact h.thr,h.ne,heap_setCell_same h.cel _⟩,fun b hb=>Below.heap_setCell _ _ _ _ hb,by simp [World.setCell],rfl,rfl⟩
theorem Fto.base (h:Fto tb cb x v v') (e1:v.heap=v''.heap) (e2:v.os=v''.os) (e3:v.output=v''.output):Fto tb cb x v'' v' :=
 ⟨h.fm,fun b hb=>by rw [←e1];exact h.old b hb,by rw [←e1];exact h.size,h.os.trans e2,h.out.trans e3⟩
end
section
variable {tb c c':Nat} {x y:Int} {v v' v'':World}
theorem Fto.stay (h:Fto tb c x v v') (m:Fm tb c x v):v'.heap=v.heap:=by
 apply Array.ext_getElem?
 intro b
 by_cases e:b=c
 ·rw [e,h.fm.cel,m.cel]
 ·exact h.old b e
theorem Fto.other (h:Fto tb c x v v') (m:Fm tb c' y v) (hne:c'≠c):Fm tb c' y v':=⟨h.fm.thr,m.ne,by rw [h.old c' hne];exact m.cel⟩
theorem Fto.cell (h:Fto tb c x v v') {b j:Nat} {u:Value} (hb:b≠c) (hc:v.cell? ⟨b,j,none⟩=some u):v'.cell? ⟨b,j,none⟩=some u:=by
 rw [World.cell?_of_block (w:=v) (w':=v') (h.old b hb)];exact hc
theorem Fto.then (h:Fto tb c x v v') (k:Fto tb c' y v' v'') (m:Fm tb c' y v'):Fto tb c x v v'':=h.same (k.stay m) k.os k.out
end
structure Ftg (cb:Nat) (y:Int) (v v':World):Prop where
 cel:v'.heap[cb]? = some (.cells #[I 0,I y] 158 (0,0))
 old:∀ b,b<v.heap.size→b≠cb→v'.heap[b]? = v.heap[b]?
 size:v.heap.size≤v'.heap.size
 os:v'.os=v.os
 out:v'.output=v.output
section
variable {Ch:Nat→Prop} {Stop:Goroutine→World→Prop} {main:Bool} {v w:World} {tb c cb sb s i:Nat} {kb:List Nat} {x:Int}
theorem Fm.grows {v':World} (m:Fm tb cb x v) (g:Grows v v'):Fm tb cb x v':=⟨gx_cell g m.thr,m.ne,by
 have hlt:cb<v.heap.size:=(Array.getElem?_eq_some_iff.1 m.cel).1
 rw [g.old cb hlt];exact m.cel⟩
end
structure Fcs (v:World) (c sb s:Nat) (kb:List Nat) (xs:List Int):Prop where
 ctr:Ctr v c sb s kb
 len:xs.length=s
 klen:kb.length=s
 cel:∀ (j cb:Nat) (x:Int),kb[j]? = some cb→xs[j]? = some x→v.heap[cb]? = some (.cells #[I 0,I x] 158 (0,0))
 nd:kb.Nodup
 csb:c≠sb
 ckb:∀ cb∈kb,cb≠c∧cb≠sb
structure Bl (B:Nat) (v v':World):Prop where
 old:∀ b,b<B→v'.heap[b]? = v.heap[b]?
 size:v.heap.size≤v'.heap.size
 os:v'.os=v.os
 out:v'.output=v.output
section
variable {B c sb s tb:Nat} {kb:List Nat} {xs:List Int} {v v' v'':World}
theorem Bl.trans (h:Bl B v v') (g:Bl B v' v''):Bl B v v'':=⟨fun b hb=>by rw [g.old b hb,h.old b hb],Nat.le_trans h.size g.size,g.os.trans h.os,g.out.trans h.out⟩
theorem Bl.refl:Bl B v v:=⟨fun _ _=>rfl,Nat.le_refl _,rfl,rfl⟩
theorem Bl.same (h:Bl B v v') (e1:v''.heap=v'.heap) (e2:v''.os=v'.os) (e3:v''.output=v'.output):Bl B v v'':=⟨fun b hb=>by rw [e1];exact h.old b hb,by rw [e1];exact h.size,e2.trans h.os,e3.trans h.out⟩
theorem Bl.grows (h:Bl v.heap.size v v'):Grows v v':=⟨h.size,h.old,h.os,h.out⟩
theorem Bl.cell (h:Bl B v v') {b j:Nat} {x:Value} (hb:b<B) (hx:v.cell? ⟨b,j,none⟩=some x):v'.cell? ⟨b,j,none⟩=some x:=by
 rw [World.cell?_of_block (w:=v) (w':=v') (h.old b hb)];exact hx
theorem Grows.bl (h:Grows v v') (hB:B≤v.heap.size):Bl B v v':=⟨fun b hb=>h.old b (by omega),h.size,h.os,h.output⟩
theorem Fcs.lt (h:Fcs v c sb s kb xs):c<v.heap.size∧sb<v.heap.size∧∀ cb∈kb,cb<v.heap.size:=by
 refine ⟨World.block_lt_of_cell? _ _ h.ctr.row,?_,fun cb hcb=>?_⟩
 ·obtain ⟨cb,_,e⟩:=h.ctr.cel 0 h.ctr.s0
  exact World.block_lt_of_cell? _ _ e
 ·obtain ⟨j,hj,e⟩:=List.getElem_of_mem hcb
  obtain ⟨x,hx⟩:∃ x,xs[j]? = some x:=⟨_,List.getElem?_eq_getElem (by rw [h.len,←h.klen];exact hj)⟩
  exact (Array.getElem?_eq_some_iff.1 (h.cel j cb x (by rw [List.getElem?_eq_getElem hj,e]) hx)).1
theorem Fcs.bl (h:Fcs v c sb s kb xs) (g:Bl v.heap.size v v'):Fcs v' c sb s kb xs:=by
 obtain ⟨l1,l2,l3⟩:=h.lt
 refine ⟨⟨g.cell l1 h.ctr.row,fun j hj=>?_,h.ctr.s0,h.ctr.s1⟩,h.len,h.klen,fun j cb x hc hx=>?_,h.nd,h.csb,h.ckb⟩
 ·obtain ⟨cb,e1,e2⟩:=h.ctr.cel j hj
  exact ⟨cb,e1,g.cell l2 e2⟩
 ·rw [g.old cb (l3 cb (List.mem_of_getElem? hc))];exact h.cel j cb x hc hx
theorem Fcs.fm (h:Fcs v c sb s kb xs) {j cb:Nat} {x:Int} (h1:kb[j]? = some cb) (h2:xs[j]? = some x) (ht:v.cell? ⟨tb,0,none⟩=some (.pointer none)):Fm tb cb x v:=⟨ht,fun e=>by
 have:=h.cel j cb x h1 h2
 rw [e,World.cell?,this] at ht
 simp at ht,h.cel j cb x h1 h2⟩
end
section
variable {Ch:Nat→Prop} {Stop:Goroutine→World→Prop} {main:Bool} {v w:World} {tb c cb sb s i nb fb k:Nat} {kb:List Nat} {xs:List Int} {x:Int}
end
section
variable {s:Nat} {X:Fix (mcC s)} {z:Nat→Option Nat} {cont:Addr→Value} {Ch:Nat→Prop} {Stop:Goroutine→World→Prop} {cu:Value→Goroutine} {S0:TS} {K0:List (Nat×Int)} {v0:World} {Mo0 Mo:Nat→Option Obj} {σ:TS} {κ:List (Nat×Int)} {S:TS} {v w:World} {t:Thr} {H:Nx→(Nat→Option Obj)→Goroutine→Prop} {c sb pb nb fb:Nat} {f:Frs} {l m:List Int}
theorem nx2_lt {l:List Int} {k:Nat} (hl:l.length=s) (hk:k<s):nx2 s (l.take k)=.turn 1 k (2,l.take k):=by
 have:(l.take k).length=k:=by rw [List.length_take];omega
 unfold nx2;rw [this,if_pos hk]
theorem nx2_eq {l:List Int} (hl:l.length=s):nx2 s (l.take s)=.turn 1 0 (3,l):=by
 unfold nx2;rw [List.take_of_length_le (by omega),if_neg (by omega)]
theorem nx3_lt {l m:List Int} {k:Nat} (hl:l.length=s) (hm:m.length=s) (hk:k<s):nx3 s (m++l.take k)=.turn 1 k (3,m++l.take k):=by
 have:(m++l.take k).length=s+k:=by rw [List.length_append,List.length_take];omega
 unfold nx3;rw [this,if_pos (by omega),Nat.add_sub_cancel_left]
theorem nx3_eq {l m:List Int} (hl:l.length=s) (hm:m.length=s):nx3 s (m++l.take s)=if m=l then .ans 0 (R1.totI l) else .turn 1 0 (2,[]):=by
 have:(m++l).length=2*s:=by rw [List.length_append];omega
 unfold nx3;rw [List.take_of_length_le (l:=l) (by omega),this,if_neg (by omega),List.take_left' hm,List.drop_left' hm]
theorem ct_look2 (hm:CMine s X c sb) (hoe:f.od[f.qd]? = some f.oe) (hB:CBack (X.h==0) pb (fun x:Int=>I x) (fun x=>(0,x)) f.cu cu) (hH:∀ x Mo' g,Good v0 Mo0 x Mo'→ctSit s X x Mo' cu g→H x Mo' g) (h3:Apart3 pb nb fb) (hl:l.length=s) (hml:m.length=s) {k:Nat} (hk:k<s) {a ak:Act} (hA:FS s c X.tb nb fb a) (hK:FK s c X.tb nb sb k ak)
 (hob:Ob X H z cont Ch Stop cu S0 K0 v0 Mo0 σ κ (.turn 1 k (2,l.take k))) (N:Now X z cont Ch S0 K0 v0 Mo0 (moS pb nb fb l m) σ κ S v w t) :
 GoesI Tryd.prog (X.h==0) (DT (ScZ z) Ch) Stop (G (kFr ak) (sOne a :: f.top :: f.fs)) w:=by
 obtain ⟨cb,hcb,hcc⟩:=(hm.mem v N.at_.pk).1.cel k hk
 have hK':FK s c t.tb nb sb k ak:=by rw [N.at_.tb];exact hK
 exact coll_look (h:=X.h) (i:=X.i) (k:=k) (cb:=cb) _ hk hcc hK' _ (H (.turn 1 k (2,l.take k)) (moS pb nb fb l m)) (fun g hg=>by
  obtain ⟨a1,hA1,hA2,hg⟩:=hg
  rw [N.at_.tb] at hA1 hg
  exact hH _ _ g (N.good (fun _ _ h=>by cases h)) ⟨c,sb,pb,f,hm,hoe,.inr ⟨hB,nb,fb,l,m,a,a1,k,cb,rfl,h3,hl,hml,hk,hcb,hA,hA1,hA2,.inl ⟨rfl,hg⟩⟩⟩) N.at_.rel N.at_.noRow N.at_.mem N.at_.thr (N.cell hcb).1 (by rw [N.at_.tb];exact N.at_.z) (by rw [N.at_.tb,N.at_.gc];exact N.at_.cont) (ob_turn hob N)
theorem ct_look3 (hm:CMine s X c sb) (hoe:f.od[f.qd]? = some f.oe) (hB:CBack (X.h==0) pb (fun x:Int=>I x) (fun x=>(0,x)) f.cu cu) (hH:∀ x Mo' g,Good v0 Mo0 x Mo'→ctSit s X x Mo' cu g→H x Mo' g) (h3:Apart3 pb nb fb) (hl:l.length=s) (hml:m.length=s) {k:Nat} (hk:k<s) {a ak:Act} (hA:FS s c X.tb nb fb a) (hK:FK s c X.tb nb sb k ak)
 (hob:Ob X H z cont Ch Stop cu S0 K0 v0 Mo0 σ κ (.turn 1 k (3,m++l.take k))) (N:Now X z cont Ch S0 K0 v0 Mo0 (moS pb nb fb l m) σ κ S v w t) :
 GoesI Tryd.prog (X.h==0) (DT (ScZ z) Ch) Stop (G (kFr ak) (sTwo a :: f.top :: f.fs)) w:=by
 obtain ⟨cb,hcb,hcc⟩:=(hm.mem v N.at_.pk).1.cel k hk
 have hK':FK s c t.tb nb sb k ak:=by rw [N.at_.tb];exact hK
 exact coll_look (h:=X.h) (i:=X.i) (k:=k) (cb:=cb) _ hk hcc hK' _ (H (.turn 1 k (3,m++l.take k)) (moS pb nb fb l m)) (fun g hg=>by
  obtain ⟨a1,hA1,hA2,hg⟩:=hg
  rw [N.at_.tb] at hA1 hg
  exact hH _ _ g (N.good (fun _ _ h=>by cases h)) ⟨c,sb,pb,f,hm,hoe,.inr ⟨hB,nb,fb,l,m,a,a1,k,cb,rfl,h3,hl,hml,hk,hcb,hA,hA1,hA2,.inr ⟨rfl,hg⟩⟩⟩) N.at_.rel N.at_.noRow N.at_.mem N.at_.thr (N.cell hcb).1 (by rw [N.at_.tb];exact N.at_.z) (by rw [N.at_.tb,N.at_.gc];exact N.at_.cont) (ob_turn hob N)
theorem ct_begin (hm:CMine s X c sb) (hoe:f.od[f.qd]? = some f.oe) (hB:CBack (X.h==0) pb (fun x:Int=>I x) (fun x=>(0,x)) f.cu cu) (hH:∀ x Mo' g,Good v0 Mo0 x Mo'→ctSit s X x Mo' cu g→H x Mo' g) (h3:Apart3 pb nb fb) (hl:l.length=s) (hml:m.length=s) {a:Act} (h0:0<s) (hA:FS s c X.tb nb fb a) (hob:Ob X H z cont Ch Stop cu S0 K0 v0 Mo0 σ κ (.turn 1 0 (2,[]))) (N:Now X z cont Ch S0 K0 v0 Mo0 (moS pb nb fb l m) σ κ S v w t) :
 GoesI Tryd.prog (X.h==0) (DT (ScZ z) Ch) Stop (G (sFr a) (f.top :: f.fs)) w :=
 sum_first (sb:=sb) (v:=v) hA _ (fun a1 hA1 code hcode=>coll_in (hm.mem v N.at_.pk).1.row _ N.at_.rel N.at_.noRow (fun ak v' w' hK r n e1 e2 e3=>ct_look2 (k:=0) hm hoe hB hH h3 hl hml h0 hA1 hK hob (N.same r n e1 e2 e3)) code hcode)
theorem ct_all3 (hm:CMine s X c sb) (hoe:f.od[f.qd]? = some f.oe) (hB:CBack (X.h==0) pb (fun x:Int=>I x) (fun x=>(0,x)) f.cu cu) (hH:∀ x Mo' g,Good v0 Mo0 x Mo'→ctSit s X x Mo' cu g→H x Mo' g) (h3:Apart3 pb nb fb) (hl:l.length=s) (hml:m.length=s) {k:Nat} (hk:k≤s) {a ak:Act} (hA:FS s c X.tb nb fb a) (hK:FK s c X.tb nb sb k ak)
 (hob:Ob X H z cont Ch Stop cu S0 K0 v0 Mo0 σ κ (nx3 s (m++l.take k))) (N:Now X z cont Ch S0 K0 v0 Mo0 (moS pb nb fb l m) σ κ S v w t) :
 GoesI Tryd.prog (X.h==0) (DT (ScZ z) Ch) Stop (G (kFr ak) (sTwo a :: f.top :: f.fs)) w:=by
 have hC:=(hm.mem v N.at_.pk).1
 by_cases hlt:k<s
 ·rw [nx3_lt hl hml hlt] at hob
  exact ct_look3 hm hoe hB hH h3 hl hml hlt hA hK hob N
 ·have e:k=s:=by omega
  subst e
  rw [nx3_eq hl hml] at hob
  refine coll_done (v:=v) rfl hK _ (bc:=base 57) (ac:=a) (ops:=ops574) (q:=3) (rest:=[]) (oc:=ops574.getD 3 default) (kk:=[.code (seq2 (seq2 (seq2 B57))),.inBlock 1,.inLoop L57,.inBlock 0]) (by rfl) N.at_.rel N.at_.noRow (fun w1 r1=>?_)
  have N1:=N.same r1 N.at_.noRow rfl rfl rfl
  refine sum_end (sb:=sb) (bc:=f.bd) (ac:=f.ad) (ops:=f.od) (q:=f.qd) (rest:=f.rd) (oc:=f.oe) (k:=f.kd) (nb:=nb) (fb:=fb) (v:=v) hA l m hC.s1 hl hml (hm.mem v N.at_.pk).2 (N.mo nb _ (moS_nb h3 l m)) (N.mo fb _ (moS_fb h3 l m)) f.fs hoe r1 N.at_.noRow (fun hml' v2 w2 r2 n2 g2=>?_) (fun hne a2 v2 w2 hA2 r2 n2 g2=>?_)
  ·rw [if_pos hml'] at hob
   exact ct_ans hB (R1.totI l) hob rfl (moS_pb _ _ _ _ _) (N1.on (N1.at_.mem.grows g2) r2 n2 N1.nv N1.at_.thr N1.at_.tb N1.at_.gc rfl)
  ·rw [if_neg hne] at hob
   exact ct_begin hm hoe hB hH h3 hl hml hC.s0 hA2 hob (N1.on (N1.at_.mem.grows g2) r2 n2 N1.nv N1.at_.thr N1.at_.tb N1.at_.gc rfl)
theorem ct_all2 (hm:CMine s X c sb) (hoe:f.od[f.qd]? = some f.oe) (hB:CBack (X.h==0) pb (fun x:Int=>I x) (fun x=>(0,x)) f.cu cu) (hH:∀ x Mo' g,Good v0 Mo0 x Mo'→ctSit s X x Mo' cu g→H x Mo' g) (h3:Apart3 pb nb fb) (hl:l.length=s) (hml:m.length=s) (hpk:X.pk fb=none) {k:Nat} (hk:k≤s) {a ak:Act} (hA:FS s c X.tb nb fb a) (hK:FK s c X.tb nb sb k ak)
 (hob:Ob X H z cont Ch Stop cu S0 K0 v0 Mo0 σ κ (nx2 s (l.take k))) (N:Now X z cont Ch S0 K0 v0 Mo0 (moS pb nb fb l m) σ κ S v w t) :
 GoesI Tryd.prog (X.h==0) (DT (ScZ z) Ch) Stop (G (kFr ak) (sOne a :: f.top :: f.fs)) w:=by
 have hC:=(hm.mem v N.at_.pk).1
 by_cases hlt:k<s
 ·rw [nx2_lt hl hlt] at hob
  exact ct_look2 hm hoe hB hH h3 hl hml hlt hA hK hob N
 ·have e:k=s:=by omega
  subst e
  rw [nx2_eq hl] at hob
  refine coll_done (v:=v) rfl hK _ (bc:=base 57) (ac:=a) (ops:=ops572) (q:=3) (rest:=[]) (oc:=ops572.getD 3 default) (kk:=[.code (seq2 B57),.inBlock 1,.inLoop L57,.inBlock 0]) (by rfl) N.at_.rel N.at_.noRow (fun w1 r1=>?_)
  have N1:=N.same r1 N.at_.noRow rfl rfl rfl
  refine sum_mid (sb:=sb) (nb:=nb) (fb:=fb) (v:=v) hA l m hl hml (N.mo nb _ (moS_nb h3 l m)) (N.mo fb _ (moS_fb h3 l m)) _ r1 N.at_.noRow (fun a2 w2 hA2 r2 n2 code hcode=>?_)
  have hfb:=N.mo fb _ (moS_fb h3 l m)
  have oth:∀ b,b≠fb→(v.setRow fb (l.map I).toArray).heap[b]? = v.heap[b]?:=fun b hb=>setRow_other v fb b _ hb
  have N2:Now X z cont Ch S0 K0 v0 Mo0 (moS pb nb fb l l) σ κ S (v.setRow fb (l.map I).toArray) w2 t :=
   N1.write (B:=fb) (by rw [moS_fb h3];simp) hpk r2 n2 oth (by simp [World.setRow]) rfl rfl (fun b hb=>moS_dom hb) (moS_has h3 (by rw [oth pb h3.pf];exact N.mo pb _ (moS_pb _ _ _ _ _)) (by rw [oth nb h3.nf];exact N.mo nb _ (moS_nb h3 l m)) (setRow_rowI hfb l)) (moS_row _ _ _ _ _)
  exact coll_in (hm.mem _ N2.at_.pk).1.row _ N2.at_.rel N2.at_.noRow (fun ak v' w' hK r n e1 e2 e3=>ct_look3 (k:=0) hm hoe hB hH h3 hl hl hC.s0 hA2 hK (by rw [List.take_zero,List.append_nil];exact hob) (N2.same r n e1 e2 e3)) code hcode
end
section
variable {s:Nat} {X:Fix (mcC s)} {z:Nat→Option Nat} {cont:Addr→Value} {Ch:Nat→Prop} {K:List (Nat×Int)} {S:TS} {v w v' w':World} {t:Thr}
theorem now_box (A:At X z cont Ch S K v w t) (hr:Rel z v' w') (hn:NoRow Ch v') (hg:Grows v v') (hbox:v'.heap[v.heap.size+1]? = some (.cells #[I 0,I 0] 38 (0,0))):Now X z cont Ch S K v (fun _=>none) (boxO (v.heap.size+1)) (Gen.nv S) K S v' w' t:=by
 have hlt:v.heap.size+1<v'.heap.size:=(Array.getElem?_eq_some_iff.1 hbox).1
 refine ⟨⟨hr,hn,(A.mem.grows hg).mem,A.thr,A.tb,A.gc,A.kb,A.z,A.cont,fun b o hb=>?_,A.far⟩,Evo.toP (A.mem.grows hg),rfl,rfl,fun b o hb=>?_,fun b hb ho=>?_,fun b hb=>?_,boxO_row _⟩
 ·have h1:=A.pk b o hb
  rw [hg.old b (Array.getElem?_eq_some_iff.1 h1).1];exact h1
 ·have e:=boxO_eq (pb:=v.heap.size+1) (b:=b) (by rw [hb];simp)
  subst e
  rw [boxO_at] at hb
  cases hb
  exact hbox
 ·have e:=boxO_eq hb
  have:=A.mem.lt ho
  omega
 ·have e:=boxO_eq hb
  exact .inr (by omega)
end
theorem rowI_len {v:World} {b:Nat} {l:List Int} (h:v.heap[b]? = some (rowI l)) {k:Nat} (hk:k<l.length):∃ y,v.cell? ⟨b,k,none⟩=some (I y):=⟨_,rowI_cell h (List.getElem?_eq_getElem hk)⟩
theorem take_set {l:List Int} {k:Nat} (x:Int) (hk:k<l.length):(l.set k x).take (k+1)=l.take k++[x]:=by
 rw [List.take_add_one,List.take_set_of_le (Nat.le_refl _),List.getElem?_set_self hk]
 rfl
noncomputable def pkgC (s:Nat):Pkg (mcC s) 86 where
 fn:=Tryd.f86
 code:=Tryd.f86.body.getD .skip
 hf:=Tryd.func86
 hname:=by kernel_rfl
 hcode:=rfl
 Mine X:=∃ c sb,CMine s X c sb
 Sit:=ctSit s
 start:=by
  rintro X ok ⟨c,sb,hm⟩ hfid c' hc cs bc ac ops q rest oc k hoc H z cont Ch Stop S K v w t A hH hob
  rw [hm.caps]
  show GoesI Tryd.prog (X.h==0) (DT (ScZ z) Ch) Stop (G ((base 86).at { tmps:=#[Pt c 0,Pt X.tb 0,.agg #[I c'.po,I c'.ca,I c'.cb,I c'.cc]]++Array.replicate 22 undef,defers:=[] } [.code (Tryd.f86.body.getD .skip)]) (bc.at ac (.inRegion ops (q :: rest) :: k) :: cs)) w
  by_cases h1:c'.po=1
  ·have es:(mcC s).start X.i c'=.turn 1 (X.i % s) (0,[((X.i % s:Nat):Int),c'.ca.tmod 1000]):=by simp [mcC,h1]
   rw [es] at hob
   rw [h1]
   refine call_add c'.ca c'.cb c'.cc cs hoc A.rel A.noRow (fun v' w' bd ad od qd rd oe kd r n g hbox hoe hB code hcode=>?_) _ rfl
   have N:=now_box A r n g hbox
   have hC:=(hm.mem v' N.at_.pk).1
   obtain ⟨cb,hcb,_⟩:=hC.cel (X.i % s) (Nat.mod_lt _ hC.s0)
   refine add_in (kb:=X.kb) (i:=X.i) (cb:=cb) _ hC (by rw [←N.at_.tb];exact (N.at_.mem.rep.cell N.at_.thr).2.1) hcb _ r n (fun a v2 w2 hA r2 n2 e1 e2 e3=>?_) code hcode
   exact ct_add (f:=⟨bd,ad,od,qd,rd,oe,kd,bc.at ac (.inRegion ops (q :: rest) :: k) :: cs⟩) hm hoe hB hH hcb hA hob (N.same r2 n2 e1 e2 e3)
  ·by_cases h2:c'.po=2
   ·have es:(mcC s).start X.i c'=.turn 1 0 (2,[]):=by simp [mcC,h2]
    rw [es] at hob
    rw [h2]
    refine call_sum c'.ca c'.cb c'.cc cs hoc A.rel A.noRow (fun v' w' bd ad od qd rd oe kd r n g hbox hoe hB code hcode=>?_) _ rfl
    have N:=now_box A r n g hbox
    have hC:=(hm.mem v' N.at_.pk).1
    have hlt:v.heap.size+1<v'.heap.size:=(Array.getElem?_eq_some_iff.1 hbox).1
    refine sum_in hC.s1 hC.row _ r n (fun a v2 w2 nb fb hA hb r2 n2 e1 e2 e3=>?_) code hcode
    have hg2:Grows v' v2:=⟨by rw [e1];simp;omega,fun b hb=>by rw [e1,Array.getElem?_push,if_neg (by simp;omega),Array.getElem?_push,if_neg (by omega)],e2,e3⟩
    have h3:Apart3 (v.heap.size+1) nb fb:=by rcases hb with ⟨rfl,rfl⟩|⟨rfl,rfl⟩<;>exact ⟨by omega,by omega,by omega⟩
    have r0:v2.heap[v'.heap.size]? = some (rowI (List.replicate s 0)):=by rw [e1,Array.getElem?_push,if_neg (by simp)];exact Array.getElem?_push_size
    have r1:v2.heap[v'.heap.size+1]? = some (rowI (List.replicate s 0)):=by rw [e1,Array.getElem?_push,if_pos (by simp)]
    have hnb:v2.heap[nb]? = some (rowI (List.replicate s 0)):=by rcases hb with ⟨rfl,rfl⟩|⟨rfl,rfl⟩<;>assumption
    have hfb:v2.heap[fb]? = some (rowI (List.replicate s 0)):=by rcases hb with ⟨rfl,rfl⟩|⟨rfl,rfl⟩<;>assumption
    have N2:Now X z cont Ch S K v (fun _=>none) (moS (v.heap.size+1) nb fb (List.replicate s 0) (List.replicate s 0)) (Gen.nv S) K S v2 w2 t :=
     N.more hg2 r2 n2 (fun b hb'=>by
      rcases moS_in hb' with rfl|rfl|rfl
      ·left;rw [boxO_at];simp
      ·right;rcases hb with ⟨rfl,rfl⟩|⟨rfl,rfl⟩<;>omega
      ·right;rcases hb with ⟨rfl,rfl⟩|⟨rfl,rfl⟩<;>omega) (moS_has h3 (by rw [hg2.old _ hlt];exact hbox) hnb hfb) (moS_row _ _ _ _ _)
    exact ct_begin (f:=⟨bd,ad,od,qd,rd,oe,kd,bc.at ac (.inRegion ops (q :: rest) :: k) :: cs⟩) hm hoe hB hH h3 (by simp) (by simp) hC.s0 hA hob N2
   ·have es:(mcC s).start X.i c'=.ans 1 0:=by simp [mcC,h1,h2]
    rw [es] at hob
    exact call_none c'.ca c'.cb c'.cc cs hoc A.rel A.noRow c'.po h1 h2 (fun v' w' r n g _=>hob.ans (1,0) (.inl rfl) v' w' S r n rfl (Evo.toP (A.mem.grows g))) _ rfl
 turn:=by
  rintro X ok - hfid op j q Mo cu g ⟨c,sb,pb,f,hm,hoe,hsit⟩ H z cont Ch Stop y S K v w t A hH hop hce hl hMo hMf hMp hob
  rcases hsit with ⟨hB,rfl,n,cb,a,hcb,hA,⟨hx,hg⟩|⟨y0,hx,hg⟩⟩|⟨hB,nb,fb,l,m,a,ak,k,cb,rfl,h3,hll,hml,hk,hcb,hA,hK,hK2,⟨hx,hg⟩|⟨hx,hg⟩⟩
  ·cases hx
   have N0:=Now.here A hMo hMf (boxO_row pb)
   have hc:=N0.cell hcb
   refine hg z Ch Stop y w v S K t (cellAt K (X.i % s)).2 A.rel A.noRow A.mem A.thr A.tb hop hce hc.1 hl (fun v1 w1 tv r1 n1 e1=>?_)
   have sd:=sta_did (i:=X.i) S tv t (cellAt K (X.i % s)).2 (cellAt K (X.i % s)).2
   have N1:=N0.on e1 r1 n1 (nv_did tv t _ _) (did_thr A.thr) A.tb A.gc sd.bk
   have e2:(cellAt K (X.i % s)).1=cb:=by rw [hc.2]
   rw [e2] at hob
   exact ct_aseen hm hoe hB hH hcb hA (cellAt K (X.i % s)).2 hob N1
  ·cases hx
   have N0:=Now.here A hMo hMf (boxO_row pb)
   have hc:=N0.cell hcb
   refine hg z Ch Stop y w v S K t (cellAt K (X.i % s)).2 A.rel A.noRow A.mem A.thr A.tb hop hce hc.1 hl (fun v1 w1 tv r1 n1 e1=>?_)
   have sd:=sta_did (i:=X.i) S tv t (effCas y0 (R1.addI y0 n) (cellAt K (X.i % s)).2).1.1 (effCas y0 (R1.addI y0 n) (cellAt K (X.i % s)).2).1.2
   have N1:=N0.on e1 r1 n1 (nv_did tv t _ _) (did_thr A.thr) A.tb A.gc sd.bk
   have e2:(cellAt K (X.i % s)).1=cb:=by rw [hc.2]
   rw [e2] at hob
   have hob:Ob X H z cont Ch Stop cu S K v (boxO pb) (didS (Gen.nv S) undef X.i t (effCas y0 (R1.addI y0 n) (cellAt K (X.i % s)).2).1.1 (effCas y0 (R1.addI y0 n) (cellAt K (X.i % s)).2).1.2) (K.set (X.i % s) (cb,(effCas y0 (R1.addI y0 n) (cellAt K (X.i % s)).2).2.1)) (if (cellAt K (X.i % s)).2=y0 then .ans 0 0 else .turn 1 (X.i % s) (0,[((X.i % s:Nat):Int),n])):=hob
   by_cases hx:(cellAt K (X.i % s)).2=y0
   ·rw [if_pos hx] at hob
    rw [show (effCas y0 (R1.addI y0 n) (cellAt K (X.i % s)).2).2.2=.bool true by unfold effCas;rw [if_pos hx]]
    exact add_won (bc:=f.bd) (ac:=f.ad) (ops:=f.od) (q:=f.qd) (rest:=f.rd) (oc:=f.oe) (k:=f.kd) hA f.fs hoe r1 n1 (fun w2 r2=>ct_ans hB () hob rfl (boxO_at pb) (N1.same r2 n1 rfl rfl rfl))
   ·rw [if_neg hx] at hob
    rw [show (effCas y0 (R1.addI y0 n) (cellAt K (X.i % s)).2).2.2=.bool false by unfold effCas;rw [if_neg hx]]
    exact add_again hA _ (fun a hA=>ct_add hm hoe hB hH hcb hA hob N1)
  ·cases hx
   have N0:=Now.here A hMo hMf (moS_row pb nb fb l m)
   have hc:=N0.cell hcb
   refine hg z Ch Stop y w v S K t (cellAt K j).2 A.rel A.noRow A.mem A.thr A.tb hop hce hc.1 hl (fun v1 w1 tv r1 n1 e1=>?_)
   have sd:=sta_did (i:=X.i) S tv t (cellAt K j).2 (cellAt K j).2
   have N1:=N0.on e1 r1 n1 (nv_did tv t _ _) (did_thr A.thr) A.tb A.gc sd.bk
   have e2:(cellAt K j).1=cb:=by rw [hc.2]
   rw [e2] at hob
   have hpk:∀ b,moS pb nb fb l m b≠none→X.pk b=none:=fun b hb=>Classical.byContradiction fun h=>hMp b hb (.inr (.inr (.inr h)))
   have hnb:=N1.mo nb _ (moS_nb h3 l m)
   obtain ⟨y1,hy1⟩:=rowI_len hnb (k:=j) (by omega)
   refine coll_put (cellAt K j).2 y1 hk (hm.mem v1 N1.at_.pk).1.s1 hy1 (rowI_froz hnb j) hK hK2 _ r1 n1 (fun a2 w2 hK' r2 n2=>?_)
   have oth:∀ b,b≠nb→(v1.setCell ⟨nb,j,none⟩ (I (cellAt K j).2)).heap[b]? = v1.heap[b]?:=fun b hb=>Below.heap_setCell _ _ _ _ hb
   have N2:Now X z cont Ch S K v (moS pb nb fb l m) (moS pb nb fb (l.set j (cellAt K j).2) m) _ _ _ (v1.setCell ⟨nb,j,none⟩ (I (cellAt K j).2)) w2 _ :=
    N1.write (B:=nb) (by rw [moS_nb h3];simp) (hpk nb (by rw [moS_nb h3];simp)) r2 n2 oth (by simp [World.setCell]) rfl rfl (fun b hb=>moS_dom hb) (moS_has h3 (by rw [oth pb h3.pn];exact N1.mo pb _ (moS_pb _ _ _ _ _)) (rowI_set hnb j _) (by rw [oth fb (fun e=>h3.nf e.symm)];exact N1.mo fb _ (moS_fb h3 l m))) (moS_row _ _ _ _ _)
   refine ct_all2 hm hoe hB hH h3 (by rw [List.length_set];exact hll) hml (hpk fb (by rw [moS_fb h3];simp)) (k:=j+1) (by omega) hA hK' ?_ N2
   rw [take_set _ (by omega)]
   exact hob
  ·cases hx
   have N0:=Now.here A hMo hMf (moS_row pb nb fb l m)
   have hc:=N0.cell hcb
   refine hg z Ch Stop y w v S K t (cellAt K j).2 A.rel A.noRow A.mem A.thr A.tb hop hce hc.1 hl (fun v1 w1 tv r1 n1 e1=>?_)
   have sd:=sta_did (i:=X.i) S tv t (cellAt K j).2 (cellAt K j).2
   have N1:=N0.on e1 r1 n1 (nv_did tv t _ _) (did_thr A.thr) A.tb A.gc sd.bk
   have e2:(cellAt K j).1=cb:=by rw [hc.2]
   rw [e2] at hob
   have hpk:∀ b,moS pb nb fb l m b≠none→X.pk b=none:=fun b hb=>Classical.byContradiction fun h=>hMp b hb (.inr (.inr (.inr h)))
   have hnb:=N1.mo nb _ (moS_nb h3 l m)
   obtain ⟨y1,hy1⟩:=rowI_len hnb (k:=j) (by omega)
   refine coll_put (cellAt K j).2 y1 hk (hm.mem v1 N1.at_.pk).1.s1 hy1 (rowI_froz hnb j) hK hK2 _ r1 n1 (fun a2 w2 hK' r2 n2=>?_)
   have oth:∀ b,b≠nb→(v1.setCell ⟨nb,j,none⟩ (I (cellAt K j).2)).heap[b]? = v1.heap[b]?:=fun b hb=>Below.heap_setCell _ _ _ _ hb
   have N2:Now X z cont Ch S K v (moS pb nb fb l m) (moS pb nb fb (l.set j (cellAt K j).2) m) _ _ _ (v1.setCell ⟨nb,j,none⟩ (I (cellAt K j).2)) w2 _ :=
    N1.write (B:=nb) (by rw [moS_nb h3];simp) (hpk nb (by rw [moS_nb h3];simp)) r2 n2 oth (by simp [World.setCell]) rfl rfl (fun b hb=>moS_dom hb) (moS_has h3 (by rw [oth pb h3.pn];exact N1.mo pb _ (moS_pb _ _ _ _ _)) (rowI_set hnb j _) (by rw [oth fb (fun e=>h3.nf e.symm)];exact N1.mo fb _ (moS_fb h3 l m))) (moS_row _ _ _ _ _)
   refine ct_all3 hm hoe hB hH h3 (by rw [List.length_set];exact hll) hml (k:=j+1) (by omega) hA hK' ?_ N2
   rw [take_set _ (by omega),←List.append_assoc]
   exact hob
 wake:=by
  rintro X ok - hfid j q Mo cu g ⟨c,sb,pb,f,hm,hoe,hsit⟩
  rcases hsit with ⟨hB,rfl,n,cb,a,hcb,hA,⟨hx,hg⟩|⟨y0,hx,hg⟩⟩|⟨hB,nb,fb,l,m,a,ak,k,cb,rfl,h3,hll,hml,hk,hcb,hA,hK,hK2,⟨hx,hg⟩|⟨hx,hg⟩⟩<;>cases hx
section
variable {v u u':World} {S S1:TS} {K:List (Nat×Int)} {xs:List Int} {pk:Nat→Option Obj}
theorem Objs.set (h:Objs v S xs pk S1 K u) {b:Nat} {o o':Obj} (hb:pk b=some o) (hvb:v.heap.size≤b) (hw:∀ x,x≠b→u'.heap[x]? = u.heap[x]?) (hn:u'.heap[b]? = some o') (hs:u'.heap.size=u.heap.size) (e1:u'.os=u.os) (e2:u'.output=u.output) (hr:∃ c e f,o'=.cells c e f):Objs v S xs (padd pk b o') S1 K u':=by
 have ho:=(h.new b (by rw [hb];simp)).2
 have em:=h.cel.mem.other (v':=u') ho hw hs e1 e2
 refine ⟨⟨em.mem,⟨e1.trans h.cel.fr.os,e2.trans h.cel.fr.output,by rw [hs];exact h.cel.fr.size,fun x hx hn=>by rw [hw x (by omega)];exact h.cel.fr.block x hx hn⟩,h.cel.own⟩,h.vals,h.st,fun x y hx=>?_,fun x hx=>?_,fun x y hx=>?_⟩
 ·by_cases e:x=b
  ·subst e;rw [padd_at] at hx;cases hx;exact hn
  ·rw [padd_ne e] at hx;rw [hw x e];exact h.has x y hx
 ·by_cases e:x=b
  ·subst e;exact h.new x (by rw [hb];simp)
  ·rw [padd_ne e] at hx;exact h.new x hx
 ·by_cases e:x=b
  ·subst e;rw [padd_at] at hx;cases hx;exact hr
  ·rw [padd_ne e] at hx;exact h.row x y hx
end
theorem padd_padd (pk:Nat→Option Obj) (b:Nat) (o o':Obj):padd (padd pk b o) b o'=padd pk b o':=by
 funext x;unfold padd;split<;>rfl
theorem padd_comm {pk:Nat→Option Obj} {b c:Nat} (h:b≠c) (o o':Obj):padd (padd pk b o) c o'=padd (padd pk c o') b o:=by
 funext x
 unfold padd
 by_cases h1:x=c
 ·subst h1
  rw [if_pos rfl,if_neg (fun e=>h e.symm),if_pos rfl]
 ·by_cases h2:x=b
  ·subst h2
   rw [if_neg h1,if_pos rfl,if_pos rfl]
  ·rw [if_neg h1,if_neg h2,if_neg h2,if_neg h1]
theorem info102:(Tryd.prog.info? 116).map (fun i=>(i.zero,i.size,i.bytes))=some (some (.pointer none),1,8):=by kernel_rfl
theorem make_ptrs (n:Nat) (hn:n≤1048576) (w:World) :
 (Instr.makeSlice 136 (.int .i64 (n:Int)) (.int .i64 (n:Int))).run Tryd.prog w=.ok (.slice (some ⟨w.heap.size,0,none⟩) n n) (w.alloc (.cells (madeCells #[.pointer none] n) 116)):=by
 cases hq:Tryd.prog.info? 116 with
 |none=>have:=info102;rw [hq] at this;cases this
 |some i =>
  have hi:=info102
  rw [hq] at hi
  simp only [Option.map_some,Option.some.injEq,Prod.mk.injEq] at hi
  obtain ⟨hz,hs,hb⟩:=hi
  have:=run_make (P:=Tryd.prog) w 136 116 i _ Tryd.underlying136 hq hz .i64 .i64 (n:Int) (n:Int) (by omega) (by omega) (by rw [hb];omega) (by omega)
  rw [hs] at this
  rw [this]
  simp [Value.cells]
def rowP (s:Nat) (K:List (Nat×Int)):List Value:=(List.range s).map fun j=>match K[j]? with|some c=>Pt c.1 0|none=>.pointer none
def objP (s:Nat) (K:List (Nat×Int)):Obj:=.cells (rowP s K).toArray 116 (0,0)
theorem made_rowP (s:Nat):(.cells (madeCells #[.pointer none] s) 116:Obj)=objP s []:=by
 unfold objP rowP
 congr 1
 apply Array.ext_getElem?
 intro i
 by_cases h:i<s
 ·simp [madeCells,h,Nat.mod_one]
 ·simp [madeCells,h]
theorem rowP_next {s:Nat} {K:List (Nat×Int)} (c:Nat×Int) (hK:K.length<s):(rowP s K).toArray.setIfInBounds K.length (Pt c.1 0)=(rowP s (K++[c])).toArray:=by
 apply Array.ext_getElem?
 intro i
 unfold rowP
 rw [Array.getElem?_setIfInBounds]
 by_cases h:K.length=i
 ·subst h
  simp [hK]
 ·rw [if_neg h]
  by_cases hi:i<s
  ·by_cases hlt:i<K.length
   ·have e2:(K++[c])[i]? = K[i]?:=List.getElem?_append_left hlt
    simp [hi,e2]
   ·have h1:K[i]? = none:=List.getElem?_eq_none (by omega)
    have h2:(K++[c])[i]? = none:=List.getElem?_eq_none (by simp;omega)
    simp [hi,h1,h2]
  ·simp [hi]
theorem objP_at {s k:Nat} {K:List (Nat×Int)} {w:World} {N:Nat} (h:w.heap[N]? = some (objP s K)) (hK:K.length=k) (hk:k<s):w.cell? ⟨N,k,none⟩=some (.pointer none)∧w.frozen? ⟨N,k,none⟩=false:=by
 constructor
 ·refine cell_of h ?_
  unfold rowP
  have:K[k]? = none:=List.getElem?_eq_none (by omega)
  simp [hk,this]
 ·simp only [World.frozen?,h,objP]
  simp
noncomputable def pkN (pk0:Nat→Option Obj) (s N:Nat) (K:List (Nat×Int)):Nat→Option Obj:=padd (padd pk0 (N+1) (.cells #[.slice (some ⟨N,0,none⟩) s s] 138 (0,0))) N (objP s K)
theorem body54 {v:World} {S:TS} {pk0:Nat→Option Obj} (hO:Objs v S [] pk0 S [] v) (hlt:∀ b,pk0 b≠none→b<v.heap.size) (s:Nat) (h0:0<s) (h1:s≤16):Body Tryd.f54 #[Pt S.wb 0,I s] v (fun r v'=>r=Pt (v.heap.size+1) 0∧∃ S1 K,K.length=s∧Objs v S (List.replicate s 0) (pkN pk0 s v.heap.size K) S1 K v'):=by
 intro code hb
 obtain rfl:=Option.some.inj hb
 clear hb
 have hmk:=make_ptrs s (by omega)
 rw [made_rowP] at hmk
 have hmx:(Builtin.max_ #[3,3] 3 #[I s,I 1])=pure (I s):=by
  show (pure (Value.int .i64 (if (1:Int) > s then 1 else s)):Sem Value)=_
  rw [if_neg (by omega)]
 have hmn:(Builtin.min_ #[3,3] 3 #[I s,I 16])=pure (I s):=by
  show (pure (Value.int .i64 (if (16:Int)<s then 16 else s)):Sem Value)=_
  rw [if_neg (by omega)]
 have HO:Hid (Objs v S [] pk0 S [] v):=⟨hO⟩
 have HL:Hid (∀ b,pk0 b≠none→b<v.heap.size):=⟨hlt⟩
 clear hO hlt
 simp only [Tryd.ntmps54,List.size_toArray,List.length_cons,List.length_nil,Nat.reduceAdd,Nat.reduceSub,Array.replicate_succ,Array.replicate_zero,List.push_toArray,List.append_toArray,List.nil_append,List.cons_append]
 go_wp2_with fail
 go_loopw [18] (fun i u=>∃ (k:Nat) (K:List (Nat×Int)) (S1:TS),k≤s∧i=.int .i64 k∧K.length=k∧Objs v S (List.replicate k 0) (pkN pk0 s v.heap.size K) S1 K u) (fun i _=>s - (intOf i).toNat)
 case atStart =>
  refine ⟨0,[],S,Nat.zero_le _,rfl,rfl,?_⟩
  have o1:=HO.out.push (u':=v.alloc (objP s [])) (c:=(rowP s []).toArray) (t:=116) rfl rfl rfl
  have o2:=o1.push (u':=(v.alloc (objP s [])).alloc (.cells #[.slice (some ⟨v.heap.size,0,none⟩) s s] 138)) (c:=#[.slice (some ⟨v.heap.size,0,none⟩) s s]) (t:=138) rfl rfl rfl
  have hsz:(v.alloc (objP s [])).heap.size=v.heap.size+1:=by simp
  rw [hsz,padd_comm (by omega)] at o2
  exact o2
 case round =>
  obtain ⟨k,K,S1,hk,rfl,hK,hO⟩:=hrel
  have HOB:Hid (Objs v S (List.replicate k 0) (pkN pk0 s v.heap.size K) S1 K wr):=⟨hO⟩
  by_cases hlt:k<s
  ·have hN:=hO.has v.heap.size (objP s K) (by unfold pkN;rw [padd_at])
   have hN1:=hO.has (v.heap.size+1) (.cells #[.slice (some ⟨v.heap.size,0,none⟩) s s] 138 (0,0)) (by unfold pkN;rw [padd_ne (by omega),padd_at])
   have c1:wr.cell? ⟨v.heap.size+1,0,none⟩=some (.slice (some ⟨v.heap.size,0,none⟩) s s):=cell_of hN1 rfl
   have hks:(k:Int)<(s:Int):=by omega
   clear hO hN hN1
   generalize hNN:v.heap.size=N at HOB c1
   go_wp2_with fail
   go_region_held3 (fun u=>u.cell? ⟨N+1,0,none⟩=some (.slice (some ⟨N,0,none⟩) s s))
    (first|assumption|(simp [go_sem, *];done))
    (first
      |(go_at_call 70;refine ((HOB.out.same (u':=wr.drew) rfl rfl rfl).cell 0 (by rw [List.length_replicate];omega)).mono ?_;rintro e w1 ⟨cb,rfl,hs1,S2,o2⟩
        have HO2:Hid (Objs v S (List.replicate k 0++[0]) (pkN pk0 s N K) S2 (K++[(cb,0)]) w1):=⟨o2⟩
        have hN:=o2.has N (objP s K) (by unfold pkN;rw [padd_at])
        have hN1:=o2.has (N+1) (.cells #[.slice (some ⟨N,0,none⟩) s s] 138 (0,0)) (by unfold pkN;rw [padd_ne (by omega),padd_at])
        have c2:w1.cell? ⟨N+1,0,none⟩=some (.slice (some ⟨N,0,none⟩) s s):=cell_of hN1 rfl
        obtain ⟨c3,c4⟩:=objP_at hN hK hlt
        have HN:Hid (w1.heap[N]? = some (objP s K)):=⟨hN⟩
        clear o2 hN hN1))
   go_wp2_with fail
   go_roundw
   case rel =>
    refine ⟨k+1,K++[(cb,0)],S2,by omega,by go_num,by rw [List.length_append,hK];rfl,?_⟩
    have oth:∀ b,b≠N→(w1.setCell ⟨N,k,none⟩ (.pointer (some ⟨cb,0,none⟩))).heap[b]? = w1.heap[b]?:=fun b hb=>Below.heap_setCell _ _ _ _ hb
    have hrow:(w1.setCell ⟨N,k,none⟩ (.pointer (some ⟨cb,0,none⟩))).heap[N]? = some (objP s (K++[(cb,0)])):=by
     have:=heap_setCell_same (o:=k) (show w1.heap[N]? = some (.cells (rowP s K).toArray 116 (0,0)) from HN.out) (Pt cb 0)
     rw [←hK,rowP_next (cb,0) (by omega)] at this
     rw [←hK]
     exact this
    have o3:=HO2.out.set (b:=N) (o:=objP s K) (o':=objP s (K++[(cb,0)])) (by unfold pkN;rw [padd_at]) (by omega) oth hrow (by simp [World.setCell]) rfl rfl ⟨_,_,_,rfl⟩
    rw [List.replicate_succ']
    unfold pkN at o3 ⊢
    rw [padd_padd] at o3
    exact o3
   case measure=>simp [intOf];omega
  ·have:k=s:=by omega
   subst this
   go_wp2_with fail
   go_ret
   exact ⟨_,rfl,rfl,S1,K,hK,HOB.out⟩
def kbN (N k:Nat):List (Nat×Int):=(List.range k).map fun j=>(N+2+j,0)
theorem kbN_len (N k:Nat):(kbN N k).length=k:=by simp [kbN]
theorem kbN_succ (N k:Nat):kbN N (k+1)=kbN N k++[(N+2+k,0)]:=by simp [kbN,List.range_succ]
structure NwC (v:World) (s N k:Nat) (u:World):Prop where
 row:u.heap[N]? = some (objP s (kbN N k))
 ctr:u.heap[N+1]? = some (.cells #[.slice (some ⟨N,0,none⟩) s s] 138 (0,0))
 cel:∀ j,j<k→u.heap[N+2+j]? = some (.cells #[I 0,I 0] 158 (0,0))
 size:u.heap.size=N+2+k
 old:∀ b,b<N→u.heap[b]? = v.heap[b]?
 os:u.os=v.os
 out:u.output=v.output
theorem NwC.same {v u u':World} {s N k:Nat} (h:NwC v s N k u) (e1:u'.heap=u.heap) (e2:u'.os=u.os) (e3:u'.output=u.output):NwC v s N k u' :=
 ⟨by rw [e1];exact h.row,by rw [e1];exact h.ctr,fun j hj=>by rw [e1];exact h.cel j hj,by rw [e1];exact h.size,fun b hb=>by rw [e1];exact h.old b hb,e2.trans h.os,e3.trans h.out⟩
theorem NwC.next {v u u':World} {s N k:Nat} (h:NwC v s N k u) (hk:k<s) (e1:u'.heap=u.heap.push (.cells #[I 0,I 0] 158 (0,0))) (e2:u'.os=u.os) (e3:u'.output=u.output):NwC v s N (k+1) (u'.setCell ⟨N,k,none⟩ (Pt u.heap.size 0)):=by
 have oth:∀ b,b≠N→(u'.setCell ⟨N,k,none⟩ (Pt u.heap.size 0)).heap[b]? = u'.heap[b]?:=fun b hb=>Below.heap_setCell _ _ _ _ hb
 have at_:∀ b,b<u.heap.size→u'.heap[b]? = u.heap[b]?:=fun b hb=>by rw [e1,Array.getElem?_push,if_neg (by omega)]
 have hs:=h.size
 refine ⟨?_,?_,fun j hj=>?_,?_,fun b hb=>?_,?_,?_⟩
 ·have h0:u'.heap[N]? = some (.cells (rowP s (kbN N k)).toArray 116 (0,0)):=by rw [at_ N (by omega)];exact h.row
  have:=heap_setCell_same (o:=k) h0 (Pt u.heap.size 0)
  rw [this]
  have h1:=rowP_next (s:=s) (K:=kbN N k) (N+2+k,0) (by rw [kbN_len];exact hk)
  rw [kbN_len] at h1
  rw [hs,h1,←kbN_succ]
  rfl
 ·rw [oth _ (by omega),at_ _ (by omega)];exact h.ctr
 ·rw [oth _ (by omega)]
  by_cases e:j=k
  ·subst e
   rw [e1,←hs,Array.getElem?_push_size]
  ·rw [at_ _ (by omega)];exact h.cel j (by omega)
 ·have:(u'.setCell ⟨N,k,none⟩ (Pt u.heap.size 0)).heap.size=u'.heap.size:=by simp [World.setCell]
  rw [this,e1,Array.size_push];omega
 ·rw [oth _ (by omega),at_ _ (by omega)];exact h.old b hb
 ·exact e2.trans h.os
 ·exact e3.trans h.out
theorem NwC.fcs {v u:World} {s:Nat} (h:NwC v s v.heap.size s u) (h0:0<s) (h1:s≤16):Fcs u (v.heap.size+1) v.heap.size s ((List.range s).map fun j=>v.heap.size+2+j) (List.replicate s 0):=by
 refine ⟨⟨cell_of h.ctr rfl,fun j hj=>⟨v.heap.size+2+j,by simp [hj],cell_of h.row ?_⟩,h0,h1⟩,by simp,by simp,fun j cb x e1 e2=>?_,?_,by omega,fun cb hcb=>?_⟩
 ·unfold rowP kbN
  simp [hj]
 ·by_cases hj:j<s
  ·simp [hj] at e1 e2
   rw [←e1,←e2];exact h.cel j hj
  ·simp [hj] at e1
 ·refine List.pairwise_map.2 (List.Pairwise.imp ?_ List.nodup_range)
  intro a b hab;omega
 ·obtain ⟨j,_,rfl⟩:=List.mem_map.1 hcb
  omega
theorem goesI_retZ {Ch:Nat→Prop} {Stop:Goroutine→World→Prop} {main:Bool} {f:FuncId} {c:Code} {act:Act} {more:List Item} {cs:List Frame} {v w:World} {Q:Act→World→Prop} (hvw:Rel zn v w) (hn:NoRow Ch v) (hc:fineCode Tryd.prog true LV c) (ha:act.defers=[])
 (hwp:∀ τ,c.wp Tryd.prog (fun e a w'=>e=.ret∧Q a w') act (onTape v τ 0))
 (h:∀ a' v' w' todo,Q a' v'→a'.defers=[]→Rel zn v' w'→NoRow Ch v'→GoesI Tryd.prog main (DT (ScZ zn) Ch) Stop (G { (base f).at a' todo with mode:=.returning } cs) w') :
 GoesI Tryd.prog main (DT (ScZ zn) Ch) Stop (G ((base f).at act (.code c :: more)) cs) w:=by
 have hfin:=lift_code (P:=Tryd.prog) (z:=zn) (wr:=true) (L:=LV) (D:=DT (ScZ zn) Ch) (I:=NoRow Ch) (main:=main) (b:=base f) (k:=more) (cs:=cs) hE fineV noRow_keeps (fun v v' w w' es hi hr ho he=>dt_of_z v v' w w' es hi hr ho he) hvw hc ha (by simp [base]) hn
  (Q:=fun e a w'=>e=.ret∧Q a w') hwp (fun e a w hq=>.inr hq.1)
 refine hfin.then ?_
 rintro g w' ⟨a',v',hr,hiv,hd,⟨⟨hq,_⟩,_⟩|⟨⟨_,hQ⟩,todo,rfl⟩⟩
 ·cases hq
 ·exact h a' v' w' todo hQ hd hr hiv
theorem _root_.Go.Proofs.YtfjjoohflcchnaaDoor.Grows.toAt {W v w:World} (h:Grows W v) (hr:Rel zn v w) (d:Nat):Grows W (w.at d):=by
 have e:(w.at d).heap=v.heap:=hr.eq
 exact ⟨by rw [e];exact h.size,fun b hb=>by rw [e];exact h.old b hb,hr.os.trans h.os,hr.output.trans h.output⟩
theorem _root_.Go.Proofs.YtfjjoohflcchnaaDoor.Grows.andThen {W v w:World} (h:Grows W v) (k:Grows v w):Grows W w:=⟨Nat.le_trans h.size k.size,fun b hb=>by rw [k.old b (by have:=h.size;omega),h.old b hb],k.os.trans h.os,k.output.trans h.output⟩
def PostT (W:World) (r:Value) (w':World):Prop:=r=.bool true∧Grows W w'
noncomputable def LB15:Code:=Tryd.f15.body.getD .skip
noncomputable def y1:Code:=seq1 (seq2 LB15)
noncomputable def y2:Code:=seq1 (seq2 (seq2 LB15))
noncomputable def y3:Code:=seq1 (seq2 (seq2 (seq2 LB15)))
def Nrm (F:Act→World→Prop):Exit→Act→World→Prop
 |.normal,a,w=>F a w
 |_,_,_=>False
theorem wp_nrm {P:Program} {c:Code} {F:Act→World→Prop} {a:Act} {w:World} (h:c.wp P (Nrm F) a w):c.wp P (fun e a' w'=>e=.normal∧F a' w') a w:=wp_mono h fun e a w hq=>by
 cases e
 case normal=>exact ⟨rfl,hq⟩
 all_goals exact hq.elim
def condB:Code→Code|.cond _ _ y=>y|c=>c
theorem Fl.hd {n k:Nat} {c:Bool} {l:List (Nat×Value)} {a:Act} (h:Fl n ((k,.bool c) :: l) a) (hc:c=true):a.eval (.tmp k)=.bool true:=by subst hc;exact h.2.2 (k,.bool true) (.head _)
theorem Fl.hf {n k:Nat} {c:Bool} {l:List (Nat×Value)} {a:Act} (h:Fl n ((k,.bool c) :: l) a) (hc:c=false):a.eval (.tmp k)=.bool false:=by subst hc;exact h.2.2 (k,.bool false) (.head _)
theorem Fl.tl {n:Nat} {x:Nat×Value} {l:List (Nat×Value)} {a:Act} (h:Fl n (x :: l) a):Fl n l a:=⟨h.1,h.2.1,fun p hp=>h.2.2 p (.tail _ hp)⟩
structure Kq (B:Nat) (w w':World):Prop where
 os:w'.os=w.os
 out:w'.output=w.output
 size:w.heap.size≤w'.heap.size
 old:∀ k,k<B→w'.heap[k]? = w.heap[k]?
section
variable {B:Nat} {u v w:World}
theorem Kq.refl (B:Nat) (w:World):Kq B w w:=⟨rfl,rfl,Nat.le_refl _,fun _ _=>rfl⟩
theorem Kq.trans (h:Kq B u v) (k:Kq B v w):Kq B u w:=⟨k.os.trans h.os,k.out.trans h.out,Nat.le_trans h.size k.size,fun i hi=>(k.old i hi).trans (h.old i hi)⟩
theorem Kq.same (e1:w.heap=v.heap) (e2:w.os=v.os) (e3:w.output=v.output):Kq B v w:=⟨e2,e3,by rw [e1];exact Nat.le_refl _,fun i _=>by rw [e1]⟩
theorem Kq.alloc (o:Obj) (h:B≤v.heap.size):Kq B v (v.alloc o):=⟨rfl,rfl,by show _≤(v.heap.push o).size;simp,fun i hi=>by show (v.heap.push o)[i]? = _;rw [Array.getElem?_push,if_neg (by omega)]⟩
theorem Kq.set {b o:Nat} (x:Value) (h:B≤b):Kq B v (v.setCell ⟨b,o,none⟩ x):=⟨rfl,rfl,by simp [World.setCell],fun i hi=>Below.heap_setCell _ _ _ _ (by show i≠b;omega)⟩
theorem Kq.cell (k:Kq B u v) {a:Addr} {x:Value} (h:u.cell? a=some x) (hb:a.block<B):v.cell? a=some x:=by rw [World.cell?_of_block (w:=u) (w':=v) (k.old _ hb)];exact h
theorem Kq.grows (k:Kq B u v) (h:u.heap.size≤B):Grows u v:=⟨k.size,fun b hb=>k.old b (by omega),k.os,k.out⟩
theorem Kq.le {B':Nat} (k:Kq B u v) (h:B'≤B):Kq B' u v:=⟨k.os,k.out,k.size,fun i hi=>k.old i (by omega)⟩
end
structure SL (N b o:Nat) (ln cp rb ro:Nat→Nat) (pc:Nat→Option Addr) (cl:Nat→List Cl) (v:World):Prop where
 len:∀ k,k<N→(cl k).length=ln k
 sr:∀ k,k<N→v.cell? ⟨b,o+k,none⟩=some (.slice (pc k) (ln k) (cp k))
 pq:∀ k,k<N→0<ln k→pc k=some ⟨rb k,ro k,none⟩
 sa:∀ k,k<N→∀ (j:Nat) (c:Cl),(cl k)[j]? = some c→v.cell? ⟨rb k,ro k+j*4,none⟩=some (I c.po)∧v.cell? ⟨rb k,ro k+j*4+1,none⟩=some (I c.ca)∧v.cell? ⟨rb k,ro k+j*4+2,none⟩=some (I c.cb)∧v.cell? ⟨rb k,ro k+j*4+3,none⟩=some (I c.cc)
structure AL (N M:Nat) (A ln:Nat→Nat) (l:Nat→Ph) (v:World):Prop where
 ar:∀ k,k<N→v.cell? ⟨M,k,none⟩=some (.slice (some ⟨A k,0,none⟩) (ln k) (ln k))
 al:∀ k,k<N→(l k).ans.length=ln k
 an:∀ k,k<N→∀ (j:Nat) (q:Int×Int),(l k).ans[j]? = some q→v.cell? ⟨A k,j*2,none⟩=some (I q.1)∧v.cell? ⟨A k,j*2+1,none⟩=some (I q.2)
theorem kq_all {v u:World} (k:Kq v.heap.size v u) (a:Addr) (x:Value) (h:v.cell? a=some x):u.cell? a=some x:=k.cell h (World.block_lt_of_cell? _ _ h)
theorem SL.go {N b o:Nat} {ln cp rb ro:Nat→Nat} {pc:Nat→Option Addr} {cl:Nat→List Cl} {v u:World} (h:SL N b o ln cp rb ro pc cl v) (k:Kq v.heap.size v u):SL N b o ln cp rb ro pc cl u:=by
 have hc:=kq_all k
 exact ⟨h.len,fun i hi=>hc _ _ (h.sr i hi),h.pq,fun i hi j c hj=>⟨hc _ _ (h.sa i hi j c hj).1,hc _ _ (h.sa i hi j c hj).2.1,hc _ _ (h.sa i hi j c hj).2.2.1,hc _ _ (h.sa i hi j c hj).2.2.2⟩⟩
theorem AL.go {N M:Nat} {A ln:Nat→Nat} {l:Nat→Ph} {v u:World} (h:AL N M A ln l v) (k:Kq v.heap.size v u):AL N M A ln l u:=by
 have hc:=kq_all k
 exact ⟨fun i hi=>hc _ _ (h.ar i hi),h.al,fun i hi j q hj=>⟨hc _ _ (h.an i hi j q hj).1,hc _ _ (h.an i hi j q hj).2⟩⟩
theorem body10s {z:Nat→Option Nat} {S:TS} {v:World} (h:Rep z S v):Body Tryd.f19 #[Pt S.wb 0] v (fun r v'=>r=.bool S.stk∧v'=v):=by
 intro code hb
 obtain rfl:=Option.some.inj hb
 clear hb
 have c6:=h.wcell.2.2.2.2.2.2.1
 clear h
 simp only [Tryd.ntmps19,List.size_toArray,List.length_cons,List.length_nil,Nat.reduceAdd,Nat.reduceSub,Array.replicate_succ,Array.replicate_zero,List.push_toArray,List.append_toArray,List.nil_append,List.cons_append]
 go_wp2_with fail
 go_ret
 exact ⟨_,rfl,rfl,rfl⟩
theorem info22m:(Tryd.prog.info? 22).map (fun i=>(i.zero,i.size,i.bytes))=some (some (.slice none 0 0),1,24):=by kernel_rfl
theorem info4m:(Tryd.prog.info? 4).map (fun i=>(i.zero,i.size,i.bytes))=some (some (.bool false),1,1):=by kernel_rfl
theorem info3m:(Tryd.prog.info? 3).map (fun i=>(i.zero,i.size,i.bytes))=some (some (I 0),1,8):=by kernel_rfl
theorem make_22r (n:Nat) (hn:n≤1048576) (w:World) :
 (Instr.makeSlice 85 (.int .i64 (n:Int)) (.int .i64 (n:Int))).run Tryd.prog w=.ok (.slice (some ⟨w.heap.size,0,none⟩) n n) (w.alloc (.cells (madeCells #[.slice none 0 0] n) 22)):=by
 cases hq:Tryd.prog.info? 22 with
 |none=>have:=info22m;rw [hq] at this;cases this
 |some i =>
  have hi:=info22m
  rw [hq] at hi
  simp only [Option.map_some,Option.some.injEq,Prod.mk.injEq] at hi
  obtain ⟨hz,hs,hb⟩:=hi
  have:=run_make (P:=Tryd.prog) w 85 22 i _ Tryd.underlying85 hq hz .i64 .i64 (n:Int) (n:Int) (by omega) (by omega) (by rw [hb];omega) (by omega)
  rw [hs] at this
  rw [this]
  simp [Value.cells]
theorem make_4r (n:Nat) (hn:n≤1048576) (w:World) :
 (Instr.makeSlice 32 (.int .i64 (n:Int)) (.int .i64 (n:Int))).run Tryd.prog w=.ok (.slice (some ⟨w.heap.size,0,none⟩) n n) (w.alloc (.cells (madeCells #[.bool false] n) 4)):=by
 cases hq:Tryd.prog.info? 4 with
 |none=>have:=info4m;rw [hq] at this;cases this
 |some i =>
  have hi:=info4m
  rw [hq] at hi
  simp only [Option.map_some,Option.some.injEq,Prod.mk.injEq] at hi
  obtain ⟨hz,hs,hb⟩:=hi
  have:=run_make (P:=Tryd.prog) w 32 4 i _ Tryd.underlying32 hq hz .i64 .i64 (n:Int) (n:Int) (by omega) (by omega) (by rw [hb];omega) (by omega)
  rw [hs] at this
  rw [this]
  simp [Value.cells]
theorem make_3r (n:Nat) (hn:n≤1048576) (w:World) :
 (Instr.makeSlice 22 (.int .i64 (n:Int)) (.int .i64 (n:Int))).run Tryd.prog w=.ok (.slice (some ⟨w.heap.size,0,none⟩) n n) (w.alloc (.cells (madeCells #[I 0] n) 3)):=by
 cases hq:Tryd.prog.info? 3 with
 |none=>have:=info3m;rw [hq] at this;cases this
 |some i =>
  have hi:=info3m
  rw [hq] at hi
  simp only [Option.map_some,Option.some.injEq,Prod.mk.injEq] at hi
  obtain ⟨hz,hs,hb⟩:=hi
  have:=run_make (P:=Tryd.prog) w 22 3 i _ Tryd.underlying22 hq hz .i64 .i64 (n:Int) (n:Int) (by omega) (by omega) (by rw [hb];omega) (by omega)
  rw [hs] at this
  rw [this]
  simp [Value.cells]
end Go.Proofs.YtfjjoohflcchnaaDoor.Gen
