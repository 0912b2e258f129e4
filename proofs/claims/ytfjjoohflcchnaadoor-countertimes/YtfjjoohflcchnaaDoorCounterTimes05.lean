/- Of the proof of CounterTimes. Part 5 of 31. (Joined, by program, and written short, of: Did, Cells, Lift24, Wait, Turn, Add, Load, Cas, Lift25, Notes, Call5.) -/
import Derived.Test.YtfjjoohflcchnaaDoorCounterTimes04
import Derived.Deep.QuietTactic
import Derived.BigQuiet
import Derived.Conc.TokenWords
set_option linter.unusedSimpArgs false
set_option linter.unusedVariables false
set_option maxHeartbeats 4000000
set_option maxRecDepth 100000
namespace Go.Proofs.YtfjjoohflcchnaaDoor
open Go Go.Lift Go.Conc Go.RowKit
theorem Rep.same {z:Nat→Option Nat} {S:TS} {v v':World} (h:Rep z S v) (e:v'.heap=v.heap):Rep z S v' :=
 ⟨by rw [e];exact h.wor,fun i t ht=>by rw [e];exact h.thr i t ht,own_stay (fun _ _=>by rw [e]) h.own,own_stay (fun _ _=>by rw [e]) h.chg,own_stay (fun _ _=>by rw [e]) h.ths,own_stay (fun _ _=>by rw [e]) h.sch,by rw [e];exact h.bs,h.apart,h.kept⟩
theorem Rep.cell {z:Nat→Option Nat} {S:TS} {v:World} (h:Rep z S v) {i:Nat} {t:Thr} (ht:S.thr[i]? = some t):v.cell? ⟨t.tb,0,none⟩=some (Pt S.wb 0)∧v.cell? ⟨t.tb,1,none⟩=some (I i)∧v.cell? ⟨t.tb,2,none⟩=some (.chan (some t.gc))∧v.cell? ⟨t.tb,3,none⟩=some (I t.st)∧v.cell? ⟨t.tb,4,none⟩=some (I t.ce)∧v.cell? ⟨t.tb,5,none⟩=some (I t.op)∧v.cell? ⟨t.tb,6,none⟩=some (I t.se):=by
 have:=h.thr i t ht
 simp [World.cell?,this]
theorem Rep.wcell {z:Nat→Option Nat} {S:TS} {v:World} (h:Rep z S v):v.cell? ⟨S.wb,0,none⟩=some S.sc∧v.cell? ⟨S.wb,1,none⟩=some (I S.us)∧v.cell? ⟨S.wb,2,none⟩=some (I S.la)∧v.cell? ⟨S.wb,3,none⟩=some S.cv∧v.cell? ⟨S.wb,4,none⟩=some S.ths∧v.cell? ⟨S.wb,5,none⟩=some S.tv∧v.cell? ⟨S.wb,6,none⟩=some (.bool S.stk)∧v.cell? ⟨S.wb,7,none⟩=some (.bool S.ran)∧v.cell? ⟨S.wb,8,none⟩=some (.chan (some S.bk)):=by
 have:=h.wor
 simp [World.cell?,this]
def noted (S:TS) (tv:Value) (i:Nat) (op ce ol ne:Int):TS:={ S with tv:=tv,n:=S.n+1,tr:=S.tr++[I i,I ce,I op,I ol,I ne] }
def counted (S:TS) (c:Nat):TS:={ S with chg:=S.chg.modify c (fun x=>wrap64 (x+1)) }
def didS (S:TS) (tv:Value) (i:Nat) (t:Thr) (b a:Int):TS :=
 if b≠a∧0≤t.ce∧t.ce<S.chg.length then counted (noted S tv i t.op t.ce b a) t.ce.toNat else noted S tv i t.op t.ce b a
theorem Ev.same {z:Nat→Option Nat} {S S':TS} {v u v':World} (h:Ev z S v S' u) (e1:v'.heap=u.heap) (e2:v'.os=u.os) (e4:v'.output=u.output):Ev z S v S' v' :=
 ⟨h.rep.same e1,⟨e2.trans h.fr.os,e4.trans h.fr.output,by rw [e1];exact h.fr.size,fun b hb hs=>by rw [e1];exact h.fr.block b hb hs⟩,h.new⟩
theorem Ev.base {z:Nat→Option Nat} {S S':TS} {v u v':World} (h:Ev z S u S' v') (e1:u.heap=v.heap) (e2:u.os=v.os) (e4:u.output=v.output):Ev z S v S' v' :=
 ⟨h.rep,⟨h.fr.os.trans e2,h.fr.output.trans e4,by rw [←e1];exact h.fr.size,fun b hb hs=>by rw [←e1];exact h.fr.block b (by rw [e1];exact hb) hs⟩,fun b hb=>by rw [←e1];exact h.new b hb⟩
theorem own_form {w:World} {base:Nat} {e:TypeId} {size:Nat} {v:Value} {n:Nat} {xs:List Value} (h:w.ownsRow base e size v n xs):∃ p cap,v=.slice p n cap:=by
 rcases h.2 with ⟨rfl,rfl⟩|⟨g,cap,cur,rfl,_⟩
 ·exact ⟨none,0,rfl⟩
 ·exact ⟨_,cap,rfl⟩
theorem ints_cell {w:World} {base:Nat} {v:Value} {l:List Int} (h:w.ownsRow base 3 1 v l.length (l.map I)) {c:Nat} {x:Int} (hx:l[c]? = some x):∃ g cap,v=.slice (some ⟨g,0,none⟩) l.length cap∧w.cell? ⟨g,c,none⟩=some (I x)∧w.frozen? ⟨g,c,none⟩=false:=by
 have hc:c<l.length:=(List.getElem?_eq_some_iff.1 hx).1
 rcases h.2 with ⟨rfl,h0⟩|⟨g,cap,cur,rfl,hb,hh,hle,_,hsz,htake⟩
 ·omega
 ·refine ⟨g,cap,rfl,?_,by simp [World.frozen?,hh]⟩
  have e:(l.map I)[c]? = some (I x):=by simp [hx]
  rw [←htake,Nat.mul_one,List.getElem?_take_of_lt hc] at e
  simp only [World.cell?,hh,Option.isSome_none,Bool.false_eq_true,if_false]
  simpa using e
theorem ints_set {w:World} {base:Nat} {l:List Int} {g cap c:Nat} (h:w.ownsRow base 3 1 (.slice (some ⟨g,0,none⟩) l.length cap) l.length (l.map I)) (hc:c<l.length) (f:Int→Int) {x:Int} (hx:l[c]? = some x) :
 (w.setCell ⟨g,c,none⟩ (I (f x))).ownsRow base 3 1 (.slice (some ⟨g,0,none⟩) l.length cap) l.length ((l.modify c f).map I):=by
 rcases h.2 with ⟨h1,_⟩|⟨g',cap',cur,h1,hb,hh,hle,hm,hsz,htake⟩
 ·cases h1
 ·cases h1
  have e:(l.modify c f)=l.set c (f x):=by
   apply List.ext_getElem?
   intro j
   rw [List.getElem?_modify,List.getElem?_set]
   by_cases e:c=j
   ·subst e
    have:l[c]=x:=by rw [List.getElem?_eq_getElem hc] at hx;exact Option.some.inj hx
    simp [hc,this]
   ·simp [e]
  refine ⟨?_,.inr ⟨g,cap,cur.setIfInBounds c (I (f x)),rfl,hb,heap_setCell_same hh _,hle,hm,by simpa using hsz,?_⟩⟩
  ·simp
  ·rw [e]
   rw [Array.toList_setIfInBounds,List.take_set,htake,List.map_set]
theorem count_rep {z:Nat→Option Nat} {S:TS} {v:World} (h:Rep z S v) {g cap c:Nat} {x:Int} (hcv:S.cv=.slice (some ⟨g,0,none⟩) S.chg.length cap) (hx:S.chg[c]? = some x):Ev z S v (counted S c) (v.setCell ⟨g,c,none⟩ (I (wrap64 (x+1)))):=by
 have hc:c<S.chg.length:=(List.getElem?_eq_some_iff.1 hx).1
 have hg:blk S 1=some g:=by show S.cv.ownBlock=_;rw [hcv];rfl
 have hst:∀ k b,blk S k=some b→k≠1→(v.setCell ⟨g,c,none⟩ (I (wrap64 (x+1)))).heap[b]? = v.heap[b]?:=fun k b hk h1=>Below.heap_setCell _ _ _ _ (fun e=>h1 (by subst e;exact h.apart k 1 _ hk hg))
 refine ⟨⟨?_,fun j t ht=>?_,?_,?_,?_,?_,?_,h.apart,h.kept⟩,⟨rfl,rfl,by simp [World.setCell],fun b _ hs=>Below.heap_setCell _ _ _ _ (fun e=>hs ⟨1,by rw [e];exact hg⟩)⟩,fun b hb=>.inl hb⟩
 ·show (v.setCell _ _).heap[S.wb]? = _
  rw [hst 0 S.wb rfl (by omega)]
  exact h.wor
 ·rw [hst (j+5) t.tb (by simp only [blk];rw [show S.thr[j]? = some t from ht];rfl) (by omega)]
  exact h.thr j t ht
 ·exact own_stay (fun b hb=>hst 3 b hb (by omega)) h.own
 ·show (v.setCell _ _).ownsRow S.base 3 1 S.cv (S.chg.modify c _).length ((S.chg.modify c _).map I)
  rw [List.length_modify,hcv]
  exact ints_set (by rw [←hcv];exact h.chg) hc (fun x=>wrap64 (x+1)) hx
 ·exact own_stay (fun b hb=>hst 2 b hb (by omega)) h.ths
 ·exact own_stay (fun b hb=>hst 4 b hb (by omega)) h.sch
 ·show S.base≤_
  simpa [World.setCell] using h.bs
theorem body27 {z:Nat→Option Nat} {S:TS} {v:World} (h:Rep z S v) {i:Nat} {t:Thr} (ht:S.thr[i]? = some t) (b a:Int) (hn:(S.n+1)*40≤140737488355328) :
 Body Tryd.f108 #[Pt t.tb 0,I b,I a] v (fun r v'=>r=.tuple #[]∧∃ tv',Ev z S v (didS S tv' i t b a) v'):=by
 intro code hb
 obtain rfl:=Option.some.inj hb
 clear hb
 simp only [Tryd.ntmps108,List.size_toArray,List.length_cons,List.length_nil,Nat.reduceAdd,Nat.reduceSub,Array.replicate_succ,Array.replicate_zero,List.push_toArray,List.append_toArray,List.nil_append,List.cons_append]
 obtain ⟨c0,_,_,_,c4,c5,_⟩:=h.cell ht
 have HR:Hid (Rep z S v):=⟨h⟩
 clear h
 go_wp2_with fail
 go_region_held3 (fun u=>u.cell? ⟨t.tb,4,none⟩=some (I t.ce)∧u.cell? ⟨t.tb,5,none⟩=some (I t.op))
  (first|(exact ⟨(Rep.cell (Ev.rep hev) (i:=i) (t:=t) ht).2.2.2.2.1,(Rep.cell (Ev.rep hev) (i:=i) (t:=t) ht).2.2.2.2.2.1⟩)|(simp [go_sem, *];done))
  (first
    |(go_at_call 128;refine ((note_rep (HR.out.same (v':=v.drew) rfl) ht t.op t.ce b a hn).calls Tryd.func128 rfl).mono ?_;rintro e w5 ⟨_,rfl,rfl,tv',hev⟩))
 have HE:Hid (Ev z S v (noted S tv' i t.op t.ce b a) w5):=⟨hev.base rfl rfl rfl⟩
 clear hev HR c0 c4 c5
 rename_i hH
 obtain ⟨k4,_⟩:=hH
 have k0:w5.cell? ⟨t.tb,0,none⟩=some (Pt S.wb 0):=(HE.out.rep.cell (i:=i) (t:=t) ht).1
 have k3:w5.cell? ⟨S.wb,3,none⟩=some S.cv:=HE.out.rep.wcell.2.2.2.1
 have HN:Hid (¬ (b≠a∧0≤t.ce∧t.ce<S.chg.length)→∀ nq,Ev z S v (didS S tv' i t b a) (w5.drewN nq)):=⟨fun hn nq=>by
  unfold didS;rw [if_neg hn];exact HE.out.same rfl rfl rfl⟩
 obtain ⟨p,cap,hcv⟩:=own_form HE.out.rep.chg
 have hcv':S.cv=.slice p S.chg.length cap:=hcv
 rw [hcv'] at k3
 clear hcv
 by_cases hba:b=a
 ·have g1:(b != a)=false:=by simp [hba]
  have HB:Hid (b=a):=⟨hba⟩
  clear hba
  go_wp2_with fail
  go_quiet (fail)
  go_wp2
  exact ⟨rfl,_,results_none rfl _ _ _,_,rfl,rfl,tv',HN.out (fun h=>h.1 HB.out) _⟩
 ·have g1:(b != a)=true:=by simp [hba]
  by_cases hce:t.ce<0
  ·have g2:(decide (0≤t.ce))=false:=by simp;omega
   have HB:Hid (t.ce<0):=⟨hce⟩
   clear hba hce
   go_wp2_with fail
   go_quiet (fail)
   go_wp2
   exact ⟨rfl,_,results_none rfl _ _ _,_,rfl,rfl,tv',HN.out (fun h=>by have:=HB.out;omega) _⟩
  ·have g2:(0:Int)≤t.ce:=by omega
   by_cases hlt:t.ce<S.chg.length
   ·obtain ⟨c,hcc⟩:∃ c:Nat,t.ce=(c:Int):=⟨t.ce.toNat,by omega⟩
    have hcl:c<S.chg.length:=by omega
    obtain ⟨g,cap',e1,e2,e3⟩:=ints_cell HE.out.rep.chg (List.getElem?_eq_getElem (show c<(noted S tv' i t.op t.ce b a).chg.length from hcl))
    have e1':S.cv=.slice (some ⟨g,0,none⟩) S.chg.length cap':=e1
    rw [hcv'] at e1'
    cases e1'
    have HC:Hid (t.ce=(c:Int)):=⟨hcc⟩
    have HB:Hid (b≠a∧0≤t.ce∧t.ce<S.chg.length):=⟨⟨hba,g2,hlt⟩⟩
    have e2':w5.cell? ⟨g,c,none⟩=some (I (S.chg[c])):=e2
    generalize hx:S.chg[c]=x at e2'
    have HX:Hid (S.chg[c]? = some x):=⟨by rw [←hx];exact List.getElem?_eq_getElem hcl⟩
    rw [hcc] at k4
    have g4:(0:Int)≤(c:Int):=by omega
    have g5:(c:Int)<(S.chg.length:Int):=by omega
    clear hba hce hlt e1 e2 hx g2 hcc
    go_wp2_with fail
    go_quiet (fail)
    go_wp2_with fail
    have HS:Hid (∀ W:World,W.heap=w5.heap→W.os=w5.os→W.output=w5.output→Ev z S v (didS S tv' i t b a) (W.setCell ⟨g,c,none⟩ (I (wrap64 (x+1))))):=⟨fun W q1 q2 q4=>by
     unfold didS
     rw [if_pos HB.out,show t.ce.toNat=c by rw [HC.out];simp]
     exact (HE.out.same q1 q2 q4).trans (count_rep (HE.out.rep.same q1) hcv' HX.out)⟩
    go_region
    all_goals exact ⟨rfl,_,results_none rfl _ _ _,_,rfl,rfl,tv',HS.out _ rfl rfl rfl⟩
   ·have g3:(decide (t.ce<(S.chg.length:Int)))=false:=by simpa using hlt
    have HB:Hid (¬ t.ce<S.chg.length):=⟨hlt⟩
    clear hba hce hlt
    go_wp2_with fail
    go_quiet (fail)
    go_wp2
    exact ⟨rfl,_,results_none rfl _ _ _,_,rfl,rfl,tv',HN.out (fun h=>by have:=HB.out;omega) _⟩
def Own (S:TS) (K:List (Nat×Int)) (b:Nat):Prop:=Its S b∨∃ (j:Nat) (c:Nat×Int),K[j]? = some c∧c.1=b
structure Mem (z:Nat→Option Nat) (S:TS) (K:List (Nat×Int)) (v:World):Prop where
 rep:Rep z S v
 cel:∀ (j:Nat) (c:Nat×Int),K[j]? = some c→v.heap[c.1]? = some (.cells #[I j,I c.2] 158 (0,0))
 far:∀ (j:Nat) (c:Nat×Int),K[j]? = some c→¬ Its S c.1
 inj:∀ (i j:Nat) (c d:Nat×Int),K[i]? = some c→K[j]? = some d→c.1=d.1→i=j
 len:S.chg.length=K.length
structure Evo (z:Nat→Option Nat) (S:TS) (K:List (Nat×Int)) (v:World) (S':TS) (K':List (Nat×Int)) (v':World):Prop where
 mem:Mem z S' K' v'
 blks:K'.map (·.1)=K.map (·.1)
 fr:Fr (Own S K) v v'
 new:∀ b,Own S' K' b→Own S K b∨v.heap.size≤b
section
variable {z:Nat→Option Nat} {S S' S'':TS} {K K' K'':List (Nat×Int)} {v v' v'':World}
theorem Mem.lt (h:Mem z S K v) {b:Nat} (hb:Own S K b):b<v.heap.size:=by
 rcases hb with ⟨k,hk⟩|⟨j,c,hc,rfl⟩
 ·exact h.rep.lt hk
 ·exact (Array.getElem?_eq_some_iff.1 (h.cel j c hc)).1
theorem Evo.refl (h:Mem z S K v):Evo z S K v S K v:=⟨h,rfl,Fr.refl _ _,fun _ hb=>.inl hb⟩
theorem Evo.trans (h:Evo z S K v S' K' v') (k:Evo z S' K' v' S'' K'' v''):Evo z S K v S'' K'' v'':=by
 refine ⟨k.mem,k.blks.trans h.blks,⟨k.fr.os.trans h.fr.os,k.fr.output.trans h.fr.output,Nat.le_trans h.fr.size k.fr.size,fun x hx hs=>?_⟩,fun b hb=>?_⟩
 ·rw [k.fr.block x (Nat.lt_of_lt_of_le hx h.fr.size) (fun hi=>(h.new x hi).elim hs (fun hle=>by omega)),h.fr.block x hx hs]
 ·rcases k.new b hb with h1|h1
  ·exact h.new b h1
  ·exact .inr (Nat.le_trans h.fr.size h1)
theorem Evo.of_ev (h:Mem z S K v) (k:Ev z S v S' v') (hl:S'.chg.length=S.chg.length):Evo z S K v S' K v':=by
 have hst:∀ (j:Nat) (c:Nat×Int),K[j]? = some c→v'.heap[c.1]? = v.heap[c.1]?:=fun j c hc=>k.fr.block c.1 (h.lt (.inr ⟨j,c,hc,rfl⟩)) (h.far j c hc)
 refine ⟨⟨k.rep,fun j c hc=>by rw [hst j c hc];exact h.cel j c hc,fun j c hc hi=>?_,h.inj,hl.trans h.len⟩,rfl,k.fr.mono (fun _ _ hx=>.inl hx),fun b hb=>?_⟩
 ·rcases k.new _ hi with h1|h1
  ·exact h.far j c hc h1
  ·have:=h.lt (.inr ⟨j,c,hc,rfl⟩);omega
 ·rcases hb with hb|hb
  ·exact (k.new b hb).imp .inl id
  ·exact .inl (.inr hb)
theorem Mem.same (h:Mem z S K v) (e:v'.heap=v.heap):Mem z S K v' :=
 ⟨h.rep.same e,fun j c hc=>by rw [e];exact h.cel j c hc,h.far,h.inj,h.len⟩
theorem Evo.same (h:Evo z S K v S' K' v') (e1:v''.heap=v'.heap) (e2:v''.os=v'.os) (e3:v''.output=v'.output):Evo z S K v S' K' v'' :=
 ⟨h.mem.same e1,h.blks,⟨e2.trans h.fr.os,e3.trans h.fr.output,by rw [e1];exact h.fr.size,fun b hb hs=>by rw [e1];exact h.fr.block b hb hs⟩,h.new⟩
theorem Evo.base {u:World} (h:Evo z S K u S' K' v') (e1:u.heap=v.heap) (e2:u.os=v.os) (e3:u.output=v.output):Evo z S K v S' K' v' :=
 ⟨h.mem,h.blks,⟨h.fr.os.trans e2,h.fr.output.trans e3,by rw [←e1];exact h.fr.size,fun b hb hs=>by rw [←e1];exact h.fr.block b (by rw [e1];exact hb) hs⟩,fun b hb=>by rw [←e1];exact h.new b hb⟩
theorem Mem.cells (h:Mem z S K v) {j:Nat} {c:Nat×Int} (hc:K[j]? = some c):v.cell? ⟨c.1,0,none⟩=some (I j)∧v.cell? ⟨c.1,1,none⟩=some (I c.2)∧v.frozen? ⟨c.1,1,none⟩=false:=by
 have:=h.cel j c hc
 simp [World.cell?,World.frozen?,this]
theorem Evo.write (h:Mem z S K v) {j cb:Nat} {x:Int} (hc:K[j]? = some (cb,x)) (y:Int):Evo z S K v S (K.set j (cb,y)) (v.setCell ⟨cb,1,none⟩ (I y)):=by
 have hj:j<K.length:=(List.getElem?_eq_some_iff.1 hc).1
 have hst:∀ b,b≠cb→(v.setCell ⟨cb,1,none⟩ (I y)).heap[b]? = v.heap[b]?:=fun b hb=>Below.heap_setCell _ _ _ _ hb
 have hits:∀ k b,blk S k=some b→(v.setCell ⟨cb,1,none⟩ (I y)).heap[b]? = v.heap[b]?:=fun k b hk=>hst b (fun e=>h.far j _ hc ⟨k,by rw [hk,e]⟩)
 have hget:∀ (i:Nat) (c:Nat×Int),(K.set j (cb,y))[i]? = some c→(i=j∧c=(cb,y))∨(i≠j∧K[i]? = some c):=fun i c hi=>by
  rw [List.getElem?_set] at hi
  by_cases e:j=i
  ·subst e;rw [if_pos rfl,if_pos hj] at hi;exact .inl ⟨rfl,(Option.some.inj hi).symm⟩
  ·rw [if_neg e] at hi;exact .inr ⟨fun e'=>e e'.symm,hi⟩
 have hrep:Rep z S (v.setCell ⟨cb,1,none⟩ (I y)) :=
  ⟨by rw [hits 0 S.wb rfl];exact h.rep.wor,fun i t ht=>by rw [hits (i+5) t.tb (by simp [blk,ht])];exact h.rep.thr i t ht,own_stay (fun b hb=>hits 3 b hb) h.rep.own,own_stay (fun b hb=>hits 1 b hb) h.rep.chg,own_stay (fun b hb=>hits 2 b hb) h.rep.ths,own_stay (fun b hb=>hits 4 b hb) h.rep.sch,
   by simpa [World.setCell] using h.rep.bs,h.rep.apart,h.rep.kept⟩
 refine ⟨⟨hrep,fun i c hi=>?_,fun i c hi=>?_,fun i i' c d hi hi' e=>?_,by simpa using h.len⟩,?_,⟨rfl,rfl,by simp [World.setCell],fun b _ hs=>hst b (fun e=>hs (.inr ⟨j,_,hc,e.symm⟩))⟩,fun b hb=>?_⟩
 ·rcases hget i c hi with ⟨rfl,rfl⟩|⟨hne,hi⟩
  ·have:=heap_setCell_same (o:=1) (h.cel i _ hc) (I y)
   simpa using this
  ·rw [hst c.1 (fun e=>hne (h.inj i j c _ hi hc e))]
   exact h.cel i c hi
 ·rcases hget i c hi with ⟨rfl,rfl⟩|⟨hne,hi⟩
  ·exact h.far i (cb,x) hc
  ·exact h.far i c hi
 ·rcases hget i c hi with ⟨e1,e2⟩|⟨_,h1⟩<;>rcases hget i' d hi' with ⟨e3,e4⟩|⟨_,h2⟩
  ·rw [e1,e3]
  ·rw [e2] at e;rw [e1];exact h.inj j i' (cb,x) d hc h2 e
  ·rw [e4] at e;rw [e3];exact h.inj i j c (cb,x) h1 hc e
  ·exact h.inj i i' c d h1 h2 e
 ·rw [List.map_set]
  apply List.ext_getElem?
  intro i
  rw [List.getElem?_set]
  by_cases e:j=i
  ·subst e
   have:K[j]=(cb,x):=by rw [List.getElem?_eq_getElem hj] at hc;exact Option.some.inj hc
   simp [hj,this]
  ·simp [e]
 ·rcases hb with hb|⟨i,c,hi,rfl⟩
  ·exact .inl (.inl hb)
  ·rcases hget i c hi with ⟨rfl,rfl⟩|⟨_,hi⟩
   ·exact .inl (.inr ⟨i,_,hc,rfl⟩)
   ·exact .inl (.inr ⟨i,c,hi,rfl⟩)
theorem didS_len (tv:Value) (i:Nat) (t:Thr) (b a:Int):(didS S tv i t b a).chg.length=S.chg.length:=by
 unfold didS
 split
 ·simp [counted,noted]
 ·rfl
def waiting (S:TS) (i:Nat) (t:Thr) (s o c:Int):TS:={ S with thr:=S.thr.set i { t with st:=s,ce:=c,op:=o,se:=chgOf S.chg c } }
theorem wait_ev (h:Rep z S v) {i:Nat} {t:Thr} (ht:S.thr[i]? = some t) (s o c:Int):Ev z S v (waiting S i t s o c) ((((v.setCell ⟨t.tb,3,none⟩ (I s)).setCell ⟨t.tb,5,none⟩ (I o)).setCell ⟨t.tb,4,none⟩ (I c)).setCell ⟨t.tb,6,none⟩ (I (chgOf S.chg c))):=by
 have hi:i<S.thr.length:=(List.getElem?_eq_some_iff.1 ht).1
 have hbt:blk S (i+5)=some t.tb:=by simp [blk,ht]
 generalize hV:((((v.setCell ⟨t.tb,3,none⟩ (I s)).setCell ⟨t.tb,5,none⟩ (I o)).setCell ⟨t.tb,4,none⟩ (I c)).setCell ⟨t.tb,6,none⟩ (I (chgOf S.chg c)))=V
 have hst:∀ b,b≠t.tb→V.heap[b]? = v.heap[b]?:=fun b hb=>by
  rw [←hV,Below.heap_setCell _ _ _ _ hb,Below.heap_setCell _ _ _ _ hb,Below.heap_setCell _ _ _ _ hb,Below.heap_setCell _ _ _ _ hb]
 have hrow:V.heap[t.tb]? = some (.cells (trow S.wb i t.gc s c o (chgOf S.chg c)) 107 (fz z t.tb)):=by
  rw [←hV]
  have:=heap_setCell_same (o:=6) (heap_setCell_same (o:=4) (heap_setCell_same (o:=5) (heap_setCell_same (o:=3) (h.thr i t ht) (I s)) (I o)) (I c)) (I (chgOf S.chg c))
  simpa using this
 have hits:∀ k b,blk S k=some b→k≠i+5→V.heap[b]? = v.heap[b]?:=fun k b hk hne=>hst b (fun e=>hne (h.apart k (i+5) b hk (by rw [hbt,e])))
 have hget:∀ (j:Nat) (t':Thr),(waiting S i t s o c).thr[j]? = some t'→(j=i∧t'={ t with st:=s,ce:=c,op:=o,se:=chgOf S.chg c })∨(j≠i∧S.thr[j]? = some t'):=fun j t' hj=>by
  simp only [waiting,List.getElem?_set] at hj
  by_cases e:i=j
  ·subst e;rw [if_pos rfl,if_pos hi] at hj;exact .inl ⟨rfl,(Option.some.inj hj).symm⟩
  ·rw [if_neg e] at hj;exact .inr ⟨fun e'=>e e'.symm,hj⟩
 have hblk:∀ k,blk (waiting S i t s o c) k=blk S k:=fun k=>by
  match k with
  |0=>rfl
  |1=>rfl
  |2=>rfl
  |3=>rfl
  |4=>rfl
  |k+5 =>
   simp only [blk,waiting,List.getElem?_set]
   by_cases e:i=k
   ·subst e
    have:S.thr[i]=t:=by rw [List.getElem?_eq_getElem hi] at ht;exact Option.some.inj ht
    simp [hi,this]
   ·simp [e]
 have hths:(waiting S i t s o c).thr.map (fun t=>Pt t.tb 0)=S.thr.map (fun t=>Pt t.tb 0):=by
  apply List.ext_getElem?
  intro k
  have:=hblk (k+5)
  simp only [blk] at this
  rw [List.getElem?_map,List.getElem?_map]
  have e:∀ l:List Thr,(l[k]?).map (fun t=>Pt t.tb 0)=((l[k]?).map (·.tb)).map (fun b=>Pt b 0):=fun l=>by cases l[k]?<;>rfl
  rw [e,e,this]
 refine ⟨⟨?_,fun j t' hj=>?_,own_stay (fun b hb=>hits 3 b hb (by omega)) h.own,own_stay (fun b hb=>hits 1 b hb (by omega)) h.chg,?_,own_stay (fun b hb=>hits 4 b hb (by omega)) h.sch,?_,fun j k b hj hk=>?_,fun b n hz=>?_⟩,⟨?_,?_,?_,fun b hb hs=>?_⟩,fun b ⟨k,hk⟩=>.inl ⟨k,by rw [←hblk];exact hk⟩⟩
 ·show V.heap[S.wb]? = _
  rw [hits 0 S.wb rfl (by omega)]
  exact h.wor
 ·rcases hget j t' hj with ⟨rfl,rfl⟩|⟨hne,hj⟩
  ·exact hrow
  ·rw [hits (j+5) t'.tb (by simp [blk,hj]) (by omega)]
   exact h.thr j t' hj
 ·have:=own_stay (w':=V) (fun b hb=>hits 2 b hb (by omega)) h.ths
  rw [hths]
  have e:(waiting S i t s o c).thr.length=S.thr.length:=by simp [waiting]
  rw [e]
  exact this
 ·show S.base≤V.heap.size
  rw [←hV]
  simpa [World.setCell] using h.bs
 ·exact h.apart j k b (by rw [←hblk];exact hj) (by rw [←hblk];exact hk)
 ·rcases h.kept b n hz with h1|⟨j,t',hj,h2,h3⟩
  ·exact .inl h1
  ·right
   by_cases e:j=i
   ·subst e
    rw [ht] at hj
    cases hj
    exact ⟨j,{ t with st:=s,ce:=c,op:=o,se:=chgOf S.chg c },by simp [waiting,hi],h2,h3⟩
   ·exact ⟨j,t',by simp only [waiting,List.getElem?_set];rw [if_neg (fun e'=>e e'.symm)];exact hj,h2,h3⟩
 ·rw [←hV];rfl
 ·rw [←hV];rfl
 ·rw [←hV];simp [World.setCell]
 ·exact hst b (fun e=>hs ⟨i+5,by rw [hbt,e]⟩)
end
end Go.Proofs.YtfjjoohflcchnaaDoor
namespace Go.Lift
open Go.Conc
def Back (P:Program) (main:Bool) (g c':Goroutine):Prop:=∀ (D:World→World→Array Event→Prop) (Stop:Goroutine→World→Prop) (x:Value) (w:World),(∀ w,D w w #[])→GoesI P main D Stop c' w→GoesI P main D Stop (Go.Conc.served g x) w
theorem Back.then {P:Program} {main:Bool} {g c1 c2:Goroutine} (h:Back P main g c1) (hc:∀ (D:World→World→Array Event→Prop) (Stop:Goroutine→World→Prop) (w:World),(∀ w,D w w #[])→GoesI P main D Stop c2 w→GoesI P main D Stop c1 w):Back P main g c2 :=
 fun D Stop x w hD hg=>h D Stop x w hD (hc D Stop w hD hg)
section
variable {P:Program} {main:Bool} {Stop:Goroutine→World→Prop} {k:List Item} {cs:List Frame} {w:World} {ops:Array Oper} {i:Nat} {rest:List Nat} {o:Oper}
theorem goesI_rest {z:Nat→Option Nat} {Ch:Nat→Prop} {L:FuncId→Prop} (hE:∀ fr cs dy g w,∃ o w',early P fr cs dy g w=.ended o w') (hL:∀ g,L g→fineFn P true L g)
 {f:FuncId} {fn:Func} {c:Code} {act:Act} {bc:Frame} {ac:Act} {R:Value→World→Prop} {v0:World} (hvw:Rel z v0 w) (hn:NoRow Ch v0) (hf:P.funcs[f]? = some fn) (hc:fineCode P true L c) (ha:act.defers=[]) (ho:ops[i]? = some o)
 (hres:∀ tmps,∃ v,(∀ w,(results fn tmps).run P w=.ok v w)∧∀ w,(results fn tmps).events P w #[]=#[])
 (hwp:∀ τ,c.wp P (bodyPost P fn (fun e w'=>∃ v,e=.returned v∧R v w')) act (onTape v0 τ 0))
 (h:∀ v v' w',R v v'→Rel z v' w'→NoRow Ch v'→GoesI P main (DT (ScZ z) Ch) Stop (G (bc.at (ac.put o.dst v) (.inRegion ops rest :: k)) cs) w') :
 GoesI P main (DT (ScZ z) Ch) Stop (G ((base f).at act [.code c]) (bc.at ac (.inRegion ops (i :: rest) :: k) :: cs)) w:=by
 refine (lift_code (P:=P) (z:=z) (wr:=true) (L:=L) (D:=DT (ScZ z) Ch) (I:=NoRow Ch) (main:=main) (b:=base f) (k:=[]) (cs:=bc.at ac (.inRegion ops (i :: rest) :: k) :: cs) hE hL noRow_keeps
  (fun v v' w w' es hi hr ho he=>dt_of_z v v' w w' es hi hr ho he) hvw hc ha (by simp [base]) hn hwp ?_).then ?_
 ·intro e a w hq
  cases e with
  |normal=>exact .inl rfl
  |ret=>exact .inr rfl
  |panic ch=>obtain ⟨_,v,hv,_⟩:=hq;cases hv
  |outgrown=>obtain ⟨v,hv,_⟩:=hq;cases hv
  |_=>exact hq.elim
 ·rintro g w' ⟨a',v',hr,hiv,hd,⟨⟨_,x,hx,y,hy,hR⟩,rfl⟩|⟨⟨_,x,hx,y,hy,hR⟩,todo,rfl⟩⟩
  ·cases hy
   obtain ⟨v,hv1,hv2⟩:=hres a'.tmps
   have:x=v:=by have:=hv1 v';rw [hx] at this;cases this;rfl
   subst this
   refine goesI_end (dt_idle _ _) ?_
   exact goesI_leave (b:=base f) (fn:=fn) rfl hd hf hv1 hv2 ho (dt_idle _ _) (h x v' w' hR hr hiv)
  ·cases hy
   obtain ⟨v,hv1,hv2⟩:=hres a'.tmps
   have:x=v:=by have:=hv1 v';rw [hx] at this;cases this;rfl
   subst this
   exact goesI_leave (b:=base f) (fn:=fn) rfl hd hf hv1 hv2 ho (dt_idle _ _) (h x v' w' hR hr hiv)
end
end Go.Lift
namespace Go.Proofs.YtfjjoohflcchnaaDoor
open Go Go.Lift Go.Conc Go.RowKit
def LW (f:FuncId):Prop:=f=157
theorem fineW:∀ f,LW f→fineFn Tryd.prog true LW f:=by
 rintro f rfl
 exact fineFn_of (fs:=[]) (fun _ h=>by simp at h) Tryd.func157 (c:=Tryd.f157.body.getD .skip) (by rfl) (by kernel_rfl)
theorem callW:∀ f∈[157],Callable Tryd.prog LW f:=fun f h=>by
 rcases List.mem_singleton.1 h with rfl
 exact ⟨rfl,Tryd.f157,Tryd.func157,by decide,by rfl⟩
def seq1:Code→Code
 |.seq a _=>a
 |c=>c
def seq2:Code→Code
 |.seq _ b=>b
 |c=>c
noncomputable def wait0:Code:=seq1 (Tryd.f127.body.getD .skip)
theorem fineWait0:fineCode Tryd.prog true LW wait0:=fineCode_of (fs:=[157]) callW (by kernel_rfl)
theorem wait0_wp (tb wb id gc:Nat) (s o c st0 ce0 op0 se0:Int) (f:Nat×Nat) (hf:f=(2,3)) (cv:Value) (l:List Int) (w:World) (ht:w.heap[tb]? = some (.cells (trow wb id gc st0 ce0 op0 se0) 107 f)) (h3:w.cell? ⟨wb,3,none⟩=some cv) (hr:IntRow w cv l) :
 wait0.wp Tryd.prog (fun e a w'=>e=.normal∧(∃ t12 t13 t14 t16 t17 t18 t19 t20 t21 t22 t23 t24 t25 t26 t27 t28,a={ tmps:=#[Pt tb 0,I s,I o,I c,undef,undef,undef,undef,Pt tb 0,Pt tb 0,Pt tb 0,Pt tb 0,t12,t13,t14,Pt tb 0,t16,t17,t18,t19,t20,t21,t22,t23,t24,t25,t26,t27,t28,undef,undef,undef,undef,undef,undef,undef,undef,undef,undef,undef,undef,undef],defers:=[] }) ∧
  w'=(((w.setCell ⟨tb,3,none⟩ (I s)).setCell ⟨tb,5,none⟩ (I o)).setCell ⟨tb,4,none⟩ (I c)).setCell ⟨tb,6,none⟩ (I (chgOf l c))) { tmps:=#[Pt tb 0,I s,I o,I c]++Array.replicate 38 undef,defers:=[] } w:=by
 have hlt:=(Array.getElem?_eq_some_iff.1 ht).1
 have c0:w.cell? ⟨tb,0,none⟩=some (Pt wb 0):=by simp [World.cell?,ht]
 have c3:w.cell? ⟨tb,3,none⟩=some (I st0):=by simp [World.cell?,ht]
 have c4:w.cell? ⟨tb,4,none⟩=some (I ce0):=by simp [World.cell?,ht]
 have c5:w.cell? ⟨tb,5,none⟩=some (I op0):=by simp [World.cell?,ht]
 have c6:w.cell? ⟨tb,6,none⟩=some (I se0):=by simp [World.cell?,ht]
 subst hf
 have f3:w.frozen? ⟨tb,3,none⟩=false:=by simp [World.frozen?,ht]
 have f4:w.frozen? ⟨tb,4,none⟩=false:=by simp [World.frozen?,ht]
 have f5:w.frozen? ⟨tb,5,none⟩=false:=by simp [World.frozen?,ht]
 have f6:w.frozen? ⟨tb,6,none⟩=false:=by simp [World.frozen?,ht]
 have HR:Hid (IntRow w cv l):=⟨hr⟩
 clear hr ht hlt
 show Code.wp Tryd.prog (seq1 (Tryd.f127.body.getD .skip)) _ _ _
 simp only [Array.replicate_succ,Array.replicate_zero,List.push_toArray,List.append_toArray,List.nil_append,List.cons_append]
 unfold Tryd.f127 seq1
 simp only [Option.getD_some]
 go_wp2_with (go_at_call 157;refine ((body51 wb c cv l _ h3 HR.out).calls Tryd.func157 rfl).mono ?_;rintro e w1 ⟨v,rfl,rfl,rfl⟩)
def opsOf:Code→Array Oper
 |.region _ ops _=>ops
 |_=>#[]
noncomputable def ops372:Array Oper:=opsOf (seq2 (seq2 (Tryd.f127.body.getD .skip)))
noncomputable def seatT (gc:Nat) (Hm:Goroutine→Prop):Seat:=Seat.one gc (.agg #[]) false Hm
theorem res37 (tmps:Array Value):∀ (w:World),(results Tryd.f127 tmps).run Tryd.prog w=.ok (.tuple #[]) w:=fun _=>results_none rfl _ _ _
theorem ev37 (tmps:Array Value):∀ (w:World),(results Tryd.f127 tmps).events Tryd.prog w #[]=#[]:=fun _=>by simp [results,go_sem]
theorem back37 {main:Bool} (tmps:Array Value) {bc:Frame} {ac:Act} {ops:Array Oper} {i:Nat} {rest:List Nat} {o:Oper} {k:List Item} {cs:List Frame} (ho:ops[i]? = some o) :
 Back Tryd.prog main (G ((base 127).at { tmps:=tmps,defers:=[] } [.inRegion ops372 [4]]) (bc.at ac (.inRegion ops (i :: rest) :: k) :: cs)) (G (bc.at (ac.put o.dst (.tuple #[])) (.inRegion ops rest :: k)) cs):=by
 intro D Stop x w hD h
 rw [served_fr,Frame.finish_at]
 refine goesI_regionEnd hD ?_
 refine goesI_end hD ?_
 refine goesI_leave (b:=base 127) (fn:=Tryd.f127) rfl ?_ Tryd.func127 (res37 _) (ev37 _) ho hD h
 show (Act.put _ _ _).defers=[]
 unfold Act.put
 split<;>rfl
def set4 (v:World) (tb:Nat) (s o c m:Int):World:=(((v.setCell ⟨tb,3,none⟩ (I s)).setCell ⟨tb,5,none⟩ (I o)).setCell ⟨tb,4,none⟩ (I c)).setCell ⟨tb,6,none⟩ (I m)
theorem wait_goes {z:Nat→Option Nat} {Ch:Nat→Prop} {Stop:Goroutine→World→Prop} {h:Nat} {cont:Addr→Value} (tb wb id gc bk:Nat) (s o c st0 ce0 op0 se0:Int) (cv:Value) (l:List Int) (v w:World) (cs:List Frame) (Hm:Goroutine→Prop) {bc:Frame} {ac:Act} {ops:Array Oper} {i:Nat} {rest:List Nat} {oc:Oper} {k:List Item} (hoc:ops[i]? = some oc)
 (hH:∀ g,Back Tryd.prog (h==0) g (G (bc.at (ac.put oc.dst (.tuple #[])) (.inRegion ops rest :: k)) cs)→Hm g)
 (hvw:Rel z v w) (hn:NoRow Ch v) (hz:z tb=some 2) (ht:v.heap[tb]? = some (.cells (trow wb id gc st0 ce0 op0 se0) 107 (2,3))) (h3:v.cell? ⟨wb,3,none⟩=some cv) (hr:IntRow v cv l) (h8:v.cell? ⟨wb,8,none⟩=some (.chan (some bk))) (hne:tb≠wb)
 (hcont:cont ⟨tb,2,none⟩=.chan (some gc))
 (hstop:∀ g w',Lift.AtGive Tryd.prog (KC (ScZ z) cont) (StillC (ScZ z)) h bk (.agg #[]) (some (seatT gc Hm)) (fun w'=>∃ v',Rel z v' w'∧NoRow Ch v'∧v'.heap=(set4 v tb s o c (chgOf l c)).heap∧v'.os=v.os∧v'.output=v.output) g w'→Stop g w')
 (code:Code) (hc:Tryd.f127.body=some code) :
 GoesI Tryd.prog (h==0) (DT (ScZ z) Ch) Stop (G ((base 127).at { tmps:=#[Pt tb 0,I s,I o,I c]++Array.replicate 38 undef,defers:=[] } [.code code]) (bc.at ac (.inRegion ops (i :: rest) :: k) :: cs)) w:=by
 have hw0:code=.seq wait0 (seq2 (Tryd.f127.body.getD .skip)):=by
  rw [hc];obtain rfl:=Option.some.inj hc;rfl
 subst hw0
 clear hc
 refine goesI_seq (dt_idle _ _) ?_
 refine goesI_plain (z:=z) (wr:=true) (L:=LW) (I:=NoRow Ch) hE fineW noRow_keeps (fun v v' w w' es hi hr ho he=>dt_of_z v v' w w' es hi hr ho he) hvw fineWait0 rfl (by simp [base]) hn
  (Q:=fun a w'=>(∃ t12 t13 t14 t16 t17 t18 t19 t20 t21 t22 t23 t24 t25 t26 t27 t28,a={ tmps:=#[Pt tb 0,I s,I o,I c,undef,undef,undef,undef,Pt tb 0,Pt tb 0,Pt tb 0,Pt tb 0,t12,t13,t14,Pt tb 0,t16,t17,t18,t19,t20,t21,t22,t23,t24,t25,t26,t27,t28,undef,undef,undef,undef,undef,undef,undef,undef,undef,undef,undef,undef,undef],defers:=[] }) ∧
    w'.heap=(set4 v tb s o c (chgOf l c)).heap∧w'.os=v.os∧w'.output=v.output) (fun τ=>?_) ?_
 ·exact wp_mono (wait0_wp tb wb id gc s o c st0 ce0 op0 se0 (2,3) rfl cv l (onTape v τ 0) ht h3 hr) (fun e a w' hq=>⟨hq.1,hq.2.1,by rw [hq.2.2];rfl,by rw [hq.2.2];rfl,by rw [hq.2.2];rfl⟩)
 rintro a' v' w' ⟨⟨t12,t13,t14,t16,t17,t18,t19,t20,t21,t22,t23,t24,t25,t26,t27,t28,rfl⟩,hv1,hv2,hv3⟩ hr' hn' -
 have e0:w'.cell? ⟨tb,0,none⟩=some (Pt wb 0):=by
  rw [hr'.cell?]
  have:v.cell? ⟨tb,0,none⟩=some (Pt wb 0):=by simp [World.cell?,ht]
  rw [←this]
  show v'.cell? _=_
  unfold World.cell?
  rw [hv1]
  exact (show (set4 v tb s o c (chgOf l c)).cell? ⟨tb,0,none⟩=v.cell? ⟨tb,0,none⟩ from by
   unfold set4
   rw [World.cell?_setCell_other _ _ _ _ (by simp),World.cell?_setCell_other _ _ _ _ (by simp),World.cell?_setCell_other _ _ _ _ (by simp),World.cell?_setCell_other _ _ _ _ (by simp)])
 have e8:w'.cell? ⟨wb,8,none⟩=some (.chan (some bk)):=by
  rw [hr'.cell?,←h8]
  unfold World.cell?
  rw [hv1]
  exact (show (set4 v tb s o c (chgOf l c)).cell? ⟨wb,8,none⟩=v.cell? ⟨wb,8,none⟩ from by
   unfold set4
   rw [World.cell?_setCell_far _ _ _ _ hne,World.cell?_setCell_far _ _ _ _ hne,World.cell?_setCell_far _ _ _ _ hne,World.cell?_setCell_far _ _ _ _ hne])
 have HF:Hid (∃ v',Rel z v' w'∧NoRow Ch v'∧v'.heap=(set4 v tb s o c (chgOf l c)).heap∧v'.os=v.os∧v'.output=v.output):=⟨⟨v',hr',hn',hv1,hv2,hv3⟩⟩
 clear hv1 hv2 hv3 hr' hn' hvw hn ht h3 hr h8
 show GoesI Tryd.prog (h==0) (DT (ScZ z) Ch) Stop (G ((base 127).at _ [.code (seq2 (Tryd.f127.body.getD .skip))]) (bc.at ac (.inRegion ops (i :: rest) :: k) :: cs)) w'
 unfold Tryd.f127 seq2
 simp only [Option.getD_some]
 refine goesI_seq (dt_idle _ _) ?_
 refine goesI_region (dt_idle _ _) ?_
 simp only [List.size_toArray,List.length_cons,List.length_nil,Nat.reduceAdd,Nat.zero_add,List.range,List.range.loop]
 iterate 8
  (refine goesI_oper rfl rfl (by decide) (fun d K hK=>?_)
   go_simp
   refine hK _ _ ⟨dt_reads (fun e he=>?_),GoesI.at ?_ d⟩
   ·have hm:=mem_listed he
    simp [go_sem, *] at hm
    try exact ⟨_,_,hm⟩
   clear hK K)
 refine GoesI.stop fun d=>hstop _ _ (give_at (z':=.tuple #[]) 7 (tb+1) rfl rfl (by decide) (fun w=>by simp [execOp,scase,Act.eval]) (fun w=>by simp [go_sem,execOp,Act.eval]) ?_ (Nat.succ_le_of_lt (World.block_lt_of_cell? _ _ e0)) (fun B hB T hT=>?_))
 ·obtain ⟨v',k1,k2⟩:=HF.out
  exact ⟨v',k1.re rfl rfl rfl rfl rfl rfl,k2⟩
 ·clear HF hstop e0 e8
  refine .inl ⟨6,w',rfl,?_⟩
  rw [served_fr,Frame.finish_at]
  k_c stepG_region_end
  k_reg
  iterate 3
   (k_in
    refine goes_oper_k rfl rfl (by decide) (fun K hK=>?_)
    go_simp
    refine hK _ _ ⟨⟨rfl,fun e he=>by (have hm:=mem_listed he;simp [go_sem, *] at hm)⟩,?_⟩
    clear hK K)
  k_in
  have q2:=h₁ ⟨tb,2,none⟩ ⟨rfl,hz⟩
  rw [hcont] at q2
  refine goes_oper_k rfl rfl (by decide) (fun K hK=>?_)
  go_simp
  refine hK _ _ ⟨⟨rfl,fun e he=>by (have hm:=mem_listed he;simp [go_sem, *] at hm;subst hm;exact evC_read _ ⟨_,rfl,rfl,hz⟩ (by simp;omega))⟩,?_⟩
  clear hK K
  refine Goes.stop fun w₂ h₂=>⟨_,atIn_of (s:=seatT gc Hm) rfl rfl (by decide) (fun w=>?_) (fun w=>?_) (hH _ (back37 _ hoc))⟩
  ·simp [go_sem,execOp,rcase,Act.eval,seatT,Seat.one]
  ·simp [go_sem,execOp,Act.eval]
theorem res26 (tmps:Array Value):∀ (w:World),(results Tryd.f106 tmps).run Tryd.prog w=.ok (.tuple #[]) w:=fun _=>results_none rfl _ _ _
theorem ev26 (tmps:Array Value):∀ (w:World),(results Tryd.f106 tmps).events Tryd.prog w #[]=#[]:=fun _=>by simp [results,go_sem]
def GiveT (z:Nat→Option Nat) (cont:Addr→Value) (h bk gc:Nat) (Hm:Goroutine→Prop) (F:World→Prop):Goroutine→World→Prop:=Lift.AtGive Tryd.prog (KC (ScZ z) cont) (StillC (ScZ z)) h bk (.agg #[]) (some (seatT gc Hm)) F
theorem turn_goes {z:Nat→Option Nat} {Ch:Nat→Prop} {Stop:Goroutine→World→Prop} {h:Nat} {cont:Addr→Value} (tb wb id gc bk:Nat) (o c st0 ce0 op0 se0:Int) (cv:Value) (l:List Int) (v w:World) (cs:List Frame) (Hm:Goroutine→Prop) {bc:Frame} {ac:Act} {ops:Array Oper} {i:Nat} {rest:List Nat} {oc:Oper} {k:List Item} (hoc:ops[i]? = some oc)
 (hH:∀ g,Back Tryd.prog (h==0) g (G (bc.at (ac.put oc.dst (.tuple #[])) (.inRegion ops rest :: k)) cs)→Hm g)
 (hvw:Rel z v w) (hn:NoRow Ch v) (hz:z tb=some 2) (ht:v.heap[tb]? = some (.cells (trow wb id gc st0 ce0 op0 se0) 107 (2,3))) (h3:v.cell? ⟨wb,3,none⟩=some cv) (hr:IntRow v cv l) (h8:v.cell? ⟨wb,8,none⟩=some (.chan (some bk))) (hne:tb≠wb)
 (hcont:cont ⟨tb,2,none⟩=.chan (some gc))
 (hstop:∀ g w',GiveT z cont h bk gc Hm (fun w'=>∃ v',Rel z v' w'∧NoRow Ch v'∧v'.heap=(set4 v tb 1 o c (chgOf l c)).heap∧v'.os=v.os∧v'.output=v.output) g w'→Stop g w')
 (code:Code) (hc:Tryd.f106.body=some code) :
 GoesI Tryd.prog (h==0) (DT (ScZ z) Ch) Stop (G ((base 106).at { tmps:=#[Pt tb 0,I c,I o]++Array.replicate 12 undef,defers:=[] } [.code code]) (bc.at ac (.inRegion ops (i :: rest) :: k) :: cs)) w:=by
 obtain rfl:=Option.some.inj hc
 clear hc
 have e0:v.cell? ⟨tb,0,none⟩=some (Pt wb 0):=by simp [World.cell?,ht]
 have HT:Hid (v.heap[tb]? = some (.cells (trow wb id gc st0 ce0 op0 se0) 107 (2,3))):=⟨ht⟩
 clear ht
 simp only [Array.replicate_succ,Array.replicate_zero,List.push_toArray,List.append_toArray,List.nil_append,List.cons_append]
 refine goesI_seq (dt_idle _ _) ?_
 refine goesI_look hE fineW hvw hn (fineCode_of (fs:=[]) (fun _ h=>by simp at h) (by kernel_rfl)) rfl (by simp [base])
  (a':={ tmps:=#[Pt tb 0,I c,I o,undef,undef,undef,Pt tb 0,Pt tb 0,Pt tb 0,Pt wb 0,.bool true,undef,undef,undef,undef],defers:=[] }) (fun τ=>?_) (fun w' hvw'=>?_)
 ·have e0':(onTape v τ 0).cell? ⟨tb,0,none⟩=some (Pt wb 0):=e0
  go_wp2_with fail
  exact ⟨rfl,rfl,rfl⟩
 clear hvw
 refine goesI_cond (dt_idle _ _) (t:=true) rfl ?_
 simp only [if_true]
 refine goesI_region (dt_idle _ _) ?_
 simp only [List.size_toArray,List.length_cons,List.length_nil,Nat.reduceAdd,Nat.zero_add,List.range,List.range.loop]
 iterate 3
  (refine goesI_oper rfl rfl (by decide) (fun d K hK=>?_)
   go_simp
   refine hK _ _ ⟨dt_reads (fun e he=>?_),GoesI.at ?_ d⟩
   ·have hm:=mem_listed he
    simp [go_sem, *] at hm
   clear hK K)
 refine goesI_into (f:=127) (fn:=Tryd.f127) (args:=#[Pt tb 0,I 1,I o,I c]) (dt_idle _ _) rfl rfl (by decide) rfl (by simp [Act.eval]) Tryd.func127 (by decide) rfl ?_
 refine wait_goes tb wb id gc bk 1 o c st0 ce0 op0 se0 cv l v w' _ Hm rfl (fun g hg=>hH g (hg.then fun D' St u hD' hu=>?_)) hvw' hn hz HT.out h3 hr h8 hne hcont hstop _ rfl
 refine goesI_regionEnd hD' ?_
 refine goesI_end hD' ?_
 exact goesI_leave (b:=base 106) (fn:=Tryd.f106) rfl rfl Tryd.func106 (res26 _) (ev26 _) hoc hD' hu
theorem give_mono {z:Nat→Option Nat} {cont:Addr→Value} {h bk gc:Nat} {Hm:Goroutine→Prop} {F F':World→Prop} {g:Goroutine} {w:World} (hF:F w→F' w) (hg:GiveT z cont h bk gc Hm F g w):GiveT z cont h bk gc Hm F' g w :=
 ⟨hg.1,hF hg.2.1,hg.2.2⟩
theorem int_row {w:World} {base:Nat} {v:Value} {l:List Int} (h:w.ownsRow base 3 1 v l.length (l.map I)):IntRow w v l:=by
 rcases h.2 with ⟨rfl,h0⟩|⟨g,cap,cur,rfl,hb,hh,hle,_,hsz,htake⟩
 ·exact .inl ⟨List.length_eq_zero_iff.1 h0,rfl⟩
 ·refine .inr ⟨g,cap,rfl,fun i x hx=>?_⟩
  have hc:i<l.length:=(List.getElem?_eq_some_iff.1 hx).1
  have e:(l.map I)[i]? = some (I x):=by simp [hx]
  rw [←htake,Nat.mul_one,List.getElem?_take_of_lt hc] at e
  simp only [World.cell?,hh,Option.isSome_none,Bool.false_eq_true,if_false]
  simpa using e
def Then (z:Nat→Option Nat) (Ch:Nat→Prop) (S:TS) (K:List (Nat×Int)) (v:World) (S':TS) (K':List (Nat×Int)) (w':World):Prop:=∃ v',Rel z v' w'∧NoRow Ch v'∧Evo z S K v S' K' v'
theorem turn_mem {z:Nat→Option Nat} {Ch:Nat→Prop} {Stop:Goroutine→World→Prop} {h:Nat} {cont:Addr→Value} {S:TS} {K:List (Nat×Int)} {v w:World} {i:Nat} {t:Thr} (o c:Int) (cs:List Frame) (Hm:Goroutine→Prop) {bc:Frame} {ac:Act} {ops:Array Oper} {j:Nat} {rest:List Nat} {oc:Oper} {k:List Item} (hoc:ops[j]? = some oc)
 (hH:∀ g,Back Tryd.prog (h==0) g (G (bc.at (ac.put oc.dst (.tuple #[])) (.inRegion ops rest :: k)) cs)→Hm g)
 (hvw:Rel z v w) (hn:NoRow Ch v) (hm:Mem z S K v) (ht:S.thr[i]? = some t) (hz:z t.tb=some 2) (hcont:cont ⟨t.tb,2,none⟩=.chan (some t.gc))
 (hstop:∀ g w',GiveT z cont h S.bk t.gc Hm (Then z Ch S K v (waiting S i t 1 o c) K) g w'→Stop g w') (code:Code) (hc:Tryd.f106.body=some code) :
 GoesI Tryd.prog (h==0) (DT (ScZ z) Ch) Stop (G ((base 106).at { tmps:=#[Pt t.tb 0,I c,I o]++Array.replicate 12 undef,defers:=[] } [.code code]) (bc.at ac (.inRegion ops (j :: rest) :: k) :: cs)) w:=by
 have hrow:=hm.rep.thr i t ht
 have hfz:fz z t.tb=(2,3):=by unfold fz;rw [hz]
 rw [hfz] at hrow
 refine turn_goes t.tb S.wb i t.gc S.bk o c t.st t.ce t.op t.se S.cv S.chg v w cs Hm hoc hH hvw hn hz hrow hm.rep.wcell.2.2.2.1 (int_row hm.rep.chg) hm.rep.wcell.2.2.2.2.2.2.2.2 (fun e=>by have:=hm.rep.apart 0 (i+5) S.wb rfl (by simp [blk,ht,e]);omega) hcont (fun g w' hg=>hstop g w' (give_mono (fun hF=>?_) hg)) code hc
 obtain ⟨v',k1,k2,k3,k4,k5⟩:=hF
 refine ⟨v',k1,k2,Evo.of_ev hm ((wait_ev hm.rep ht 1 o c).same k3 ?_ ?_) rfl⟩
 ·rw [k4];rfl
 ·rw [k5];rfl
def OpBack (main:Bool) (i j cb tb:Nat) (opn:Int) (eff:Int→(Int×Int)×Int×Value) (cl:Value→Goroutine) (g:Goroutine):Prop :=
 ∀ (z:Nat→Option Nat) (Ch:Nat→Prop) (Stop:Goroutine→World→Prop) (y:Value) (w v:World) (S:TS) (K:List (Nat×Int)) (t:Thr) (x:Int),Rel z v w→NoRow Ch v→Mem z S K v→S.thr[i]? = some t→t.tb=tb→t.op=opn→t.ce=(j:Int)→K[j]? = some (cb,x)→(S.n+1)*40≤140737488355328 →
   (∀ v' w' tv,Rel z v' w'→NoRow Ch v'→Evo z S K v (didS S tv i t (eff x).1.1 (eff x).1.2) (K.set j (cb,(eff x).2.1)) v'→GoesI Tryd.prog main (DT (ScZ z) Ch) Stop (cl (eff x).2.2) w') →
   GoesI Tryd.prog main (DT (ScZ z) Ch) Stop (Go.Conc.served g y) w
theorem Evo.did {z:Nat→Option Nat} {S:TS} {K K':List (Nat×Int)} {v v1 v2:World} {tv:Value} {i:Nat} {t:Thr} {b a:Int} (h:Evo z S K v S K' v1) (k:Ev z S v1 (didS S tv i t b a) v2):Evo z S K v (didS S tv i t b a) K' v2 :=
 h.trans (Evo.of_ev h.mem k (didS_len _ _ _ _ _))
theorem bp_mono {fn:Func} {R R':Value→World→Prop} (h:∀ r w,R r w→R' r w) (e:Exit) (a:Act) (w:World) (hq:bodyPost Tryd.prog fn (fun e w'=>∃ r,e=.returned r∧R r w') e a w):bodyPost Tryd.prog fn (fun e w'=>∃ r,e=.returned r∧R' r w') e a w:=by
 cases e with
 |normal=>obtain ⟨q1,x,q2,y,q3,q4⟩:=hq;exact ⟨q1,x,q2,y,q3,h _ _ q4⟩
 |ret=>obtain ⟨q1,x,q2,y,q3,q4⟩:=hq;exact ⟨q1,x,q2,y,q3,h _ _ q4⟩
 |panic ch=>obtain ⟨q1,y,q3,q4⟩:=hq;cases q3
 |outgrown=>obtain ⟨y,q3,q4⟩:=hq;cases q3
 |_=>exact hq.elim
theorem set_same {α:Type} {l:List α} {j:Nat} {c:α} (h:l[j]? = some c):l.set j c=l:=by
 apply List.ext_getElem?
 intro i
 rw [List.getElem?_set]
 by_cases e:j=i
 ·subst e;rw [if_pos rfl,if_pos (List.getElem?_eq_some_iff.1 h).1,h]
 ·rw [if_neg e]
def effLoad (x:Int):(Int×Int)×Int×Value:=((x,x),x,I x)
noncomputable def rest17:Code:=seq2 (seq2 (Tryd.f73.body.getD .skip))
theorem fine17:fineCode Tryd.prog true LT rest17:=fineCode_ask callT extT (by kernel_rfl)
theorem tail17 {z:Nat→Option Nat} {S:TS} {K:List (Nat×Int)} {v:World} {i j cb:Nat} {t:Thr} {x:Int} (hm:Mem z S K v) (ht:S.thr[i]? = some t) (hK:K[j]? = some (cb,x)) (hn:(S.n+1)*40≤140737488355328) (a6 a7 a8 a9 a10 a11:Value) :
 rest17.wp Tryd.prog (bodyPost Tryd.prog Tryd.f73 (fun e w'=>∃ r,e=.returned r∧(r=(effLoad x).2.2∧∃ tv,Evo z S K v (didS S tv i t (effLoad x).1.1 (effLoad x).1.2) (K.set j (cb,(effLoad x).2.1)) w')))
  { tmps:=#[Pt cb 0,Pt t.tb 0,undef,undef,I 0,undef,a6,a7,a8,a9,a10,a11,undef,undef,undef,undef,undef,undef,undef,undef,undef],defers:=[] } v:=by
 obtain ⟨_,c1,f1⟩:=hm.cells hK
 have HM:Hid (Mem z S K v):=⟨hm⟩
 have HW:Hid (Evo z S K v S (K.set j (cb,x)) v):=⟨by rw [set_same hK];exact Evo.refl hm⟩
 clear hm hK
 simp only at c1 f1
 show Code.wp Tryd.prog (seq2 (seq2 (Tryd.f73.body.getD .skip))) _ _ _
 unfold Tryd.f73 seq2
 simp only [Option.getD_some]
 go_wp2_with (first
  |(go_at_call 107;refine ((body29 cb x _ c1).calls Tryd.func107 rfl).mono ?_;rintro e w1 ⟨_,rfl,rfl,rfl⟩)
  |(go_at_call 108;refine ((body27 HW.out.mem.rep ht x x hn).calls Tryd.func108 rfl).mono ?_;rintro e w2 ⟨_,rfl,rfl,tv,hev⟩))
 go_ret
 exact ⟨_,rfl,rfl,tv,HW.out.did hev⟩
theorem res17 (tmps:Array Value):∃ v,(∀ w,(results Tryd.f73 tmps).run Tryd.prog w=.ok v w)∧∀ w,(results Tryd.f73 tmps).events Tryd.prog w #[]=#[] :=
 ⟨_,fun _=>results_tmp rfl _ _ _,fun _=>by simp [results,go_sem]⟩
theorem load_goes {z:Nat→Option Nat} {Ch:Nat→Prop} {Stop:Goroutine→World→Prop} {h:Nat} {cont:Addr→Value} {S:TS} {K:List (Nat×Int)} {v w:World} {i j cb:Nat} {t:Thr} (x:Int) (cs:List Frame) (Hm:Goroutine→Prop) {bc:Frame} {ac:Act} {ops:Array Oper} {q:Nat} {rest:List Nat} {oc:Oper} {k:List Item} (hoc:ops[q]? = some oc)
 (hH:∀ g,OpBack (h==0) i j cb t.tb 1 effLoad (fun r=>G (bc.at (ac.put oc.dst r) (.inRegion ops rest :: k)) cs) g→Hm g)
 (hvw:Rel z v w) (hn:NoRow Ch v) (hm:Mem z S K v) (ht:S.thr[i]? = some t) (hK:K[j]? = some (cb,x)) (hz:z t.tb=some 2) (hcont:cont ⟨t.tb,2,none⟩=.chan (some t.gc))
 (hstop:∀ g w',GiveT z cont h S.bk t.gc Hm (Then z Ch S K v (waiting S i t 1 1 j) K) g w'→Stop g w') (code:Code) (hc:Tryd.f73.body=some code) :
 GoesI Tryd.prog (h==0) (DT (ScZ z) Ch) Stop (G ((base 73).at { tmps:=#[Pt cb 0,Pt t.tb 0]++Array.replicate 19 undef,defers:=[] } [.code code]) (bc.at ac (.inRegion ops (q :: rest) :: k) :: cs)) w:=by
 obtain rfl:=Option.some.inj hc
 clear hc
 have e0:w.cell? ⟨cb,0,none⟩=some (I j):=by rw [hvw.cell?];exact (hm.cells hK).1
 simp only [Array.replicate_succ,Array.replicate_zero,List.push_toArray,List.append_toArray,List.nil_append,List.cons_append]
 have HM:Hid (Mem z S K v):=⟨hm⟩
 clear hm
 refine goesI_seq (dt_idle _ _) ?_
 refine goesI_region (dt_idle _ _) ?_
 simp only [List.size_toArray,List.length_cons,List.length_nil,Nat.reduceAdd,Nat.zero_add,List.range,List.range.loop]
 (refine goesI_oper rfl rfl (by decide) (fun d K hK=>?_)
  go_simp
  refine hK _ _ ⟨dt_reads (fun e he=>?_),GoesI.at ?_ d⟩
  ·have hm:=mem_listed he
   simp [go_sem, *] at hm
  clear hK K)
 refine goesI_regionEnd (dt_idle _ _) ?_
 refine goesI_seq (dt_idle _ _) ?_
 refine goesI_region (dt_idle _ _) ?_
 simp only [List.size_toArray,List.length_cons,List.length_nil,Nat.reduceAdd,Nat.zero_add,List.range,List.range.loop]
 iterate 5
  (refine goesI_oper rfl rfl (by decide) (fun d K hK=>?_)
   go_simp
   refine hK _ _ ⟨dt_reads (fun e he=>?_),GoesI.at ?_ d⟩
   ·have hm:=mem_listed he
    simp [go_sem, *] at hm
    try exact ⟨_,_,hm⟩
   clear hK K)
 refine goesI_into (f:=106) (fn:=Tryd.f106) (args:=#[Pt t.tb 0,I j,I 1]) (dt_idle _ _) rfl rfl (by decide) rfl (by simp [Act.eval]) Tryd.func106 (by decide) rfl ?_
 refine turn_mem 1 j _ Hm rfl (fun g hg=>hH g ?_) hvw hn HM.out ht hz hcont hstop _ rfl
 intro z1 Ch1 St yy w1 v1 S1 K1 t1 x1 r1 n1 m1 h1 htb hop hce hK1 hn1 hk
 refine hg _ St yy w1 (dt_idle _ _) ?_
 refine goesI_regionEnd (dt_idle _ _) ?_
 rw [←htb]
 refine goesI_rest (f:=73) (fn:=Tryd.f73) (c:=rest17) hE fineT r1 n1 Tryd.func73 fine17 rfl hoc res17 (fun τ=>?_) (fun r v' w' hR hr' hn'=>?_) (R:=fun r w'=>r=(effLoad x1).2.2∧∃ tv,Evo z1 S1 K1 v1 (didS S1 tv i t1 (effLoad x1).1.1 (effLoad x1).1.2) (K1.set j (cb,(effLoad x1).2.1)) w')
 ·refine wp_mono (tail17 (m1.same (v':=onTape v1 τ 0) rfl) h1 hK1 hn1 _ _ _ _ _ _) (bp_mono fun r u hq=>⟨hq.1,hq.2.choose,hq.2.choose_spec.base rfl rfl rfl⟩)
 ·obtain ⟨rfl,tv,he⟩:=hR
  exact hk v' w' tv hr' hn' he
def effCas (a y x:Int):(Int×Int)×Int×Value:=if x=a then ((a,y),y,.bool true) else ((x,x),x,.bool false)
noncomputable def rest14:Code:=seq2 (seq2 (Tryd.f77.body.getD .skip))
theorem fine14:fineCode Tryd.prog true LT rest14:=fineCode_ask callT extT (by kernel_rfl)
theorem tail14 {z:Nat→Option Nat} {S:TS} {K:List (Nat×Int)} {v:World} {i j cb:Nat} {t:Thr} {x:Int} {a y:Int} (hm:Mem z S K v) (ht:S.thr[i]? = some t) (hK:K[j]? = some (cb,x)) (hn:(S.n+1)*40≤140737488355328) (a10 a11 a12 a13 a14 a15:Value) :
 rest14.wp Tryd.prog (bodyPost Tryd.prog Tryd.f77 (fun e w'=>∃ r,e=.returned r∧(r=(effCas a y x).2.2∧∃ tv,Evo z S K v (didS S tv i t (effCas a y x).1.1 (effCas a y x).1.2) (K.set j (cb,(effCas a y x).2.1)) w')))
  { tmps:=#[Pt cb 0,Pt t.tb 0,I a,I y,undef,undef,undef,undef,.bool false,undef,a10,a11,a12,a13,a14,a15,undef,undef,undef,undef,undef,undef,undef,undef,undef,undef,undef,undef,undef,undef,undef,undef,undef,undef],defers:=[] } v:=by
 obtain ⟨_,c1,f1⟩:=hm.cells hK
 have HM:Hid (Mem z S K v):=⟨hm⟩
 by_cases hx:x=a
 ·subst hx
  have HW:Hid (Evo z S K v S (K.set j (cb,y)) (v.setCell ⟨cb,1,none⟩ (I y))):=⟨Evo.write hm hK _⟩
  have HQ:Hid (effCas x y x=((x,y),y,.bool true)):=⟨by simp [effCas]⟩
  rw [HQ.out]
  clear hm hK
  simp only at c1 f1
  show Code.wp Tryd.prog (seq2 (seq2 (Tryd.f77.body.getD .skip))) _ _ _
  unfold Tryd.f77 seq2
  simp only [Option.getD_some]
  go_wp2_with (first
   |(go_at_call 111;refine ((body28 cb x y _ c1 f1).calls Tryd.func111 rfl).mono ?_;rintro e w1 ⟨_,rfl,rfl,rfl⟩)
   |(go_at_call 108;refine ((body27 HW.out.mem.rep ht x y hn).calls Tryd.func108 rfl).mono ?_;rintro e w2 ⟨_,rfl,rfl,tv,hev⟩))
  go_ret
  exact ⟨_,rfl,rfl,tv,HW.out.did hev⟩
 have HW:Hid (Evo z S K v S (K.set j (cb,x)) v):=⟨by rw [set_same hK];exact Evo.refl hm⟩
 have HQ:Hid (effCas a y x=((x,x),x,.bool false)):=⟨by simp [effCas,hx]⟩
 rw [HQ.out]
 clear hm hK
 simp only at c1 f1
 show Code.wp Tryd.prog (seq2 (seq2 (Tryd.f77.body.getD .skip))) _ _ _
 unfold Tryd.f77 seq2
 simp only [Option.getD_some]
 go_wp2_with (first
  |(go_at_call 111;refine ((body28n cb x a y _ c1 f1 hx).calls Tryd.func111 rfl).mono ?_;rintro e w1 ⟨_,rfl,rfl,rfl⟩)
  |(go_at_call 107;refine ((body29 cb x _ c1).calls Tryd.func107 rfl).mono ?_;rintro e w1 ⟨_,rfl,rfl,rfl⟩)
  |(go_at_call 108;refine ((body27 HW.out.mem.rep ht x x hn).calls Tryd.func108 rfl).mono ?_;rintro e w2 ⟨_,rfl,rfl,tv,hev⟩))
 go_ret
 exact ⟨_,rfl,rfl,tv,HW.out.did hev⟩
theorem res14 (tmps:Array Value):∃ v,(∀ w,(results Tryd.f77 tmps).run Tryd.prog w=.ok v w)∧∀ w,(results Tryd.f77 tmps).events Tryd.prog w #[]=#[] :=
 ⟨_,fun _=>results_tmp rfl _ _ _,fun _=>by simp [results,go_sem]⟩
theorem cas_goes {z:Nat→Option Nat} {Ch:Nat→Prop} {Stop:Goroutine→World→Prop} {h:Nat} {cont:Addr→Value} {S:TS} {K:List (Nat×Int)} {v w:World} {i j cb:Nat} {t:Thr} (a y:Int) (x:Int) (cs:List Frame) (Hm:Goroutine→Prop) {bc:Frame} {ac:Act} {ops:Array Oper} {q:Nat} {rest:List Nat} {oc:Oper} {k:List Item} (hoc:ops[q]? = some oc)
 (hH:∀ g,OpBack (h==0) i j cb t.tb 4 (effCas a y) (fun r=>G (bc.at (ac.put oc.dst r) (.inRegion ops rest :: k)) cs) g→Hm g)
 (hvw:Rel z v w) (hn:NoRow Ch v) (hm:Mem z S K v) (ht:S.thr[i]? = some t) (hK:K[j]? = some (cb,x)) (hz:z t.tb=some 2) (hcont:cont ⟨t.tb,2,none⟩=.chan (some t.gc))
 (hstop:∀ g w',GiveT z cont h S.bk t.gc Hm (Then z Ch S K v (waiting S i t 1 4 j) K) g w'→Stop g w') (code:Code) (hc:Tryd.f77.body=some code) :
 GoesI Tryd.prog (h==0) (DT (ScZ z) Ch) Stop (G ((base 77).at { tmps:=#[Pt cb 0,Pt t.tb 0,I a,I y]++Array.replicate 30 undef,defers:=[] } [.code code]) (bc.at ac (.inRegion ops (q :: rest) :: k) :: cs)) w:=by
 obtain rfl:=Option.some.inj hc
 clear hc
 have e0:w.cell? ⟨cb,0,none⟩=some (I j):=by rw [hvw.cell?];exact (hm.cells hK).1
 simp only [Array.replicate_succ,Array.replicate_zero,List.push_toArray,List.append_toArray,List.nil_append,List.cons_append]
 have HM:Hid (Mem z S K v):=⟨hm⟩
 clear hm
 refine goesI_seq (dt_idle _ _) ?_
 refine goesI_region (dt_idle _ _) ?_
 simp only [List.size_toArray,List.length_cons,List.length_nil,Nat.reduceAdd,Nat.zero_add,List.range,List.range.loop]
 (refine goesI_oper rfl rfl (by decide) (fun d K hK=>?_)
  go_simp
  refine hK _ _ ⟨dt_reads (fun e he=>?_),GoesI.at ?_ d⟩
  ·have hm:=mem_listed he
   simp [go_sem, *] at hm
  clear hK K)
 refine goesI_regionEnd (dt_idle _ _) ?_
 refine goesI_seq (dt_idle _ _) ?_
 refine goesI_region (dt_idle _ _) ?_
 simp only [List.size_toArray,List.length_cons,List.length_nil,Nat.reduceAdd,Nat.zero_add,List.range,List.range.loop]
 iterate 5
  (refine goesI_oper rfl rfl (by decide) (fun d K hK=>?_)
   go_simp
   refine hK _ _ ⟨dt_reads (fun e he=>?_),GoesI.at ?_ d⟩
   ·have hm:=mem_listed he
    simp [go_sem, *] at hm
    try exact ⟨_,_,hm⟩
   clear hK K)
 refine goesI_into (f:=106) (fn:=Tryd.f106) (args:=#[Pt t.tb 0,I j,I 4]) (dt_idle _ _) rfl rfl (by decide) rfl (by simp [Act.eval]) Tryd.func106 (by decide) rfl ?_
 refine turn_mem 4 j _ Hm rfl (fun g hg=>hH g ?_) hvw hn HM.out ht hz hcont hstop _ rfl
 intro z1 Ch1 St yy w1 v1 S1 K1 t1 x1 r1 n1 m1 h1 htb hop hce hK1 hn1 hk
 refine hg _ St yy w1 (dt_idle _ _) ?_
 refine goesI_regionEnd (dt_idle _ _) ?_
 rw [←htb]
 refine goesI_rest (f:=77) (fn:=Tryd.f77) (c:=rest14) hE fineT r1 n1 Tryd.func77 fine14 rfl hoc res14 (fun τ=>?_) (fun r v' w' hR hr' hn'=>?_) (R:=fun r w'=>r=(effCas a y x1).2.2∧∃ tv,Evo z1 S1 K1 v1 (didS S1 tv i t1 (effCas a y x1).1.1 (effCas a y x1).1.2) (K1.set j (cb,(effCas a y x1).2.1)) w')
 ·refine wp_mono (tail14 (m1.same (v':=onTape v1 τ 0) rfl) h1 hK1 hn1 _ _ _ _ _ _) (bp_mono fun r u hq=>⟨hq.1,hq.2.choose,hq.2.choose_spec.base rfl rfl rfl⟩)
 ·obtain ⟨rfl,tv,he⟩:=hR
  exact hk v' w' tv hr' hn' he
end Go.Proofs.YtfjjoohflcchnaaDoor
namespace Go.Lift
open Go.Conc
section
variable {P:Program} {main:Bool} {Stop:Goroutine→World→Prop} {k:List Item} {cs:List Frame} {w:World} {ops:Array Oper} {i:Nat} {rest:List Nat} {o:Oper}
theorem goesI_leaveZ {z:Nat→Option Nat} {Ch:Nat→Prop} {f:FuncId} {fn:Func} {a:Act} {todo:List Item} {bc:Frame} {ac:Act} {x:Value} {v:World} (hvw:Rel z v w) (hn:NoRow Ch v) (hf:P.funcs[f]? = some fn) (ha:a.defers=[]) (ho:ops[i]? = some o)
 (hx:(results fn a.tmps).run P v=.ok x v)
 (h:∀ w',Rel z v w'→GoesI P main (DT (ScZ z) Ch) Stop (G (bc.at (ac.put o.dst x) (.inRegion ops rest :: k)) cs) w') :
 GoesI P main (DT (ScZ z) Ch) Stop (G { (base f).at a todo with mode:=.returning } (bc.at ac (.inRegion ops (i :: rest) :: k) :: cs)) w:=by
 have hT:(results fn a.tmps).runT P v #[]=(.ok x v,(results fn a.tmps).events P v #[]):=by
  have:=runT_fst (P:=P) (results fn a.tmps) v #[]
  rw [hx] at this
  exact Prod.ext this rfl
 have hfin:(bc.at ac (.inRegion ops (i :: rest) :: k)).finish x=bc.at (ac.put o.dst x) (.inRegion ops rest :: k):=by rw [Frame.finish_at,ho];rfl
 have one:∀ d,∃ w',Out z true v v (w.at d) w'∧(∀ e∈seen P f ((results fn a.tmps).events P (w.at d) #[]),Okay true e∧Spares z w' e) ∧
  stepG P main (G { (base f).at a todo with mode:=.returning } (bc.at ac (.inRegion ops (i :: rest) :: k) :: cs)) (w.at d)=.go (G (bc.at (ac.put o.dst x) (.inRegion ops rest :: k)) cs) w' (seen P f ((results fn a.tmps).events P (w.at d) #[])):=fun d=>by
  obtain ⟨w',h1,h2,h3⟩:=sim z _ (calm_results (P:=P) (wr:=true) fn a.tmps) v (w.at d) #[] x v _ (hvw.re rfl rfl rfl rfl rfl rfl) hT (fun i hi=>absurd hi (by omega))
  have e1:(results fn a.tmps).run P (w.at d)=.ok x w':=by rw [←runT_fst (P:=P) _ (w.at d) #[],h1]
  have e2:(results fn a.tmps).events P (w.at d) #[]=(results fn a.tmps).events P v #[]:=by
   show ((results fn a.tmps).runT P (w.at d) #[]).2=_
   rw [h1]
  refine ⟨w',h2,fun e he=>?_,?_⟩
  ·rw [e2] at he
   rcases h3 e (mem_seen he) with h|h
   ·simp at h
   ·exact h
  ·have:=stepG_back (P:=P) (main:=main) (b:=base f) (cs:=cs) (todo:=todo) (c:=bc.at ac (.inRegion ops (i :: rest) :: k)) rfl ha hf e1
   rw [hfin] at this
   exact this
 exact .step rfl _ (fun d=>(one d).choose) _ (fun d=>(one d).choose_spec.2.2) (fun d=>dt_of_z v v (w.at d) _ _ hn (hvw.re rfl rfl rfl rfl rfl rfl) (one d).choose_spec.1 (one d).choose_spec.2.1) (fun d=>h _ (one d).choose_spec.1.rel)
end
end Go.Lift
namespace Go.Proofs.YtfjjoohflcchnaaDoor
open Go Go.Lift Go.Conc Go.RowKit
theorem body43 {z:Nat→Option Nat} {S:TS} {v:World} (h:Rep z S v) {i:Nat} {t:Thr} (ht:S.thr[i]? = some t) (op a b:Int) (hn:(S.n+1)*40≤140737488355328) :
 Body Tryd.f118 #[Pt t.tb 0,I op,I a,I b] v (fun r v'=>r=.tuple #[]∧∃ tv,Ev z S v (noted S tv i op (-1) a b) v'):=by
 intro code hb
 obtain rfl:=Option.some.inj hb
 clear hb
 simp only [Tryd.ntmps118,List.size_toArray,List.length_cons,List.length_nil,Nat.reduceAdd,Nat.reduceSub,Array.replicate_succ,Array.replicate_zero,List.push_toArray,List.append_toArray,List.nil_append,List.cons_append]
 obtain ⟨c0,_,_,_,_,_,_⟩:=h.cell ht
 have HR:Hid (Rep z S v):=⟨h⟩
 clear h
 go_wp2_with (go_at_call 128;refine ((note_rep HR.out ht op (-1) a b hn).calls Tryd.func128 rfl).mono ?_;rintro e w1 ⟨_,rfl,rfl,tv,hev⟩)
 exact ⟨rfl,_,results_none rfl _ _ _,_,rfl,rfl,tv,hev⟩
section
variable {z:Nat→Option Nat} {S:TS} {K:List (Nat×Int)} {v v':World}
structure Grows (v v':World):Prop where
 size:v.heap.size≤v'.heap.size
 old:∀ b,b<v.heap.size→v'.heap[b]? = v.heap[b]?
 os:v'.os=v.os
 output:v'.output=v.output
theorem Grows.cell {a:Addr} {x:Value} (h:Grows v v') (hc:v.cell? a=some x):v'.cell? a=some x:=by
 rw [World.cell?_of_block (h.old a.block (World.block_lt_of_cell? _ _ hc))];exact hc
theorem Mem.grows (h:Mem z S K v) (g:Grows v v'):Evo z S K v S K v':=by
 have hst:∀ b,Own S K b→v'.heap[b]? = v.heap[b]?:=fun b hb=>g.old b (h.lt hb)
 have hits:∀ k b,blk S k=some b→v'.heap[b]? = v.heap[b]?:=fun k b hk=>hst b (.inl ⟨k,hk⟩)
 refine ⟨⟨⟨by rw [hits 0 S.wb rfl];exact h.rep.wor,fun i t ht=>by rw [hits (i+5) t.tb (by simp [blk,ht])];exact h.rep.thr i t ht,own_stay (fun b hb=>hits 3 b hb) h.rep.own,own_stay (fun b hb=>hits 1 b hb) h.rep.chg,own_stay (fun b hb=>hits 2 b hb) h.rep.ths,own_stay (fun b hb=>hits 4 b hb) h.rep.sch,
  Nat.le_trans h.rep.bs g.size,h.rep.apart,h.rep.kept⟩,fun j c hc=>by rw [hst c.1 (.inr ⟨j,c,hc,rfl⟩)];exact h.cel j c hc,h.far,h.inj,h.len⟩,rfl,⟨g.os,g.output,g.size,fun b hb _=>g.old b hb⟩,fun b hb=>.inl hb⟩
end
structure EvoP (Pr:Nat→Prop) (z:Nat→Option Nat) (S:TS) (K:List (Nat×Int)) (v:World) (S':TS) (K':List (Nat×Int)) (v':World):Prop where
 mem:Mem z S' K' v'
 blks:K'.map (·.1)=K.map (·.1)
 fr:Fr (fun b=>Own S K b∨Pr b) v v'
 new:∀ b,Own S' K' b→Own S K b∨v.heap.size≤b
section
variable {Pr:Nat→Prop} {z:Nat→Option Nat} {S S' S'':TS} {K K' K'':List (Nat×Int)} {v v' v'':World}
theorem Evo.toP (h:Evo z S K v S' K' v'):EvoP Pr z S K v S' K' v':=⟨h.mem,h.blks,h.fr.mono (fun _ _ hx=>.inl hx),h.new⟩
theorem EvoP.trans (h:EvoP Pr z S K v S' K' v') (k:EvoP Pr z S' K' v' S'' K'' v''):EvoP Pr z S K v S'' K'' v'':=by
 refine ⟨k.mem,k.blks.trans h.blks,⟨k.fr.os.trans h.fr.os,k.fr.output.trans h.fr.output,Nat.le_trans h.fr.size k.fr.size,fun x hx hs=>?_⟩,fun b hb=>?_⟩
 ·rw [k.fr.block x (Nat.lt_of_lt_of_le hx h.fr.size) (fun hi=>hi.elim (fun hi=>(h.new x hi).elim (fun h=>hs (.inl h)) (fun hle=>by omega)) (fun hp=>hs (.inr hp))),h.fr.block x hx hs]
 ·rcases k.new b hb with h1|h1
  ·exact h.new b h1
  ·exact .inr (Nat.le_trans h.fr.size h1)
theorem EvoP.base {u:World} (h:EvoP Pr z S K u S' K' v') (e1:u.heap=v.heap) (e2:u.os=v.os) (e3:u.output=v.output):EvoP Pr z S K v S' K' v' :=
 ⟨h.mem,h.blks,⟨h.fr.os.trans e2,h.fr.output.trans e3,by rw [←e1];exact h.fr.size,fun b hb hs=>by rw [←e1];exact h.fr.block b (by rw [e1];exact hb) hs⟩,fun b hb=>by rw [←e1];exact h.new b hb⟩
theorem EvoP.wider {Pr':Nat→Prop} (hp:∀ b,b<v.heap.size→Pr b→Pr' b) (h:EvoP Pr z S K v S' K' v'):EvoP Pr' z S K v S' K' v' :=
 ⟨h.mem,h.blks,h.fr.mono (fun b hb hx=>hx.imp id (hp b hb)),h.new⟩
theorem Mem.other (h:Mem z S K v) {B:Nat} (hB:¬ Own S K B) (hw:∀ b,b≠B→v'.heap[b]? = v.heap[b]?) (hs:v'.heap.size=v.heap.size) (ho:v'.os=v.os) (hu:v'.output=v.output):EvoP (· = B) z S K v S K v':=by
 have hst:∀ b,Own S K b→v'.heap[b]? = v.heap[b]?:=fun b hb=>hw b (fun e=>hB (e▸hb))
 have hits:∀ k b,blk S k=some b→v'.heap[b]? = v.heap[b]?:=fun k b hk=>hst b (.inl ⟨k,hk⟩)
 refine ⟨⟨⟨by rw [hits 0 S.wb rfl];exact h.rep.wor,fun i t ht=>by rw [hits (i+5) t.tb (by simp [blk,ht])];exact h.rep.thr i t ht,own_stay (fun b hb=>hits 3 b hb) h.rep.own,own_stay (fun b hb=>hits 1 b hb) h.rep.chg,own_stay (fun b hb=>hits 2 b hb) h.rep.ths,own_stay (fun b hb=>hits 4 b hb) h.rep.sch,
  by rw [hs];exact h.rep.bs,h.rep.apart,h.rep.kept⟩,fun j c hc=>by rw [hst c.1 (.inr ⟨j,c,hc,rfl⟩)];exact h.cel j c hc,h.far,h.inj,h.len⟩,rfl,⟨ho,hu,by omega,fun b _ hn=>hw b (fun e=>hn (.inr e))⟩,fun b hb=>.inl hb⟩
end
end Go.Proofs.YtfjjoohflcchnaaDoor
