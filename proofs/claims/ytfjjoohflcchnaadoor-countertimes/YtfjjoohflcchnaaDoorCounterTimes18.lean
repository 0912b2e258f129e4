/- Of the proof of CounterTimes. Part 18 of 31. (Joined, by program, and written short, of: GNew, GPlay, GLit, CtA, CtS.) -/
import Derived.Test.YtfjjoohflcchnaaDoorCounterTimes05
import Derived.Test.YtfjjoohflcchnaaDoorCounterTimes15
import Derived.Test.YtfjjoohflcchnaaDoorCounterTimes17
import Derived.Deep.RegionLaw
set_option linter.unusedSimpArgs false
set_option linter.unusedVariables false
set_option maxHeartbeats 4000000
set_option maxRecDepth 100000
namespace Go.Proofs.YtfjjoohflcchnaaDoor.Gen
open Go Go.Lift Go.Conc Go.RowKit
def newS (wb bk base:Nat) (sc:Value) (xs:List Int):TS :=
 { wb:=wb,bk:=bk,base:=base,us:=0,n:=0,la:=-1,sc:=sc,cv:=.slice none 0 0,ths:=.slice none 0 0,tv:=.slice none 0 0,sched:=xs,chg:=[],tr:=[],stk:=false,ran:=false,thr:=[] }
structure IsNew (v:World) (xs:List Int) (wb bk:Nat) (sc:Value) (v':World):Prop where
 mem:Mem zn (newS wb bk v.heap.size sc xs) [] v'
 opn:Open v' bk
 new:∀ b,Own (newS wb bk v.heap.size sc xs) [] b∨b=bk→v.heap.size≤b
 old:Grows v v'
abbrev rowNew (sc:Value) (bk:Nat):Array Value:=#[sc,I 0,I (-1),.slice none 0 0,.slice none 0 0,.slice none 0 0,.bool false,.bool false,.chan (some bk)]
theorem new_rep {v u v':World} {xs:List Int} {g cap bk m:Nat} (hg:Grows v u) (hown:u.ownsRow v.heap.size 3 1 (.slice (some ⟨g,0,none⟩) m cap) m (xs.map I)) (hl:xs.length=m) (hbk:u.heap[bk]? = some (.chan 0 #[] false 0 0 false)) (hb:v.heap.size≤bk)
 (hh:v'.heap=u.heap.push (.cells (rowNew (.slice (some ⟨g,0,none⟩) m cap) bk) 97)) (ho:v'.os=u.os) (hu:v'.output=u.output):IsNew v xs u.heap.size bk (.slice (some ⟨g,0,none⟩) m cap) v':=by
 have hold:∀ b,b<u.heap.size→v'.heap[b]? = u.heap[b]?:=fun b hb=>by rw [hh,Array.getElem?_push,if_neg (by omega)]
 have hs':v'.heap.size=u.heap.size+1:=by rw [hh];simp
 have hgl:=own_lt hown g rfl
 have hsz:=hg.size
 have hblk:∀ k b,blk (newS u.heap.size bk v.heap.size (.slice (some ⟨g,0,none⟩) m cap) xs) k=some b→(k=0∧b=u.heap.size)∨(k=4∧b=g):=fun k b hk=>by
  match k,hk with
  |0,hk=>cases hk;exact .inl ⟨rfl,rfl⟩
  |1,hk=>cases hk
  |2,hk=>cases hk
  |3,hk=>cases hk
  |4,hk=>cases hk;exact .inr ⟨rfl,rfl⟩
  |k+5,hk=>simp [blk,newS] at hk
 have hnil:v'.ownsRow v.heap.size 3 1 (.slice none 0 0) 0 []:=World.ownsRow_nil _ _ _ _
 refine ⟨⟨⟨?_,fun i t ht=>by simp [newS] at ht,World.ownsRow_nil _ _ _ _,World.ownsRow_nil _ _ _ _,World.ownsRow_nil _ _ _ _,?_,by show v.heap.size≤_;omega,fun j k b hj hk=>?_,fun b n h=>by cases h⟩,fun j c hc=>by simp at hc,fun j c hc=>by simp at hc,fun i j c d hc=>by simp at hc,rfl⟩,⟨0,0,?_⟩,fun b hb'=>?_,⟨by omega,fun b hb'=>by rw [hold b (by omega),hg.old b hb'],ho.trans hg.os,hu.trans hg.output⟩⟩
 ·show v'.heap[u.heap.size]? = _
  rw [hh]
  exact Array.getElem?_push_size
 ·show v'.ownsRow v.heap.size 3 1 _ xs.length (xs.map I)
  rw [hl]
  exact own_stay (fun b hb=>hold b (own_lt hown b hb).2) hown
 ·rcases hblk j b hj with ⟨rfl,e1⟩|⟨rfl,e1⟩<;>rcases hblk k b hk with ⟨rfl,e2⟩|⟨rfl,e2⟩<;>first|rfl|omega
 ·rw [hold bk (Array.getElem?_eq_some_iff.1 hbk).1];exact hbk
 ·rcases hb' with (⟨k,hk⟩|⟨j,c,hc,_⟩)|rfl
  ·rcases hblk k b hk with ⟨_,rfl⟩|⟨_,rfl⟩
   ·exact hsz
   ·exact hgl.1
  ·simp at hc
  ·exact hb
theorem body7 {v:World} (vb vo cap:Nat) (xs:List Int) (hx0:0<xs.length) (hx1:xs.length≤17592186043904) (hv:∀ k x,xs[k]? = some x→v.cell? ⟨vb,vo+k,none⟩=some (I x)) :
 Body Tryd.f17 #[.slice (some ⟨vb,vo,none⟩) xs.length cap] v (fun r v'=>∃ wb bk sc,r=Pt wb 0∧IsNew v xs wb bk sc v'):=by
 intro code hb
 obtain rfl:=Option.some.inj hb
 clear hb
 obtain ⟨x0,hx00⟩:∃ x,xs[0]? = some x:=⟨_,List.getElem?_eq_getElem hx0⟩
 have hvl:vb<v.heap.size:=World.block_lt_of_cell? _ _ (hv 0 x0 hx00)
 have hnews:∀ u:World,u.heap[vb]? = v.heap[vb]?→∀ j y,(xs.map I)[j]? = some y→u.cell? ((⟨vb,vo,none⟩:Addr).add j)=some y:=fun u hu j y hj=>by
  have hadd:(⟨vb,vo,none⟩:Addr).add j=⟨vb,vo+j,none⟩:=by unfold Addr.add;split<;>simp_all
  rw [hadd,World.cell?_of_block (w:=v) (w':=u) hu]
  rw [List.getElem?_map] at hj
  cases hk:xs[j]? with
  |none=>rw [hk] at hj;cases hj
  |some x =>
   rw [hk] at hj
   cases hj
   exact hv j x hk
 have h1:∀ u∈xs.map I,u.oneCell'=true:=fun u hu=>by
  simp only [List.mem_map] at hu
  obtain ⟨x,_,rfl⟩:=hu
  rfl
 have HW:Hid (∀ u:World,u.heap[vb]? = v.heap[vb]?→∀ j y,(xs.map I)[j]? = some y→u.cell? ((⟨vb,vo,none⟩:Addr).add j)=some y):=⟨hnews⟩
 have H1:Hid (∀ u∈xs.map I,u.oneCell'=true):=⟨h1⟩
 have HX:Hid (0<xs.length∧xs.length≤17592186043904∧vb<v.heap.size):=⟨⟨hx0,hx1,hvl⟩⟩
 clear hv hnews h1 hx00 hx0 hx1 hvl
 have hmk:=run_mk
 obtain ⟨j0,hj,hj0,hj1,hj2⟩:=info_parts info3
 simp only [Tryd.ntmps17,List.size_toArray,List.length_cons,List.length_nil,Nat.reduceAdd,Nat.reduceSub,Array.replicate_succ,Array.replicate_zero,List.push_toArray,List.append_toArray,List.nil_append,List.cons_append]
 go_wp2_with fail
 go_region_law
  (refine step_append_lies _ rfl (.const (.slice none 0 0)) (.tmp 3) 22 rfl v.heap.size 3 j0 _ 1 8 Tryd.underlying22 hj hj0 hj1 hj2 rfl (by decide) (.slice none 0 0) 0 [] rfl (World.ownsRow_nil _ _ _ _) ⟨vb,vo,none⟩ xs.length cap (xs.map I) rfl (by simp) (HW.out _ (by first|rfl|(show (v.heap.push _)[vb]? = _;rw [Array.getElem?_push,if_neg (by have:=HX.out;omega)]))) H1.out HX.out.1 (by have:=HX.out;unfold maxLen;omega) (by have:=HX.out;omega) (by simp) _ rfl ?_
   intro g cpg w6 hown6 hgrow6 hat6 hlt6)
 ·have g6:Grows v (w6.alloc (.chan 0 #[] false 0 0 false)):=by
   have hs:v.heap.size≤w6.heap.size:=hgrow6.size
   refine ⟨by show _≤(w6.heap.push _).size;simp;omega,fun b hb=>?_,hgrow6.os,hgrow6.output⟩
   show (w6.heap.push _)[b]? = _
   rw [Array.getElem?_push,if_neg (by omega)]
   exact hgrow6.block b hb (fun e=>by cases e)
  have hN:IsNew v xs (w6.heap.size+1) w6.heap.size (.slice (some ⟨g,0,none⟩) xs.length cpg) ((w6.alloc (.chan 0 #[] false 0 0 false)).alloc (.cells (rowNew (.slice (some ⟨g,0,none⟩) xs.length cpg) w6.heap.size) 97)):=by
   have:=new_rep (v:=v) (u:=w6.alloc (.chan 0 #[] false 0 0 false)) (v':=(w6.alloc (.chan 0 #[] false 0 0 false)).alloc (.cells (rowNew (.slice (some ⟨g,0,none⟩) xs.length cpg) w6.heap.size) 97)) (xs:=xs) (g:=g) (cap:=cpg) (bk:=w6.heap.size) (m:=xs.length) g6 (own_stay (fun b hb=>?_) (by rw [Nat.zero_add,List.nil_append] at hown6;exact hown6)) rfl Array.getElem?_push_size hgrow6.size rfl rfl rfl
   ·rw [show (w6.alloc (.chan 0 #[] false 0 0 false)).heap.size=w6.heap.size+1 by show (w6.heap.push _).size=_;simp] at this
    exact this
   ·cases hb
    show (w6.heap.push _)[g]? = _
    rw [Array.getElem?_push,if_neg (by omega)]
  have HN:Hid _:=⟨hN⟩
  clear hN g6 hgrow6 hown6 hat6 hlt6
  go_wp2
  go_ret
  exact ⟨_,rfl,w6.heap.size+1,w6.heap.size,_,rfl,HN.out⟩
 ·have hb0:∀ b,b<v.heap.size+1→w6.heap[b]? = (v.alloc (.chan 0 #[] false 0 0 false)).heap[b]?:=fun b hb=>hgrow6.block b (by show b<(v.heap.push _).size;simp;omega) (fun e=>by cases e)
  have hs:v.heap.size+1≤w6.heap.size:=by
   have:=hgrow6.size
   have e:(v.alloc (.chan 0 #[] false 0 0 false)).drew.heap.size=v.heap.size+1:=by show (v.heap.push _).size=_;simp
   omega
  have g6:Grows v w6:=by
   refine ⟨by omega,fun b hb=>?_,hgrow6.os,hgrow6.output⟩
   rw [hb0 b (by omega)]
   show (v.heap.push _)[b]? = _
   rw [Array.getElem?_push,if_neg (by omega)]
  have hN:IsNew v xs w6.heap.size v.heap.size (.slice (some ⟨g,0,none⟩) xs.length cpg) (w6.alloc (.cells (rowNew (.slice (some ⟨g,0,none⟩) xs.length cpg) v.heap.size) 97)) :=
   new_rep (v:=v) (u:=w6) (xs:=xs) (g:=g) (cap:=cpg) (bk:=v.heap.size) (m:=xs.length) g6 (by rw [Nat.zero_add,List.nil_append] at hown6;exact hown6) rfl (by rw [hb0 _ (by omega)];exact Array.getElem?_push_size) (Nat.le_refl _) rfl rfl rfl
  have HN:Hid _:=⟨hN⟩
  clear hN g6 hgrow6 hown6 hat6 hlt6 hb0 hs
  go_wp2
  go_ret
  exact ⟨_,rfl,w6.heap.size,v.heap.size,_,rfl,HN.out⟩
theorem body9 {z:Nat→Option Nat} {S:TS} {v:World} (h:Rep z S v) (h0:0<S.n) (hn:S.n*40≤140737488355328) (h1:∀ u∈S.tr,u.oneCell'=true) :
 Body Tryd.f23 #[Pt S.wb 0] v (fun r v'=>∃ g cap,r=.slice (some ⟨g,0,none⟩) S.n cap∧v'.ownsRow v.heap.size 60 5 (.slice (some ⟨g,0,none⟩) S.n cap) S.n S.tr∧Grows v v'∧v.heap.size≤g):=by
 intro code hb
 obtain rfl:=Option.some.inj hb
 clear hb
 have c5:=h.wcell.2.2.2.2.2.1
 obtain ⟨g0,cap0,e0,_,hg0⟩:=h.own.form h0
 rw [e0] at c5
 have hcs:=h.own.cells (g:=g0) (by rw [e0];rfl)
 have hln:S.tr.length=S.n*5:=h.own.1
 have HH:Hid ((∀ j u,S.tr[j]? = some u→v.cell? ((⟨g0,0,none⟩:Addr).add j)=some u)∧(∀ u∈S.tr,u.oneCell'=true)∧0<S.n∧S.n*40≤140737488355328∧S.tr.length=S.n*5):=⟨⟨hcs,h1,h0,hn,hln⟩⟩
 clear hcs h1 h0 hn hln h e0
 obtain ⟨j0,hj,hj0,hj1,hj2⟩:=info_parts info34
 simp only [Tryd.ntmps23,List.size_toArray,List.length_cons,List.length_nil,Nat.reduceAdd,Nat.reduceSub,Array.replicate_succ,Array.replicate_zero,List.push_toArray,List.append_toArray,List.nil_append,List.cons_append]
 go_wp2_with (first
  |(refine wpList_append_lies _ rfl (.const (.slice none 0 0)) (.tmp 8) 41 rfl v.heap.size 60 j0 _ 5 40 Tryd.underlying41 hj hj0 hj1 hj2 rfl (by decide) (.slice none 0 0) 0 [] rfl (World.ownsRow_nil _ _ _ _) ⟨g0,0,none⟩ S.n cap0 S.tr rfl HH.out.2.2.2.2 HH.out.1 HH.out.2.1 HH.out.2.2.1 (by have:=HH.out.2.2.2.1;unfold maxLen;omega) (by have:=HH.out.2.2.2.1;omega) (Nat.le_refl _) _ rfl ?_
    intro g cpg w6 hown6 hgrow6 hat6 hlt6))
 go_ret
 refine ⟨_,rfl,g,cpg,rfl,?_,⟨hgrow6.size,fun b hb=>hgrow6.block b hb (fun e=>by cases e),hgrow6.os,hgrow6.output⟩,?_⟩
 ·rw [Nat.zero_add,List.nil_append] at hown6
  exact hown6
 ·rcases hat6 with h|h
  ·cases h
  ·omega
def Refused (n:Nat) (ln:Nat→Nat) (E:Int):Prop:=((∃ k,k<n∧64<ln k)∧E=2)∨((∀ k,k<n→ln k≤64)∧(n=0∨8<n)∧E=1)
theorem new_rep0 {v u v':World} {bk:Nat} (hg:Grows v u) (hbk:u.heap[bk]? = some (.chan 0 #[] false 0 0 false)) (hb:v.heap.size≤bk)
 (hh:v'.heap=u.heap.push (.cells (rowNew (.slice none 0 0) bk) 97)) (ho:v'.os=u.os) (hu:v'.output=u.output):IsNew v [] u.heap.size bk (.slice none 0 0) v':=by
 have hold:∀ b,b<u.heap.size→v'.heap[b]? = u.heap[b]?:=fun b hb=>by rw [hh,Array.getElem?_push,if_neg (by omega)]
 have hs':v'.heap.size=u.heap.size+1:=by rw [hh];simp
 have hsz:=hg.size
 have hblk:∀ k b,blk (newS u.heap.size bk v.heap.size (.slice none 0 0) []) k=some b→k=0∧b=u.heap.size:=fun k b hk=>by
  match k,hk with
  |0,hk=>cases hk;exact ⟨rfl,rfl⟩
  |1,hk=>cases hk
  |2,hk=>cases hk
  |3,hk=>cases hk
  |4,hk=>cases hk
  |k+5,hk=>simp [blk,newS] at hk
 refine ⟨⟨⟨?_,fun i t ht=>by simp [newS] at ht,World.ownsRow_nil _ _ _ _,World.ownsRow_nil _ _ _ _,World.ownsRow_nil _ _ _ _,World.ownsRow_nil _ _ _ _,by show v.heap.size≤_;omega,fun j k b hj hk=>?_,fun b n h=>by cases h⟩,fun j c hc=>by simp at hc,fun j c hc=>by simp at hc,fun i j c d hc=>by simp at hc,rfl⟩,⟨0,0,?_⟩,fun b hb'=>?_,⟨by omega,fun b hb'=>by rw [hold b (by omega),hg.old b hb'],ho.trans hg.os,hu.trans hg.output⟩⟩
 ·show v'.heap[u.heap.size]? = _
  rw [hh]
  exact Array.getElem?_push_size
 ·rw [(hblk j b hj).1,(hblk k b hk).1]
 ·rw [hold bk (Array.getElem?_eq_some_iff.1 hbk).1];exact hbk
 ·rcases hb' with (⟨k,hk⟩|⟨j,c,hc,_⟩)|rfl
  ·rw [(hblk k b hk).2];exact hsz
  ·simp at hc
  ·exact hb
theorem body70 {v:World} (p:Option Addr) (cap:Nat):Body Tryd.f17 #[.slice p 0 cap] v (fun r v'=>∃ wb bk sc,r=Pt wb 0∧IsNew v [] wb bk sc v'):=by
 intro code hb
 obtain rfl:=Option.some.inj hb
 clear hb
 have hmk:=run_mk
 obtain ⟨j0,hj,hj0,hj1,hj2⟩:=info_parts info3
 have HN:∀ v':World,v'.heap=(v.heap.push (.chan 0 #[] false 0 0 false)).push (.cells (rowNew (.slice none 0 0) v.heap.size) 97)→v'.os=v.os→v'.output=v.output→IsNew v [] (v.heap.size+1) v.heap.size (.slice none 0 0) v':=fun v' h4 h5 h6=>by
  have:=new_rep0 (v:=v) (u:=v.alloc (.chan 0 #[] false 0 0 false)) (v':=v') (bk:=v.heap.size) ⟨by show _≤(v.heap.push _).size;simp,fun b hb=>by show (v.heap.push _)[b]? = _;rw [Array.getElem?_push,if_neg (by omega)],rfl,rfl⟩ Array.getElem?_push_size (Nat.le_refl _) h4 h5 h6
  rw [show (v.alloc (.chan 0 #[] false 0 0 false)).heap.size=v.heap.size+1 by show (v.heap.push _).size=_;simp] at this
  exact this
 have HN:Hid _:=⟨HN⟩
 cases p
 all_goals
  simp only [Tryd.ntmps17,List.size_toArray,List.length_cons,List.length_nil,Nat.reduceAdd,Nat.reduceSub,Array.replicate_succ,Array.replicate_zero,List.push_toArray,List.append_toArray,List.nil_append,List.cons_append]
  go_wp2_with fail
  go_region_law fail
  all_goals
   go_wp2
   go_ret
   exact ⟨_,rfl,v.heap.size+1,v.heap.size,_,rfl,HN.out _ rfl rfl rfl⟩
theorem body7A {v:World} (p:Option Addr) (vb vo cap:Nat) (xs:List Int) (hp:0<xs.length→p=some ⟨vb,vo,none⟩) (hx1:xs.length≤17592186043904) (hv:∀ k x,xs[k]? = some x→v.cell? ⟨vb,vo+k,none⟩=some (I x)) :
 Body Tryd.f17 #[.slice p xs.length cap] v (fun r v'=>∃ wb bk sc,r=Pt wb 0∧IsNew v xs wb bk sc v'):=by
 rcases Nat.eq_zero_or_pos xs.length with h0|h0
 ·obtain rfl:=List.length_eq_zero_iff.1 h0
  exact body70 p cap
 ·rw [hp h0]
  exact body7 vb vo cap xs h0 hx1 hv
theorem body90 {z:Nat→Option Nat} {S:TS} {v:World} (h:Rep z S v) (h0:S.n=0):Body Tryd.f23 #[Pt S.wb 0] v (fun r v'=>r=.slice none 0 0∧v'=v):=by
 intro code hb
 obtain rfl:=Option.some.inj hb
 clear hb
 have c5:=h.wcell.2.2.2.2.2.1
 obtain ⟨p0,cap0,e0⟩:∃ p cap,S.tv=.slice p 0 cap:=by
  obtain ⟨p,cap,e⟩:=own_form h.own
  rw [h0] at e
  exact ⟨p,cap,e⟩
 rw [e0] at c5
 clear h e0
 obtain ⟨j0,hj,hj0,hj1,hj2⟩:=info_parts info34
 cases p0
 all_goals
  simp only [Tryd.ntmps23,List.size_toArray,List.length_cons,List.length_nil,Nat.reduceAdd,Nat.reduceSub,Array.replicate_succ,Array.replicate_zero,List.push_toArray,List.append_toArray,List.nil_append,List.cons_append]
  go_wp2
  go_ret
  exact ⟨_,rfl,rfl,rfl⟩
theorem body9A {z:Nat→Option Nat} {S:TS} {v:World} (h:Rep z S v) (hn:S.n*40≤140737488355328) (h1:∀ u∈S.tr,u.oneCell'=true) :
 Body Tryd.f23 #[Pt S.wb 0] v (fun r v'=>∃ p g cap,r=.slice p S.n cap∧(0<S.n→p=some ⟨g,0,none⟩∧v.heap.size≤g)∧(∀ j u,S.tr[j]? = some u→v'.cell? ⟨g,j,none⟩=some u)∧Grows v v'):=by
 rcases Nat.eq_zero_or_pos S.n with h0|h0
 ·intro code hb
  refine wp_mono (body90 h h0 code hb) (bp_mono fun r u hq=>?_)
  obtain ⟨rfl,rfl⟩:=hq
  have hl:S.tr=[]:=by
   have:=h.own.1
   rw [h0] at this
   exact List.length_eq_zero_iff.1 (by omega)
  refine ⟨none,0,0,by rw [h0],(fun h=>by omega),(fun j x hj=>?_),⟨Nat.le_refl _,fun _ _=>rfl,rfl,rfl⟩⟩
  rw [hl] at hj
  simp at hj
 ·intro code hb
  refine wp_mono (body9 h h0 hn h1 code hb) (bp_mono fun r u hq=>?_)
  obtain ⟨g,cap,rfl,hown,hgr,hle⟩:=hq
  refine ⟨_,g,cap,rfl,fun _=>⟨rfl,hle⟩,fun j x hj=>?_,hgr⟩
  have:=hown.cells (g:=g) rfl j x hj
  rw [show (⟨g,0,none⟩:Addr).add j=⟨g,j,none⟩ by unfold Addr.add;split<;>simp_all] at this
  exact this
def cellsS (S:TS) (cv:Value) (k:Nat):TS:={ S with cv:=cv,chg:=List.replicate k 0 }
structure Cel (z:Nat→Option Nat) (S:TS) (K:List (Nat×Int)) (v:World) (S':TS) (K':List (Nat×Int)) (v':World):Prop where
 mem:Mem z S' K' v'
 fr:Fr (Own S K) v v'
 own:∀ b,Own S' K' b→Own S K b∨v.heap.size≤b
section
variable {z:Nat→Option Nat} {S S1 S2:TS} {K K1 K2:List (Nat×Int)} {v v1 v2:World}
theorem Cel.refl (h:Mem z S K v):Cel z S K v S K v:=⟨h,Fr.refl _ _,fun b h=>.inl h⟩
theorem Cel.trans (h:Cel z S K v S1 K1 v1) (k:Cel z S1 K1 v1 S2 K2 v2):Cel z S K v S2 K2 v2:=by
 refine ⟨k.mem,⟨k.fr.os.trans h.fr.os,k.fr.output.trans h.fr.output,Nat.le_trans h.fr.size k.fr.size,fun b hb hs=>?_⟩,fun b hb=>?_⟩
 ·rw [k.fr.block b (Nat.lt_of_lt_of_le hb h.fr.size) (fun e=>(h.own b e).elim hs (fun e=>by omega)),h.fr.block b hb hs]
 ·rcases k.own b hb with e|e
  ·exact h.own b e
  ·exact .inr (Nat.le_trans h.fr.size e)
theorem Cel.push (h:Cel z S K v S1 K1 v1) {o:Obj} (e:v2.heap=v1.heap.push o) (e1:v2.os=v1.os) (e2:v2.output=v1.output):Cel z S K v S1 K1 v2:=by
 have g:Grows v1 v2:=⟨by rw [e];simp,fun b hb=>by rw [e,Array.getElem?_push,if_neg (by omega)],e1,e2⟩
 exact h.trans ⟨(h.mem.grows g).mem,⟨e1,e2,g.size,fun b hb _=>g.old b hb⟩,fun b hb=>.inl hb⟩
theorem Cel.same (h:Cel z S K v S1 K1 v1) (e:v2.heap=v1.heap) (e1:v2.os=v1.os) (e2:v2.output=v1.output):Cel z S K v S1 K1 v2:=by
 have g:Grows v1 v2:=⟨by rw [e];exact Nat.le_refl _,fun b hb=>by rw [e],e1,e2⟩
 exact h.trans ⟨(h.mem.grows g).mem,⟨e1,e2,g.size,fun b hb _=>g.old b hb⟩,fun b hb=>.inl hb⟩
theorem Cel.from (h:Cel z S K v1 S1 K1 v2) (e:v1.heap=v.heap) (e1:v1.os=v.os) (e2:v1.output=v.output):Cel z S K v S1 K1 v2 :=
 ⟨h.mem,⟨h.fr.os.trans e1,h.fr.output.trans e2,by rw [←e];exact h.fr.size,fun b hb hs=>by rw [h.fr.block b (by rw [e];exact hb) hs,e]⟩,fun b hb=>by rw [←e];exact h.own b hb⟩
end
structure Asked (v:World) (S:TS) (n sb so:Nat) (pc:Nat→Option Addr) (ln cp rb:Nat→Nat) (cl:Nat→List Cl):Prop where
 len:∀ j,j<n→(cl j).length=ln j∧ln j≤64
 row:∀ k,k<n→v.cell? ⟨sb,so+k,none⟩=some (.slice (pc k) (ln k) (cp k))
 far:¬ Own S [] sb
 pq:∀ j,j<n→0<ln j→pc j=some ⟨rb j,roOf (pc j),none⟩∧¬ Own S [] (rb j)
 call:∀ j,j<n→∀ (k:Nat) (c:Cl),(cl j)[k]? = some c→v.cell? ⟨rb j,roOf (pc j)+k*4,none⟩=some (I c.po)∧v.cell? ⟨rb j,roOf (pc j)+k*4+1,none⟩=some (I c.ca)∧v.cell? ⟨rb j,roOf (pc j)+k*4+2,none⟩=some (I c.cb)∧v.cell? ⟨rb j,roOf (pc j)+k*4+3,none⟩=some (I c.cc)
 ca:∀ j,j<n→∀ c∈cl j,-9223372036854775808≤c.ca∧c.ca<9223372036854775808
structure Objs (v:World) (S:TS) (xs:List Int) (pk:Nat→Option Obj) (S1:TS) (K:List (Nat×Int)) (u:World):Prop where
 cel:Cel zn S [] v S1 K u
 vals:K.map (·.2)=xs
 st:∃ cv,S1=cellsS S cv xs.length
 has:Has pk u
 new:∀ b,pk b≠none→(v.heap.size≤b∨b≠S.bk)∧¬ Own S1 K b
 row:∀ b o,pk b=some o→∃ c e f,o=.cells c e f
theorem Objs.same {v:World} {S:TS} {xs:List Int} {pk:Nat→Option Obj} {S1:TS} {K:List (Nat×Int)} {u u':World} (h:Objs v S xs pk S1 K u) (e:u'.heap=u.heap) (e1:u'.os=u.os) (e2:u'.output=u.output):Objs v S xs pk S1 K u' :=
 ⟨h.cel.same e e1 e2,h.vals,h.st,fun b o hb=>by rw [e];exact h.has b o hb,h.new,h.row⟩
section
variable {v u:World} {S S1:TS} {K:List (Nat×Int)} {n sb so:Nat} {pc:Nat→Option Addr} {ln cp rb:Nat→Nat} {cl:Nat→List Cl} {xs:List Int} {pk:Nat→Option Obj}
theorem told_of (hm:Mem zn S [] v) (hb:Open v S.bk) (t:Asked v S n sb so pc ln cp rb cl) (o:Objs v S xs pk S1 K u) :
 Told u S1 K pk n pc ln cp rb cl∧(∀ k,k<n→u.cell? ⟨sb,so+k,none⟩=some (.slice (pc k) (ln k) (cp k)))∧Open u S.bk∧v.heap.size≤u.heap.size ∧
  ∀ b,b<v.heap.size→¬ Own S [] b→u.heap[b]? = v.heap[b]?∧¬ Own S1 K b:=by
 have no:∀ b,b<v.heap.size→¬ Own S [] b→¬ Own S1 K b:=fun b hb ho h=>(o.cel.own b h).elim ho (fun h=>by omega)
 have same:∀ b,b<v.heap.size→¬ Own S [] b→u.heap[b]? = v.heap[b]?:=fun b hb ho=>o.cel.fr.block b hb ho
 have hcell:∀ (a:Addr) (x:Value),¬ Own S [] a.block→v.cell? a=some x→u.cell? a=some x:=fun a x ho ha=>by
  rw [World.cell?_of_block (w:=v) (w':=u) (same a.block (World.block_lt_of_cell? _ _ ha) ho)]
  exact ha
 have hbkl:S.bk<v.heap.size:=by obtain ⟨c,m,h⟩:=hb;exact (Array.getElem?_eq_some_iff.1 h).1
 have hbk:¬ Own S [] S.bk:=fun h=>by
  obtain ⟨c,m,hh⟩:=hb
  obtain ⟨x,e,f,h1⟩:=hm.row h
  rw [h1] at hh;cases hh
 have hO:Open u S.bk:=by
  obtain ⟨c,m,hh⟩:=hb
  exact ⟨c,m,by rw [same _ hbkl hbk];exact hh⟩
 have e1:S1.bk=S.bk:=by obtain ⟨cv,rfl⟩:=o.st;rfl
 refine ⟨⟨o.has,fun b hb=>⟨(o.new b hb).2,by have:=(o.new b hb).1;rw [e1];rcases this with h|h;omega;exact h⟩,o.row,t.len,fun j hj h0=>?_,fun j hj k c hc=>?_,t.ca⟩,fun k hk=>hcell _ _ t.far (t.row k hk),hO,o.cel.fr.size,fun b hb ho=>⟨same b hb ho,no b hb ho⟩⟩
 ·have h1:=t.pq j hj h0
  obtain ⟨c,hc⟩:∃ c,(cl j)[0]? = some c:=⟨_,List.getElem?_eq_getElem (by have:=t.len j hj;omega)⟩
  have hl:=World.block_lt_of_cell? _ _ (t.call j hj 0 c hc).1
  exact ⟨h1.1,no _ hl h1.2⟩
 ·have h0:0<ln j:=by have:=(List.getElem?_eq_some_iff.1 hc).1;have:=t.len j hj;omega
  have ho:=(t.pq j hj h0).2
  have h4:=t.call j hj k c hc
  exact ⟨hcell _ _ ho h4.1,hcell _ _ ho h4.2.1,hcell _ _ ho h4.2.2.1,hcell _ _ ho h4.2.2.2⟩
end
structure GOut (w:World) (S:TS) (n:Nat) (ln:Nat→Nat) (N:Nat) (S':TS) (K':List (Nat×Int)) (l:Nat→Ph) (w':World):Prop where
 mem:Mem zn S' K' w'
 size:w.heap.size≤w'.heap.size
 low:w.heap.size≤N
 old:∀ b,b<w.heap.size→¬ Own S [] b→b≠S.bk→w'.heap[b]? = w.heap[b]?∧¬ Own S' K' b
 rows:∀ j,j<n→w'.cell? ⟨N+1,j,none⟩=some (.slice (some ⟨N+4+3*j+2,0,none⟩) (ln j) (ln j))
 ans:∀ j,j<n→(l j).ans.length=ln j∧(0<ln j→w'.heap[N+4+3*j+2]? = some (.cells (arow (l j).ans).toArray 38 (0,0)))∧∃ a,l j=.done a
 os:w'.os=w.os
 out:w'.output=w.output
section
variable {mc:Mc} {fid:FuncId} {S:TS} {n sb so:Nat} {pc:Nat→Option Addr} {ln cp rb:Nat→Nat} {cl:Nat→List Cl} {xs:List Int}
theorem gplay_all (P:Pkg mc fid) {Q:Array Value→(Nat→Option Obj)→List (Nat×Int)→Prop} (hQ:∀ caps pk K,Q caps pk K→∀ X:Fix mc,X.fid=fid→X.caps=caps→X.pk=pk→X.kb=K.map (·.1)→P.Mine X)
 {cap:Nat} {cs:List Frame} {bc:Frame} {ac:Act} {ops:Array Oper} {q0:Nat} {rest:List Nat} {oc:Oper} {k0:List Item} {w:World} {T:Trace} {gs:Array Goroutine} {q:Nat→Nat} (sl:Option (Nat×Nat)) (NT:Nat) (A:Alone gs w T q) {g0:Goroutine} (hg:gs[0]? = some g0)
 (hG:GoesI Tryd.prog true (DT (ScZ zn) (fun _=>False)) (fun g w'=>∃ (bd:Frame) (ad:Act) (od:Array Oper) (qd:Nat) (rd:List Nat) (oe:Oper) (kd:List Item) (caps:Array Value) (pk:Nat→Option Obj) (S1:TS) (K:List (Nat×Int)),Objs w S xs pk S1 K w'∧Q caps pk K∧od[qd]? = some oe ∧
   (∀ (Ch:Nat→Prop) (Stop:Goroutine→World→Prop) (w1:World) (x:Value),(∀ d,GoesI Tryd.prog true (DT (ScZ zn) Ch) Stop (G (bc.at (ac.put oc.dst (.tuple #[x,I 0])) (.inRegion ops rest :: k0)) cs) (w1.at d))→GoesI Tryd.prog true (DT (ScZ zn) Ch) Stop (G (bd.at (ad.put oe.dst x) (.inRegion od rd :: kd)) (bc.at ac (.inRegion ops (q0 :: rest) :: k0) :: cs)) w1) ∧
   g=G ((base 60).at { tmps:=#[Pt S.wb 0,.slice (some ⟨sb,so,none⟩) n cap,.func (.func fid) (mc.bn caps) (mc.fr caps)]++Array.replicate 36 undef,defers:=[] } [.code B20]) (bd.at ad (.inRegion od (qd :: rd) :: kd) :: bc.at ac (.inRegion ops (q0 :: rest) :: k0) :: cs)) g0 w)
 (hm:Mem zn S [] w) (hthr:S.thr=[]) (hran:S.ran=false) (hbk:Open w S.bk) (t:Asked w S n sb so pc ln cp rb cl) (hn8:0<n∧n≤8)
 (hlen:∀ caps pk N K,S.n+2*lens (scrs mc fid caps pk N n K pc ln cp rb cl)≤1000000) (hsl:S.sched.length≤4611686018427387904) (hsc:∀ x∈S.sched,-9223372036854775808≤x∧x<9223372036854775808) (l0:Nat→Ph)
 (hturn:∀ (caps:Array Value) (pk:Nat→Option Obj) (N:Nat) (cv:Value) (K:List (Nat×Int)),K.map (·.2)=xs→∀ S1 l1,Hires mc 0 (scrs mc fid caps pk N n K pc ln cp rb cl) (nv { cellsS S cv xs.length with ran:=true }) l0 S1 l1→∃ m p',m≤NT∧Turns mc m ⟨S1,K,l1⟩ p'∧p'.S.n*40≤140737488355328) :
 ∃ (N':Nat) (gs':Array Goroutine) (w':World) (sl':Option (Nat×Nat)) (T':Trace) (q':Nat→Nat) (caps:Array Value) (pk:Nat→Option Obj) (N:Nat) (cv:Value) (K:List (Nat×Int)) (S':TS) (S1:TS) (l1:Nat→Ph) (m:Nat) (p':PSt),
   runNT Tryd.prog N' (crowd gs w sl) T=(.next (crowd gs' w' sl'),T')∧gs'.size=gs.size+n∧gs'[0]? = some (G (bc.at (ac.put oc.dst (.tuple #[.slice (some ⟨N+1,0,none⟩) n n,I 0])) (.inRegion ops rest :: k0)) cs) ∧
   Alone gs' w' T' q'∧K.map (·.2)=xs∧nv S'=p'.S∧Hires mc 0 (scrs mc fid caps pk N n K pc ln cp rb cl) (nv { cellsS S cv xs.length with ran:=true }) l0 S1 l1∧Turns mc m ⟨S1,K,l1⟩ p'∧GOut w S n ln N S' p'.K p'.l w':=by
 obtain ⟨N1,gs1,a1,w1,sl1,T1,q1,r1,z1,h1,⟨bd,ad,od,qd,rd,oe,kd,caps,pk,S1,K,ho,hq,hoe,hback,rfl⟩,A1⟩:=alone_goes A hg sl hG
 obtain ⟨t1,hs1,hbk1,hsz1,hold1⟩:=told_of hm hbk t ho
 obtain ⟨cv,rfl⟩:=ho.st
 have hsb:sb<w1.heap.size:=World.block_lt_of_cell? _ _ (hs1 0 hn8.1)
 obtain ⟨N2,gs2,w2,sl2,T2,q2,S2,S3,l1,m,p',r2,z2,h2,A2,hnv,hH,hT,O⟩:=run20_all P (hQ caps pk K hq) (S:=cellsS S cv xs.length) (K:=K) hoe sl1 NT A1 h1 ho.cel.mem hthr hran hbk1 t1 hs1 hsb hn8.2 (hlen _ _ _ _) hsl hsc l0 (hturn _ _ _ cv K ho.vals)
 obtain ⟨N3,gs3,a3,w3,sl3,T3,q3,r3,z3,h3,⟨rfl,d3,rfl⟩,A3⟩:=alone_goes A2 h2 sl2 (hback (fun _=>False) (fun g w'=>g=G (bc.at (ac.put oc.dst (.tuple #[.slice (some ⟨w1.heap.size+1,0,none⟩) n n,I 0])) (.inRegion ops rest :: k0)) cs∧∃ d,w'=w2.at d) w2 _ (fun d=>GoesI.stop fun d'=>⟨rfl,d',rfl⟩))
 refine ⟨N1+N2+N3,gs3,w2.at d3,sl3,T3,q3,caps,pk,w1.heap.size,cv,K,S2,S3,l1,m,p',runNT_then (runNT_then r1 r2) r3,by omega,h3,A3,ho.vals,hnv,hH,hT,⟨(O.mem.grows (v':=w2.at d3) ⟨Nat.le_refl _,fun _ _=>rfl,rfl,rfl⟩).mem,Nat.le_trans hsz1 O.size,hsz1,fun b hb hob hk=>?_,O.rows,O.ans,O.os.trans ho.cel.fr.os,O.out.trans ho.cel.fr.output⟩⟩
 have h5:=hold1 b hb hob
 have h6:=O.old b (by omega) h5.2 hk
 exact ⟨h6.1.trans h5.1,h6.2⟩
end
def lits (u:Nat→Value):Nat→Nat→List Value
 |_,0=>[]
 |s,n+1=>u s :: lits u (s+1) n
theorem lits_get (u:Nat→Value):∀ (n s i:Nat),(lits u s n)[i]? = if i<n then some (u (s+i)) else none
 |0,s,i=>by simp [lits]
 |n+1,s,0=>by simp [lits]
 |n+1,s,i+1=>by
  have:=lits_get u n (s+1) i
  simp only [lits,List.getElem?_cons_succ,this,Nat.add_lt_add_iff_right]
  rw [show s+1+i=s+(i+1) by omega]
theorem litN {n:Nat} {a:Act} (h:a.tmps.size=n) (hd:a.defers=[]):∃ u:Nat→Value,a={ tmps:=(lits u 0 n).toArray,defers:=[] }∧∀ i,a.tmps.getD i undef=u i:=by
 obtain ⟨⟨l⟩,ds⟩:=a
 simp only at hd h
 subst hd
 refine ⟨fun i=>(Array.mk l).getD i undef,?_,fun i=>rfl⟩
 have e:l=lits (fun i=>(Array.mk l).getD i undef) 0 n:=by
  apply List.ext_getElem?
  intro i
  rw [lits_get]
  have hl:l.length=n:=h
  by_cases hi:i<n
  ·rw [if_pos hi,List.getElem?_eq_getElem (by omega)]
   simp [Array.getD,hl,hi]
  ·rw [if_neg hi,List.getElem?_eq_none (by omega)]
 exact congrArg (fun x=>({ tmps:=x.toArray,defers:=[] }:Act)) e
def Fl (n:Nat) (l:List (Nat×Value)) (a:Act):Prop:=a.tmps.size=n∧a.defers=[]∧∀ p∈l,a.tmps.getD p.1 undef=p.2
theorem Fl.sub {n:Nat} {l l':List (Nat×Value)} {a:Act} (h:Fl n l a) (hs:∀ p∈l',p∈l):Fl n l' a:=⟨h.1,h.2.1,fun p hp=>h.2.2 p (hs p hp)⟩
theorem Fl.at {n:Nat} {l:List (Nat×Value)} {a:Act} (h:Fl n l a) (k:Nat) (v:Value) (hs:(k,v)∈l):a.eval (.tmp k)=v:=h.2.2 (k,v) hs
theorem id_any (tb i:Nat) (w:World) (h:w.cell? ⟨tb,1,none⟩=some (I i)):Calls Tryd.prog 68 #[Pt tb 0] w fun e w'=>e=.returned (I i)∧w'=w:=by
 go_enter Tryd.func68,Tryd.ntmps68
 go_wp2_with fail
 go_ret
 exact ⟨rfl,rfl⟩
theorem which_any (i s j:Nat) (hj:i % s=j) (hs:0<s) (w:World):Calls Tryd.prog 62 #[I i,I s] w fun e w'=>e=.returned (I j)∧w'=w:=by
 subst hj
 have h2:((s:Int)==0)=false:=by simp;omega
 have h3:¬ ((s:Int)=0):=by omega
 have h4:0≤((i:Int) % (s:Int)):=Int.emod_nonneg _ h3
 have h5:decide ((i:Int) % (s:Int)<0)=false:=decide_eq_false (by omega)
 go_enter Tryd.func62,Tryd.ntmps62
 go_wp2_with fail
 go_ret
 exact ⟨by rw [Int.natCast_emod];rfl,rfl⟩
noncomputable def a55:Code:=seq1 (Tryd.f55.body.getD .skip)
noncomputable def L55:Code:=loopC (blockC (seq2 (Tryd.f55.body.getD .skip)))
noncomputable def B55:Code:=blockC L55
noncomputable def ops551:Array Oper:=opsOf (seq1 B55)
noncomputable def ops552:Array Oper:=opsOf (seq1 (seq2 B55))
theorem fine_a55:fineCode Tryd.prog true LT a55:=fineCode_ask callT extT (by kernel_rfl)
noncomputable def aFr (a:Act):Frame:=(base 55).at a [.code L55,.inLoop L55,.inBlock 0]
noncomputable def aSeen (a:Act) (r:Value):Frame:=(base 55).at (a.put (some 24) r) [.inRegion ops551 [3],.code (seq2 B55),.inBlock 1,.inLoop L55,.inBlock 0]
noncomputable def aTried (a:Act) (r:Value):Frame:=(base 55).at (a.put (some 31) r) [.inRegion ops552 [],.code (seq2 (seq2 B55)),.inBlock 1,.inLoop L55,.inBlock 0]
structure Ctr (v:World) (c sb s:Nat) (kb:List Nat):Prop where
 row:v.cell? ⟨c,0,none⟩=some (.slice (some ⟨sb,0,none⟩) s s)
 cel:∀ j,j<s→∃ cb,kb[j]? = some cb∧v.cell? ⟨sb,j,none⟩=some (Pt cb 0)
 s0:0<s
 s1:s≤16
theorem a55_wp (v:World) (c sb s tb i cb:Nat) (n:Int) (h0:v.cell? ⟨c,0,none⟩=some (.slice (some ⟨sb,0,none⟩) s s)) (h1:v.cell? ⟨tb,1,none⟩=some (I i)) (h2:v.cell? ⟨sb,i % s,none⟩=some (Pt cb 0)) (hs:0<s) :
 a55.wp Tryd.prog (fun e a w'=>e=.normal∧Fl 32 [(0,Pt c 0),(1,Pt tb 0),(2,I n),(6,Pt cb 0)] a∧w'.heap=v.heap∧w'.os=v.os∧w'.output=v.output) { tmps:=#[Pt c 0,Pt tb 0,I n]++Array.replicate 29 undef,defers:=[] } v:=by
 have hlt:i % s<s:=Nat.mod_lt _ hs
 have hlt2:((i % s:Nat):Int)<(s:Int):=by omega
 have hge:¬ ((i % s:Nat):Int)<0:=by omega
 generalize hj:i % s=j at h2 hlt hlt2 hge
 have HJ:Hid (i % s=j):=⟨hj⟩
 clear hj
 unfold a55 Tryd.f55 seq1
 simp only [Option.getD_some,Array.replicate_succ,Array.replicate_zero,List.push_toArray,List.append_toArray,List.nil_append,List.cons_append]
 go_wp2_with fail
 go_quiet ((first
  |(go_at_call 68;exact Calls.quiet_of_same (id_any tb i _ (by simpa using h1)))
  |(go_at_call 62;exact Calls.quiet_of_same (which_any i s j HJ.out hs _))))
 exact ⟨rfl,⟨rfl,rfl,by
  intro p hp
  simp only [List.mem_cons,List.not_mem_nil,or_false] at hp
  rcases hp with rfl|rfl|rfl|rfl<;>rfl⟩,rfl,rfl,rfl⟩
theorem add_in {z:Nat→Option Nat} {Ch:Nat→Prop} {Stop:Goroutine→World→Prop} {main:Bool} {v w:World} {c sb s tb i cb:Nat} {kb:List Nat} (n:Int) (hC:Ctr v c sb s kb) (h1:v.cell? ⟨tb,1,none⟩=some (I i)) (hcb:kb[i % s]? = some cb) (cs:List Frame) (hvw:Rel z v w) (hn:NoRow Ch v)
 (hk:∀ a v' w',Fl 32 [(0,Pt c 0),(1,Pt tb 0),(2,I n),(6,Pt cb 0)] a→Rel z v' w'→NoRow Ch v'→v'.heap=v.heap→v'.os=v.os→v'.output=v.output→GoesI Tryd.prog main (DT (ScZ z) Ch) Stop (G (aFr a) cs) w') (code:Code) (hc:Tryd.f55.body=some code) :
 GoesI Tryd.prog main (DT (ScZ z) Ch) Stop (G ((base 55).at { tmps:=#[Pt c 0,Pt tb 0,I n]++Array.replicate 29 undef,defers:=[] } [.code code]) cs) w:=by
 have hw0:code=.seq a55 (.block 0 (.loop L55)):=by
  rw [show code=Tryd.f55.body.getD .skip by rw [hc];rfl];rfl
 subst hw0
 clear hc
 obtain ⟨cb',e1,e2⟩:=hC.cel (i % s) (Nat.mod_lt _ hC.s0)
 have e3:cb'=cb:=by rw [hcb] at e1;exact (Option.some.inj e1).symm
 rw [e3] at e2
 refine goesI_seq (dt_idle _ _) ?_
 refine goesI_plain (z:=z) (wr:=true) (L:=LT) (I:=NoRow Ch) hE fineT noRow_keeps (fun v v' w w' es hi hr ho he=>dt_of_z v v' w w' es hi hr ho he) hvw fine_a55 rfl (by simp [base]) hn
  (Q:=fun a w'=>Fl 32 [(0,Pt c 0),(1,Pt tb 0),(2,I n),(6,Pt cb 0)] a∧w'.heap=v.heap∧w'.os=v.os∧w'.output=v.output) (fun τ=>a55_wp (onTape v τ 0) c sb s tb i cb n hC.row h1 e2 hC.s0) ?_
 rintro a' v' w' ⟨hA,q1,q2,q3⟩ hr' hn' -
 refine goesI_block (dt_idle _ _) ?_
 refine goesI_loop (dt_idle _ _) ?_
 exact hk a' v' w' hA hr' hn' q1 q2 q3
theorem add_loop {z:Nat→Option Nat} {Ch:Nat→Prop} {Stop:Goroutine→World→Prop} {h:Nat} {cont:Addr→Value} {S:TS} {K:List (Nat×Int)} {v w:World} {i j cb c:Nat} {t:Thr} {n:Int} (x:Int) {a:Act} (hA:Fl 32 [(0,Pt c 0),(1,Pt t.tb 0),(2,I n),(6,Pt cb 0)] a) (cs:List Frame) (Hm:Goroutine→Prop)
 (hH:∀ g,(∃ a,Fl 32 [(0,Pt c 0),(1,Pt t.tb 0),(2,I n),(6,Pt cb 0)] a∧OpBack (h==0) i j cb t.tb 1 effLoad (fun r=>G (aSeen a r) cs) g)→Hm g)
 (hvw:Rel z v w) (hn:NoRow Ch v) (hm:Mem z S K v) (ht:S.thr[i]? = some t) (hK:K[j]? = some (cb,x)) (hz:z t.tb=some 2) (hcont:cont ⟨t.tb,2,none⟩=.chan (some t.gc))
 (hstop:∀ g w',GiveT z cont h S.bk t.gc Hm (Then z Ch S K v (waiting S i t 1 1 j) K) g w'→Stop g w') :
 GoesI Tryd.prog (h==0) (DT (ScZ z) Ch) Stop (G (aFr a) cs) w:=by
 have HM:Hid (Mem z S K v):=⟨hm⟩
 clear hm
 unfold aSeen ops551 B55 L55 Tryd.f55 seq1 seq2 blockC loopC opsOf at hH
 simp only [Option.getD_some] at hH
 obtain ⟨hsz,hd,hpp⟩:=hA
 obtain ⟨u,rfl,hg⟩:=litN hsz hd
 have u0:=(hg 0).symm.trans (hpp (0,Pt c 0) (by simp))
 have u1:=(hg 1).symm.trans (hpp (1,Pt t.tb 0) (by simp))
 have u2:=(hg 2).symm.trans (hpp (2,I n) (by simp))
 have u6:=(hg 6).symm.trans (hpp (6,Pt cb 0) (by simp))
 clear hg hpp hsz hd
 unfold aFr L55 Tryd.f55 seq2 blockC loopC
 simp only [Option.getD_some,lits,Nat.reduceAdd,u0,u1,u2,u6]
 clear u0 u1 u2 u6
 refine goesI_block (dt_idle _ _) ?_
 refine goesI_seq (dt_idle _ _) ?_
 refine goesI_region (dt_idle _ _) ?_
 simp only [List.size_toArray,List.length_cons,List.length_nil,Nat.reduceAdd,Nat.zero_add,List.range,List.range.loop]
 iterate 2
  (refine goesI_oper rfl rfl (by decide) (fun d K hK=>?_)
   go_simp
   refine hK _ _ ⟨dt_reads (fun e he=>?_),GoesI.at ?_ d⟩
   ·have hm:=mem_listed he
    simp [go_sem, *] at hm
    try exact ⟨_,_,hm⟩
   clear hK K)
 refine goesI_into (f:=73) (fn:=Tryd.f73) (args:=#[Pt cb 0,Pt t.tb 0]) (dt_idle _ _) rfl rfl (by decide) rfl (by simp [Act.eval]) Tryd.func73 (by decide) rfl ?_
 exact load_goes x _ Hm rfl (fun g hg=>hH g ⟨_,⟨rfl,rfl,by
  intro p hp
  simp only [List.mem_cons,List.not_mem_nil,or_false] at hp
  rcases hp with rfl|rfl|rfl|rfl<;>rfl⟩,hg⟩) hvw hn HM.out ht hK hz hcont hstop _ rfl
theorem fits_flds {v w:World} (h:R1.Flds v) (e:w.heap=v.heap):R1.Flds w:=h.of fun a x ha=>by rw [World.cell?_of_block (w:=v) (by rw [e])];exact ha
theorem blw_grows {v v':World} (h:Below v.heap.size v v'):Grows v v':=⟨h.size,fun b hb=>h.block b hb,h.os,h.output⟩
theorem add_try {z:Nat→Option Nat} {Ch:Nat→Prop} {Stop:Goroutine→World→Prop} {h:Nat} {cont:Addr→Value} {S:TS} {K:List (Nat×Int)} {v w:World} {i j cb c:Nat} {t:Thr} {n:Int} (x y:Int) (hF:R1.Flds v) {a:Act} (hA:Fl 32 [(0,Pt c 0),(1,Pt t.tb 0),(2,I n),(6,Pt cb 0)] a) (cs:List Frame) (Hm:Goroutine→Prop)
 (hH:∀ g,(∃ a,Fl 32 [(0,Pt c 0),(1,Pt t.tb 0),(2,I n),(6,Pt cb 0)] a∧OpBack (h==0) i j cb t.tb 4 (effCas x (R1.addI x n)) (fun r=>G (aTried a r) cs) g)→Hm g)
 (hvw:Rel z v w) (hn:NoRow Ch v) (hm:Mem z S K v) (ht:S.thr[i]? = some t) (hK:K[j]? = some (cb,y)) (hz:z t.tb=some 2) (hcont:cont ⟨t.tb,2,none⟩=.chan (some t.gc))
 (hstop:∀ g w',GiveT z cont h S.bk t.gc Hm (Then z Ch S K v (waiting S i t 1 4 j) K) g w'→Stop g w') :
 GoesI Tryd.prog (h==0) (DT (ScZ z) Ch) Stop (G (aSeen a (I x)) cs) w:=by
 have HM:Hid (Mem z S K v):=⟨hm⟩
 clear hm
 unfold aTried ops552 B55 L55 Tryd.f55 seq1 seq2 blockC loopC opsOf at hH
 simp only [Option.getD_some] at hH
 obtain ⟨hsz,hd,hpp⟩:=hA
 obtain ⟨u,rfl,hg⟩:=litN hsz hd
 have u0:=(hg 0).symm.trans (hpp (0,Pt c 0) (by simp))
 have u1:=(hg 1).symm.trans (hpp (1,Pt t.tb 0) (by simp))
 have u2:=(hg 2).symm.trans (hpp (2,I n) (by simp))
 have u6:=(hg 6).symm.trans (hpp (6,Pt cb 0) (by simp))
 clear hg hpp hsz hd
 unfold aSeen ops551 B55 L55 Tryd.f55 seq2 seq1 blockC loopC opsOf
 simp only [Option.getD_some,lits,Nat.reduceAdd,u0,u1,u2,u6]
 clear u0 u1 u2 u6
 walk_nrm
 iterate 1
  (refine goesI_oper rfl rfl (by decide) (fun d K hK=>?_)
   go_simp
   refine hK _ _ ⟨dt_reads (fun e he=>?_),GoesI.at ?_ d⟩
   ·have hm:=mem_listed he
    simp [go_sem, *] at hm
    try exact ⟨_,_,hm⟩
   clear hK K)
 refine goesI_regionEnd (dt_idle _ _) ?_
 refine goesI_seq (dt_idle _ _) ?_
 refine goesI_region (dt_idle _ _) ?_
 simp only [List.size_toArray,List.length_cons,List.length_nil,Nat.reduceAdd,Nat.zero_add,List.range,List.range.loop]
 iterate 5
  (refine goesI_oper rfl rfl (by decide) (fun d K hK=>?_)
   go_simp
   refine hK _ _ ⟨dt_reads (fun e he=>?_),GoesI.at ?_ d⟩
   ·have hm:=mem_listed he
    simp [go_sem, *] at hm
    try exact ⟨_,_,hm⟩
   clear hK K)
 refine goesI_call (f:=87) (fn:=Tryd.f87) (args:=#[I x,I n]) hE fineT rfl rfl (by decide) rfl (by simp [Act.eval]) Tryd.func87 (by kernel_rfl) rfl (fineFn_body fineT (by simp [LT,plainFs]) Tryd.func87 rfl) (fun tmps=>⟨_,fun w=>results_tmp rfl _ _ _,fun w=>by simp [results,go_sem,Tryd.f87]⟩) hvw hn
  (R:=fun r v4=>r=I (R1.addI x n)∧Grows v v4) (fun τ=>?_) (fun r v4 w4 hR hvw4 hn4=>?_)
 ·exact wp_mono (R1.added_any x n (onTape v τ 0) (fits_flds hF rfl) _ rfl) (bp_mono fun r u hq=>⟨hq.1,⟨(blw_grows hq.2).size,(blw_grows hq.2).old,hq.2.os,hq.2.output⟩⟩)
 obtain ⟨rfl,hg4⟩:=hR
 have hm4:=(HM.out.grows hg4)
 walk_nrm
 refine goesI_into (f:=77) (fn:=Tryd.f77) (args:=#[Pt cb 0,Pt t.tb 0,I x,I (R1.addI x n)]) (dt_idle _ _) rfl rfl (by decide) rfl (by simp [Act.eval]) Tryd.func77 (by decide) rfl ?_
 exact cas_goes x (R1.addI x n) y _ Hm rfl (fun g hg=>hH g ⟨_,⟨rfl,rfl,by
  intro p hp
  simp only [List.mem_cons,List.not_mem_nil,or_false] at hp
  rcases hp with rfl|rfl|rfl|rfl<;>rfl⟩,hg⟩) hvw4 hn4 hm4.mem ht hK hz hcont (fun g w' hs=>hstop g w' (give_mono (fun hT=>by obtain ⟨v',r1,r2,r3⟩:=hT;exact ⟨v',r1,r2,hm4.trans r3⟩) hs)) _ rfl
theorem add_won {z:Nat→Option Nat} {Ch:Nat→Prop} {Stop:Goroutine→World→Prop} {main:Bool} {v w:World} {a:Act} {L:List (Nat×Value)} (hA:Fl 32 L a) (cs:List Frame) {bc:Frame} {ac:Act} {ops:Array Oper} {q:Nat} {rest:List Nat} {oc:Oper} {k:List Item} (hoc:ops[q]? = some oc)
 (hvw:Rel z v w) (hn:NoRow Ch v)
 (hk:∀ w',Rel z v w'→GoesI Tryd.prog main (DT (ScZ z) Ch) Stop (G (bc.at (ac.put oc.dst (.tuple #[])) (.inRegion ops rest :: k)) cs) w') :
 GoesI Tryd.prog main (DT (ScZ z) Ch) Stop (G (aTried a (.bool true)) (bc.at ac (.inRegion ops (q :: rest) :: k) :: cs)) w:=by
 obtain ⟨hsz,hd,hpp⟩:=hA
 obtain ⟨u,rfl,hg⟩:=litN hsz hd
 clear hg hpp hsz hd
 unfold aTried ops552 B55 L55 Tryd.f55 seq2 seq1 blockC loopC opsOf
 simp only [Option.getD_some,lits,Nat.reduceAdd]
 walk_nrm
 refine goesI_regionEnd (dt_idle _ _) ?_
 refine goesI_cond (dt_idle _ _) (t:=true) rfl ?_
 simp only [if_true,if_false,Bool.false_eq_true]
 refine GoesI.ctl rfl (fun _=>stepG_ret') (dt_idle _ _) ?_
 exact goesI_leaveZ (f:=55) (fn:=Tryd.f55) (x:=.tuple #[]) hvw hn Tryd.func55 rfl hoc (by simp [results,go_sem,Tryd.f55]) (fun w' r'=>hk w' r')
theorem add_again {z:Nat→Option Nat} {Ch:Nat→Prop} {Stop:Goroutine→World→Prop} {main:Bool} {w:World} {c tb cb:Nat} {n:Int} {a:Act} (hA:Fl 32 [(0,Pt c 0),(1,Pt tb 0),(2,I n),(6,Pt cb 0)] a) (cs:List Frame)
 (hk:∀ a,Fl 32 [(0,Pt c 0),(1,Pt tb 0),(2,I n),(6,Pt cb 0)] a→GoesI Tryd.prog main (DT (ScZ z) Ch) Stop (G (aFr a) cs) w) :
 GoesI Tryd.prog main (DT (ScZ z) Ch) Stop (G (aTried a (.bool false)) cs) w:=by
 unfold aFr L55 Tryd.f55 seq2 blockC loopC at hk
 simp only [Option.getD_some] at hk
 obtain ⟨hsz,hd,hpp⟩:=hA
 obtain ⟨u,rfl,hg⟩:=litN hsz hd
 have u0:=(hg 0).symm.trans (hpp (0,Pt c 0) (by simp))
 have u1:=(hg 1).symm.trans (hpp (1,Pt tb 0) (by simp))
 have u2:=(hg 2).symm.trans (hpp (2,I n) (by simp))
 have u6:=(hg 6).symm.trans (hpp (6,Pt cb 0) (by simp))
 clear hg hpp hsz hd
 unfold aTried ops552 B55 L55 Tryd.f55 seq2 seq1 blockC loopC opsOf
 simp only [Option.getD_some,lits,Nat.reduceAdd,u0,u1,u2,u6]
 clear u0 u1 u2 u6
 walk_nrm
 refine goesI_regionEnd (dt_idle _ _) ?_
 refine goesI_cond (dt_idle _ _) (t:=false) rfl ?_
 simp only [if_true,if_false,Bool.false_eq_true]
 refine goesI_skip (dt_idle _ _) ?_
 refine goesI_inBlock (dt_idle _ _) ?_
 refine goesI_inLoop (dt_idle _ _) ?_
 exact hk _ ⟨rfl,rfl,by
  intro p hp
  simp only [List.mem_cons,List.not_mem_nil,or_false] at hp
  rcases hp with rfl|rfl|rfl|rfl<;>rfl⟩
noncomputable def a88:Code:=seq1 (Tryd.f88.body.getD .skip)
noncomputable def L88:Code:=loopC (blockC (seq2 (Tryd.f88.body.getD .skip)))
noncomputable def B88:Code:=blockC (seq1 (seq2 (seq2 L88)))
noncomputable def ops883:Array Oper:=opsOf (seq2 B88)
noncomputable def r884:Code:=seq2 (seq2 (seq2 L88))
theorem fine_a88:fineCode Tryd.prog true LT a88:=fineCode_ask callT extT (by kernel_rfl)
noncomputable def kFr (a:Act):Frame:=(base 88).at a [.code L88,.inLoop L88,.inBlock 0]
noncomputable def kSeen (a:Act) (r:Value):Frame:=(base 88).at (a.put (some 22) r) [.inRegion ops883 [5,6],.inBlock 1,.code r884,.inLoop L88,.inBlock 0]
theorem a88_wp (v:World) (c sb s nb tb:Nat) (h0:v.cell? ⟨c,0,none⟩=some (.slice (some ⟨sb,0,none⟩) s s)) :
 a88.wp Tryd.prog (fun e a w'=>e=.normal∧Fl 25 [(0,Pt c 0),(1,Pt tb 0),(2,.slice (some ⟨nb,0,none⟩) s s),(11,.slice (some ⟨sb,0,none⟩) s s),(12,I s),(13,I 0)] a∧w'.heap=v.heap∧w'.os=v.os∧w'.output=v.output) { tmps:=#[Pt c 0,Pt tb 0,.slice (some ⟨nb,0,none⟩) s s]++Array.replicate 22 undef,defers:=[] } v:=by
 unfold a88 Tryd.f88 seq1
 simp only [Option.getD_some,Array.replicate_succ,Array.replicate_zero,List.push_toArray,List.append_toArray,List.nil_append,List.cons_append]
 go_wp2_with fail
 first
  |exact ⟨rfl,⟨rfl,rfl,by
   intro p hp
   simp only [List.mem_cons,List.not_mem_nil,or_false] at hp
   rcases hp with rfl|rfl|rfl|rfl|rfl|rfl<;>rfl⟩,rfl,rfl,rfl⟩
  |exact ⟨rfl,rfl,by
   intro p hp
   simp only [List.mem_cons,List.not_mem_nil,or_false] at hp
   rcases hp with rfl|rfl|rfl|rfl|rfl|rfl<;>rfl⟩
theorem coll_in {z:Nat→Option Nat} {Ch:Nat→Prop} {Stop:Goroutine→World→Prop} {main:Bool} {v w:World} {c sb s nb tb:Nat} (h0:v.cell? ⟨c,0,none⟩=some (.slice (some ⟨sb,0,none⟩) s s)) (cs:List Frame) (hvw:Rel z v w) (hn:NoRow Ch v)
 (hk:∀ a v' w',Fl 25 [(0,Pt c 0),(1,Pt tb 0),(2,.slice (some ⟨nb,0,none⟩) s s),(11,.slice (some ⟨sb,0,none⟩) s s),(12,I s),(13,I 0)] a→Rel z v' w'→NoRow Ch v'→v'.heap=v.heap→v'.os=v.os→v'.output=v.output→GoesI Tryd.prog main (DT (ScZ z) Ch) Stop (G (kFr a) cs) w') (code:Code) (hc:Tryd.f88.body=some code) :
 GoesI Tryd.prog main (DT (ScZ z) Ch) Stop (G ((base 88).at { tmps:=#[Pt c 0,Pt tb 0,.slice (some ⟨nb,0,none⟩) s s]++Array.replicate 22 undef,defers:=[] } [.code code]) cs) w:=by
 have hw0:code=.seq a88 (.block 0 (.loop L88)):=by
  rw [show code=Tryd.f88.body.getD .skip by rw [hc];rfl];rfl
 subst hw0
 clear hc
 refine goesI_seq (dt_idle _ _) ?_
 refine goesI_plain (z:=z) (wr:=true) (L:=LT) (I:=NoRow Ch) hE fineT noRow_keeps (fun v v' w w' es hi hr ho he=>dt_of_z v v' w w' es hi hr ho he) hvw fine_a88 rfl (by simp [base]) hn
  (Q:=fun a w'=>Fl 25 [(0,Pt c 0),(1,Pt tb 0),(2,.slice (some ⟨nb,0,none⟩) s s),(11,.slice (some ⟨sb,0,none⟩) s s),(12,I s),(13,I 0)] a∧w'.heap=v.heap∧w'.os=v.os∧w'.output=v.output) (fun τ=>a88_wp (onTape v τ 0) c sb s nb tb h0) ?_
 rintro a' v' w' ⟨hA,q1,q2,q3⟩ hr' hn' -
 refine goesI_block (dt_idle _ _) ?_
 refine goesI_loop (dt_idle _ _) ?_
 exact hk a' v' w' hA hr' hn' q1 q2 q3
theorem coll_look {z:Nat→Option Nat} {Ch:Nat→Prop} {Stop:Goroutine→World→Prop} {h:Nat} {cont:Addr→Value} {S:TS} {K:List (Nat×Int)} {v w:World} {i k cb c sb s nb:Nat} {t:Thr} (x:Int) (hks:k<s) (hcb:v.cell? ⟨sb,k,none⟩=some (Pt cb 0)) {a:Act} (hA:Fl 25 [(0,Pt c 0),(1,Pt t.tb 0),(2,.slice (some ⟨nb,0,none⟩) s s),(11,.slice (some ⟨sb,0,none⟩) s s),(12,I s),(13,I k)] a) (cs:List Frame) (Hm:Goroutine→Prop)
 (hH:∀ g,(∃ a,Fl 25 [(0,Pt c 0),(1,Pt t.tb 0),(2,.slice (some ⟨nb,0,none⟩) s s),(11,.slice (some ⟨sb,0,none⟩) s s),(12,I s),(13,I k)] a∧Fl 25 [(18,.slice (some ⟨nb,0,none⟩) s s),(19,I k)] a∧OpBack (h==0) i k cb t.tb 1 effLoad (fun r=>G (kSeen a r) cs) g)→Hm g)
 (hvw:Rel z v w) (hn:NoRow Ch v) (hm:Mem z S K v) (ht:S.thr[i]? = some t) (hK:K[k]? = some (cb,x)) (hz:z t.tb=some 2) (hcont:cont ⟨t.tb,2,none⟩=.chan (some t.gc))
 (hstop:∀ g w',GiveT z cont h S.bk t.gc Hm (Then z Ch S K v (waiting S i t 1 1 k) K) g w'→Stop g w') :
 GoesI Tryd.prog (h==0) (DT (ScZ z) Ch) Stop (G (kFr a) cs) w:=by
 have e0:w.cell? ⟨sb,k,none⟩=some (Pt cb 0):=by rw [hvw.cell?];exact hcb
 have hks':(k:Int)<(s:Int):=by omega
 have HM:Hid (Mem z S K v):=⟨hm⟩
 clear hm
 unfold kSeen ops883 r884 B88 L88 Tryd.f88 seq1 seq2 blockC loopC opsOf at hH
 simp only [Option.getD_some] at hH
 obtain ⟨hsz,hd,hpp⟩:=hA
 obtain ⟨u,rfl,hg⟩:=litN hsz hd
 have u0:=(hg 0).symm.trans (hpp (0,Pt c 0) (by simp))
 have u1:=(hg 1).symm.trans (hpp (1,Pt t.tb 0) (by simp))
 have u2:=(hg 2).symm.trans (hpp (2,.slice (some ⟨nb,0,none⟩) s s) (by simp))
 have u11:=(hg 11).symm.trans (hpp (11,.slice (some ⟨sb,0,none⟩) s s) (by simp))
 have u12:=(hg 12).symm.trans (hpp (12,I s) (by simp))
 have u13:=(hg 13).symm.trans (hpp (13,I k) (by simp))
 clear hg hpp hsz hd
 unfold kFr L88 Tryd.f88 seq2 blockC loopC
 simp only [Option.getD_some,lits,Nat.reduceAdd,u0,u1,u2,u11,u12,u13]
 clear u0 u1 u2 u11 u12 u13
 refine goesI_seq (dt_idle _ _) ?_
 refine goesI_region (dt_idle _ _) ?_
 simp only [List.size_toArray,List.length_cons,List.length_nil,Nat.reduceAdd,Nat.zero_add,List.range,List.range.loop]
 iterate 1
  (refine goesI_oper rfl rfl (by decide) (fun d K hK=>?_)
   go_simp
   refine hK _ _ ⟨dt_reads (fun e he=>?_),GoesI.at ?_ d⟩
   ·have hm:=mem_listed he
    simp [go_sem, *] at hm
    try exact ⟨_,_,hm⟩
   clear hK K)
 refine goesI_regionEnd (dt_idle _ _) ?_
 refine goesI_seq (dt_idle _ _) ?_
 refine goesI_cond (dt_idle _ _) (t:=true) (by simp [Act.eval,hks]) ?_
 simp only [if_true,if_false,Bool.false_eq_true]
 refine goesI_skip (dt_idle _ _) ?_
 refine goesI_seq (dt_idle _ _) ?_
 refine goesI_block (dt_idle _ _) ?_
 refine goesI_seq (dt_idle _ _) ?_
 refine goesI_region (dt_idle _ _) ?_
 simp only [List.size_toArray,List.length_cons,List.length_nil,Nat.reduceAdd,Nat.zero_add,List.range,List.range.loop]
 iterate 5
  (refine goesI_oper rfl rfl (by decide) (fun d K hK=>?_)
   go_simp
   refine hK _ _ ⟨dt_reads (fun e he=>?_),GoesI.at ?_ d⟩
   ·have hm:=mem_listed he
    simp [go_sem, *] at hm
    try exact ⟨_,_,hm⟩
   clear hK K)
 refine goesI_regionEnd (dt_idle _ _) ?_
 refine goesI_region (dt_idle _ _) ?_
 simp only [List.size_toArray,List.length_cons,List.length_nil,Nat.reduceAdd,Nat.zero_add,List.range,List.range.loop]
 iterate 4
  (refine goesI_oper rfl rfl (by decide) (fun d K hK=>?_)
   go_simp
   refine hK _ _ ⟨dt_reads (fun e he=>?_),GoesI.at ?_ d⟩
   ·have hm:=mem_listed he
    simp [go_sem, *] at hm
    try exact ⟨_,_,hm⟩
   clear hK K)
 refine goesI_into (f:=73) (fn:=Tryd.f73) (args:=#[Pt cb 0,Pt t.tb 0]) (dt_idle _ _) rfl rfl (by decide) rfl (by simp [Act.eval]) Tryd.func73 (by decide) rfl ?_
 exact load_goes x _ Hm rfl (fun g hg=>hH g ⟨_,⟨rfl,rfl,by
  intro p hp
  simp only [List.mem_cons,List.not_mem_nil,or_false] at hp
  rcases hp with rfl|rfl|rfl|rfl|rfl|rfl<;>rfl⟩,⟨rfl,rfl,by
  intro p hp
  simp only [List.mem_cons,List.not_mem_nil,or_false] at hp
  rcases hp with rfl|rfl<;>rfl⟩,hg⟩) hvw hn HM.out ht hK hz hcont hstop _ rfl
theorem coll_put {z:Nat→Option Nat} {Ch:Nat→Prop} {Stop:Goroutine→World→Prop} {main:Bool} {v w:World} {k c sb s nb tb:Nat} (x y:Int) (hks:k<s) (hs1:s≤16) (hy:v.cell? ⟨nb,k,none⟩=some (I y)) (hf:v.frozen? ⟨nb,k,none⟩=false) {a:Act} (hA:Fl 25 [(0,Pt c 0),(1,Pt tb 0),(2,.slice (some ⟨nb,0,none⟩) s s),(11,.slice (some ⟨sb,0,none⟩) s s),(12,I s),(13,I k)] a) (hA2:Fl 25 [(18,.slice (some ⟨nb,0,none⟩) s s),(19,I k)] a) (cs:List Frame) (hvw:Rel z v w) (hn:NoRow Ch v)
 (hk:∀ a w',Fl 25 [(0,Pt c 0),(1,Pt tb 0),(2,.slice (some ⟨nb,0,none⟩) s s),(11,.slice (some ⟨sb,0,none⟩) s s),(12,I s),(13,I ((k+1:Nat):Int))] a→Rel z (v.setCell ⟨nb,k,none⟩ (I x)) w'→NoRow Ch (v.setCell ⟨nb,k,none⟩ (I x))→GoesI Tryd.prog main (DT (ScZ z) Ch) Stop (G (kFr a) cs) w') :
 GoesI Tryd.prog main (DT (ScZ z) Ch) Stop (G (kSeen a (I x)) cs) w:=by
 have hks':(k:Int)<(s:Int):=by omega
 have e18:=hA2.2.2 (18,.slice (some ⟨nb,0,none⟩) s s) (by simp)
 have e19:=hA2.2.2 (19,I k) (by simp)
 clear hA2
 obtain ⟨hsz,hd,hpp⟩:=hA
 obtain ⟨u,rfl,hg⟩:=litN hsz hd
 have u0:=(hg 0).symm.trans (hpp (0,Pt c 0) (by simp))
 have u1:=(hg 1).symm.trans (hpp (1,Pt tb 0) (by simp))
 have u2:=(hg 2).symm.trans (hpp (2,.slice (some ⟨nb,0,none⟩) s s) (by simp))
 have u11:=(hg 11).symm.trans (hpp (11,.slice (some ⟨sb,0,none⟩) s s) (by simp))
 have u12:=(hg 12).symm.trans (hpp (12,I s) (by simp))
 have u13:=(hg 13).symm.trans (hpp (13,I k) (by simp))
 have u18:=(hg 18).symm.trans e18
 have u19:=(hg 19).symm.trans e19
 clear hg hpp hsz hd e18 e19
 unfold kFr L88 Tryd.f88 seq2 blockC loopC at hk
 simp only [Option.getD_some] at hk
 unfold kSeen ops883 r884 B88 L88 Tryd.f88 seq1 seq2 blockC loopC opsOf
 simp only [Option.getD_some,lits,Nat.reduceAdd,u0,u1,u2,u11,u12,u13,u18,u19]
 clear u0 u1 u2 u11 u12 u13 u18 u19
 walk_nrm
 refine goesI_opZ (L:=LT) rfl rfl (by decide) (fineOp_ask callT extT (by kernel_rfl)) hvw hn (x:=.pointer (some ⟨nb,k,none⟩)) (v':=v) (by go_simp) rfl (fun w1 hvw1 _=>?_)
 refine goesI_doZ (L:=LT) rfl rfl (by decide) (fineOp_ask callT extT (by kernel_rfl)) hvw1 hn (v':=v.setCell ⟨nb,k,none⟩ (I x)) (by go_simp) rfl (fun w2 hvw2 hn2=>?_)
 walk_nrm
 refine goesI_regionEnd (dt_idle _ _) ?_
 refine goesI_inBlock (dt_idle _ _) ?_
 refine goesI_region (dt_idle _ _) ?_
 simp only [List.size_toArray,List.length_cons,List.length_nil,Nat.reduceAdd,Nat.zero_add,List.range,List.range.loop]
 iterate 2
  (refine goesI_oper rfl rfl (by decide) (fun d K hK=>?_)
   go_simp
   refine hK _ _ ⟨dt_reads (fun e he=>?_),GoesI.at ?_ d⟩
   ·have hm:=mem_listed he
    simp [go_sem, *] at hm
    try exact ⟨_,_,hm⟩
   clear hK K)
 refine goesI_regionEnd (dt_idle _ _) ?_
 refine goesI_inLoop (dt_idle _ _) ?_
 have hw1:IntKind.i64.wrap ((k:Int)+1)=((k+1:Nat):Int):=by rw [IntKind.wrap_i64];omega
 rw [hw1]
 refine hk _ _ ?_ hvw2 hn2
 exact ⟨rfl,rfl,by
  intro p hp
  simp only [List.mem_cons,List.not_mem_nil,or_false] at hp
  rcases hp with rfl|rfl|rfl|rfl|rfl|rfl<;>rfl⟩
theorem coll_done {z:Nat→Option Nat} {Ch:Nat→Prop} {Stop:Goroutine→World→Prop} {main:Bool} {v w:World} {k c sb s nb tb:Nat} (hks:k=s) {a:Act} (hA:Fl 25 [(0,Pt c 0),(1,Pt tb 0),(2,.slice (some ⟨nb,0,none⟩) s s),(11,.slice (some ⟨sb,0,none⟩) s s),(12,I s),(13,I k)] a) (cs:List Frame) {bc:Frame} {ac:Act} {ops:Array Oper} {q:Nat} {rest:List Nat} {oc:Oper} {kk:List Item} (hoc:ops[q]? = some oc) (hvw:Rel z v w) (hn:NoRow Ch v)
 (hk:∀ w',Rel z v w'→GoesI Tryd.prog main (DT (ScZ z) Ch) Stop (G (bc.at (ac.put oc.dst (.tuple #[])) (.inRegion ops rest :: kk)) cs) w') :
 GoesI Tryd.prog main (DT (ScZ z) Ch) Stop (G (kFr a) (bc.at ac (.inRegion ops (q :: rest) :: kk) :: cs)) w:=by
 subst hks
 obtain ⟨hsz,hd,hpp⟩:=hA
 obtain ⟨u,rfl,hg⟩:=litN hsz hd
 have u0:=(hg 0).symm.trans (hpp (0,Pt c 0) (by simp))
 have u1:=(hg 1).symm.trans (hpp (1,Pt tb 0) (by simp))
 have u2:=(hg 2).symm.trans (hpp (2,.slice (some ⟨nb,0,none⟩) k k) (by simp))
 have u11:=(hg 11).symm.trans (hpp (11,.slice (some ⟨sb,0,none⟩) k k) (by simp))
 have u12:=(hg 12).symm.trans (hpp (12,I k) (by simp))
 have u13:=(hg 13).symm.trans (hpp (13,I k) (by simp))
 clear hg hpp hsz hd
 unfold kFr L88 Tryd.f88 seq2 blockC loopC
 simp only [Option.getD_some,lits,Nat.reduceAdd,u0,u1,u2,u11,u12,u13]
 clear u0 u1 u2 u11 u12 u13
 refine goesI_seq (dt_idle _ _) ?_
 refine goesI_region (dt_idle _ _) ?_
 simp only [List.size_toArray,List.length_cons,List.length_nil,Nat.reduceAdd,Nat.zero_add,List.range,List.range.loop]
 iterate 1
  (refine goesI_oper rfl rfl (by decide) (fun d K hK=>?_)
   go_simp
   refine hK _ _ ⟨dt_reads (fun e he=>?_),GoesI.at ?_ d⟩
   ·have hm:=mem_listed he
    simp [go_sem, *] at hm
    try exact ⟨_,_,hm⟩
   clear hK K)
 refine goesI_regionEnd (dt_idle _ _) ?_
 refine goesI_seq (dt_idle _ _) ?_
 refine goesI_cond (dt_idle _ _) (t:=false) (by simp [Act.eval]) ?_
 simp only [if_true,if_false,Bool.false_eq_true]
 refine goesI_exit (dt_idle _ _) (k':=[]) rfl ?_
 refine goesI_end (dt_idle _ _) ?_
 exact goesI_leaveZ (f:=88) (fn:=Tryd.f88) (x:=.tuple #[]) hvw hn Tryd.func88 rfl hoc (by simp [results,go_sem,Tryd.f88]) (fun w' r'=>hk w' r')
end Go.Proofs.YtfjjoohflcchnaaDoor.Gen
