/- Of the proof of OnceAlone. Part 5 of 30. (Joined, by program, and written short, of: Fine, Tw, Note, Rep, Lift23, Atom, Did.) -/
import Derived.Test.YtfjjoohflcchnaaDoorOnceAlone03
import Derived.Test.YtfjjoohflcchnaaDoorOnceAlone04
import Derived.Test.YtfjjoohflcchnaaDoorProg
import Derived.KernelRfl
import Derived.WalkKit
import Derived.WalkSpells
import Derived.Deep.AppendLies
import Derived.Deep.RegionHeld3
import Derived.Deep.RegionLaw
import Derived.BigRegion
import Derived.Laws.LoneSync
import Derived.Deep.QuietTactic
import Derived.BigQuiet
set_option linter.unusedSimpArgs false
set_option linter.unusedVariables false
set_option maxHeartbeats 4000000
set_option maxRecDepth 100000
namespace Go.Proofs.YtfjjoohflcchnaaDoor
open Go Go.Lift Go.Conc
theorem no_ready:(Tryd.prog.funcs.all fun f=>(f.body.map readies).all (·.isEmpty))=true:=by kernel_rfl
theorem ahead:Tryd.prog.follows .staticDataAhead=true:=by kernel_rfl
theorem stepOf_none (g:Nat):Tryd.prog.stepOf g=none:=by
 unfold Program.stepOf
 rw [Array.findIdx?_eq_none_iff]
 intro f hf
 have h:=(Array.all_eq_true_iff_forall_mem.1 no_ready) f hf
 cases hb:f.body.map readies with
 |none=>simp
 |some l =>
  rw [hb] at h
  simp only [Option.all_some,List.isEmpty_iff] at h
  subst h
  simp
theorem hE:∀ fr cs dy g w,∃ o w',early Tryd.prog fr cs dy g w=.ended o w':=fun fr cs dy g w=>by
 unfold early
 simp only [ahead,stepOf_none,Bool.not_true,Bool.false_eq_true,if_false]
 exact ⟨_,_,rfl⟩
end Go.Proofs.YtfjjoohflcchnaaDoor
namespace Go.Proofs.YtfjjoohflcchnaaDoor
open Go Go.Lift Go.Conc Go.RowKit
abbrev I (n:Int):Value:=.int .i64 n
abbrev Pt (b o:Nat):Value:=.pointer (some ⟨b,o,none⟩)
structure Hid (p:Prop):Prop where
 out:p
def IntRow (w:World) (v:Value) (l:List Int):Prop :=
 (l=[]∧v=.slice none 0 0)∨∃ cb cap,v=.slice (some ⟨cb,0,none⟩) l.length cap∧∀ i x,l[i]? = some x→w.cell? ⟨cb,i,none⟩=some (I x)
def chgOf (l:List Int) (c:Int):Int:=if c<0 then 0 else l.getD c.toNat 0
def Body (f:Func) (args:Array Value) (w:World) (R:Value→World→Prop):Prop :=
 ∀ c,f.body=some c→c.wp Tryd.prog (bodyPost Tryd.prog f (fun e w'=>∃ v,e=.returned v∧R v w')) { tmps:=args++Array.replicate (f.ntmps - args.size) undef,defers:=[] } w
theorem Body.calls {f:FuncId} {fn:Func} {args:Array Value} {w:World} {R:Value→World→Prop} {c:Code} (hf:Tryd.prog.funcs[f]? = some fn) (hb:fn.body=some c) (h:Body fn args w R):Calls Tryd.prog f args w (fun e w'=>∃ v,e=.returned v∧R v w') :=
 calls_of_wp hf hb (h c hb)
theorem body51 (wb:Nat) (c:Int) (cv:Value) (l:List Int) (w:World) (h3:w.cell? ⟨wb,3,none⟩=some cv) (hr:IntRow w cv l):Body Tryd.f157 #[Pt wb 0,I c] w (fun v w'=>v=I (chgOf l c)∧w'=w):=by
 intro code hb
 obtain rfl:=Option.some.inj hb
 clear hb
 simp only [Tryd.ntmps157,List.size_toArray,List.length_cons,List.length_nil,Nat.reduceAdd,Nat.reduceSub,Array.replicate_succ,Array.replicate_zero,List.push_toArray,List.append_toArray,List.nil_append,List.cons_append]
 by_cases hc:c<0
 ·have H:Hid (c<0):=⟨hc⟩
  have g:(decide (c<0))=true:=by simpa using hc
  go_wp2
  go_ret
  exact ⟨_,rfl,by simp [chgOf,H.out],rfl⟩
 ·obtain ⟨n,rfl⟩:∃ n:Nat,c=(n:Int):=⟨c.toNat,by omega⟩
  clear hc
  have hn0:¬ ((n:Int)<0):=by omega
  rcases hr with ⟨rfl,rfl⟩|⟨cb,cap,rfl,hrow⟩
  ·have g:((0:Int)≤(n:Int)):=by omega
   go_wp2
   go_ret
   exact ⟨_,rfl,by simp [chgOf],rfl⟩
  ·by_cases hlt:n<l.length
   ·have hx:=hrow n _ (List.getElem?_eq_getElem hlt)
    have HL:Hid (l[n]? = some l[n]):=⟨List.getElem?_eq_getElem hlt⟩
    have hlt':(n:Int)<(l.length:Int):=by omega
    generalize l[n]=x at hx HL
    clear hrow
    go_wp2
    go_ret
    exact ⟨_,rfl,by simp [chgOf,List.getD_eq_getElem?_getD,HL.out];omega,rfl⟩
   ·have H:Hid (l.length≤n):=⟨by omega⟩
    have g:(l.length:Int)≤(n:Int):=by omega
    clear hrow hlt
    go_wp2
    go_ret
    exact ⟨_,rfl,by simp [chgOf,List.getD_eq_getElem?_getD,List.getElem?_eq_none H.out],rfl⟩
theorem kcell {u u':World} (hb:Below u.heap.size u u') {a:Addr} {v:Value} (h:u.cell? a=some v):u'.cell? a=some v:=by
 rw [hb.cell (World.block_lt_of_cell? _ _ h)];exact h
structure Fr (S:Nat→Prop) (w w':World):Prop where
 os:w'.os=w.os
 output:w'.output=w.output
 size:w.heap.size≤w'.heap.size
 block:∀ b,b<w.heap.size→¬ S b→w'.heap[b]? = w.heap[b]?
theorem Fr.refl (S:Nat→Prop) (w:World):Fr S w w:=⟨rfl,rfl,Nat.le_refl _,fun _ _ _=>rfl⟩
theorem Fr.trans {S:Nat→Prop} {a b c:World} (h:Fr S a b) (k:Fr S b c):Fr S a c :=
 ⟨k.os.trans h.os,k.output.trans h.output,Nat.le_trans h.size k.size,fun x hx hs=>(k.block x (Nat.lt_of_lt_of_le hx h.size) hs).trans (h.block x hx hs)⟩
theorem Fr.mono {S S':Nat→Prop} {a b:World} (hs:∀ x,x<a.heap.size→S x→S' x) (h:Fr S a b):Fr S' a b:=⟨h.os,h.output,h.size,fun x hx hn=>h.block x hx fun hS=>hn (hs x hx hS)⟩
def Noted (wb:Nat) (tv:Value) (n base:Nat) (xs news:List Value) (w w':World):Prop :=
 ∃ g cap,(∀ c t f,w.heap[wb]? = some (.cells c t f)→w'.heap[wb]? = some (.cells (c.setIfInBounds 5 (.slice (some ⟨g,0,none⟩) (n+1) cap)) t f)) ∧
   w'.ownsRow base 60 5 (.slice (some ⟨g,0,none⟩) (n+1) cap) (n+1) (xs++news)∧(tv.ownBlock=some g∨w.heap.size≤g)∧Fr (fun b=>b=wb∨some b=tv.ownBlock) w w'
theorem heap_setCell_same {w:World} {b o:Nat} {c:Array Value} {t:TypeId} {f:Nat×Nat} (h:w.heap[b]? = some (.cells c t f)) (v:Value):(w.setCell ⟨b,o,none⟩ v).heap[b]? = some (.cells (c.setIfInBounds o v) t f):=by
 simp [World.setCell,Array.getElem?_modify,h]
theorem own_set {w:World} {base:Nat} {e:TypeId} {size:Nat} {v:Value} {n:Nat} {xs:List Value} (h:w.ownsRow base e size v n xs) (a:Addr) (x:Value) (hne:v.ownBlock≠some a.block):(w.setCell a x).ownsRow base e size v n xs:=by
 refine ⟨h.1,?_⟩
 rcases h.2 with h2|⟨g,cap,cur,h1,h2,h3,h4⟩
 ·exact .inl h2
 ·refine .inr ⟨g,cap,cur,h1,h2,?_,h4⟩
  rw [Below.heap_setCell _ _ _ _ (fun e=>hne (by rw [h1,e];rfl))]
  exact h3
theorem noted_of {wb:Nat} {tv:Value} {n base:Nat} {xs news:List Value} {w u w6:World} {g cap:Nat} (hb:Below w.heap.size w u) (hw:wb<w.heap.size) (hg:u.grownBy w6 tv.ownBlock) (hown:w6.ownsRow base 60 5 (.slice (some ⟨g,0,none⟩) (n+1) cap) (n+1) (xs++news))
 (hat:tv.ownBlock=some g∨g=u.heap.size) (hne:tv.ownBlock≠some wb):Noted wb tv n base xs news w (w6.setCell ⟨wb,5,none⟩ (.slice (some ⟨g,0,none⟩) (n+1) cap)):=by
 have hgw:g≠wb:=by
  rcases hat with h|h
  ·exact fun e=>hne (by rw [h,e])
  ·have:=hb.size;omega
 have e6:w6.heap[wb]? = w.heap[wb]?:=(hg.block wb (Nat.lt_of_lt_of_le hw hb.size) (Ne.symm hne)).trans (hb.block wb hw)
 refine ⟨g,cap,fun c t f h=>heap_setCell_same (by rw [e6];exact h) _,own_set hown _ _ (fun e=>hgw (Option.some.inj e)),?_,?_⟩
 ·rcases hat with h|h
  ·exact .inl h
  ·exact .inr (by have:=hb.size;omega)
 ·refine ⟨by show w6.os=_;rw [hg.os,hb.os],by show w6.output=_;rw [hg.output,hb.output],?_,fun b hlt hs=>?_⟩
  ·have:=hb.size
   have:=hg.size
   simp only [World.setCell,Array.size_modify]
   omega
  ·rw [Below.heap_setCell _ _ _ _ (fun e=>hs (.inl e)),hg.block b (Nat.lt_of_lt_of_le hlt hb.size) (fun e=>hs (.inr e)),hb.block b hlt]
theorem below_alloc {a b:World} (h:Below a.heap.size a b) (o:Obj):Below a.heap.size a (b.alloc o):=h.alloc h.size o
theorem own_later {w w':World} {base:Nat} {e:TypeId} {size:Nat} {v:Value} {n:Nat} {xs:List Value} (hb:Below w.heap.size w w') (h:w.ownsRow base e size v n xs):w'.ownsRow base e size v n xs:=by
 refine ⟨h.1,?_⟩
 rcases h.2 with h2|⟨g,cap,cur,h1,h2,h3,h4⟩
 ·exact .inl h2
 ·exact .inr ⟨g,cap,cur,h1,h2,(hb.block g (Array.getElem?_eq_some_iff.1 h3).1).trans h3,h4⟩
theorem info34:(Tryd.prog.info? 60).map (fun i=>(i.zero,i.size,i.bytes))=some (some (.agg #[I 0,I 0,I 0,I 0,I 0]),5,40):=by kernel_rfl
theorem one5 (a b c d e:Int):∀ u∈[I a,I b,I c,I d,I e],u.oneCell'=true:=by
 intro u hu
 simp at hu
 rcases hu with rfl|rfl|rfl|rfl|rfl<;>rfl
theorem keep4 {u u':World} {a1 a2 a3:Addr} {v1 v2 v3:Value} (h:u.cell? a1=some v1∧u.cell? a2=some v2∧u.cell? a3=some v3∧u.frozen? a3=false) (hb:Below u.heap.size u u') :
 u'.cell? a1=some v1∧u'.cell? a2=some v2∧u'.cell? a3=some v3∧u'.frozen? a3=false:=by
 obtain ⟨h1,h2,h3,h4⟩:=h
 exact ⟨kcell hb h1,kcell hb h2,kcell hb h3,by rw [hb.frozen (World.block_lt_of_cell? _ _ h3)];exact h4⟩
theorem keep4g {u u':World} {row:Option Nat} {a1 a2 a3:Addr} {v1 v2 v3:Value} (h:u.cell? a1=some v1∧u.cell? a2=some v2∧u.cell? a3=some v3∧u.frozen? a3=false) (hg:u.grownBy u' row)
 (h1:row≠some a1.block) (h2:row≠some a2.block) (h3:row≠some a3.block):u'.cell? a1=some v1∧u'.cell? a2=some v2∧u'.cell? a3=some v3∧u'.frozen? a3=false:=by
 obtain ⟨g1,g2,g3,g4⟩:=h
 exact ⟨by rw [hg.cell_far _ (World.block_lt_of_cell? _ _ g1) h1.symm];exact g1,by rw [hg.cell_far _ (World.block_lt_of_cell? _ _ g2) h2.symm];exact g2,by rw [hg.cell_far _ (World.block_lt_of_cell? _ _ g3) h3.symm];exact g3,
  by rw [hg.frozen_far _ (World.block_lt_of_cell? _ _ g3) h3.symm];exact g4⟩
theorem news5 (w:World) (a b c d e:Int) (t:TypeId):∀ j u,[I a,I b,I c,I d,I e][j]? = some u→(w.alloc (.cells #[I a,I b,I c,I d,I e] t)).cell? ((⟨w.heap.size,0,none⟩:Addr).add j)=some u:=by
 intro j u hj
 have hb:(w.alloc (.cells #[I a,I b,I c,I d,I e] t)).heap[w.heap.size]? = some (.cells #[I a,I b,I c,I d,I e] t):=Array.getElem?_push_size
 exact World.news_of_block hb j u hj
theorem body38 (tb wb id:Nat) (op ce ol ne:Int) (tv:Value) (n base:Nat) (xs:List Value) (w:World) (h0:w.cell? ⟨tb,0,none⟩=some (Pt wb 0)) (h1:w.cell? ⟨tb,1,none⟩=some (I id)) (h5:w.cell? ⟨wb,5,none⟩=some tv)
 (hf:w.frozen? ⟨wb,5,none⟩=false) (hown:w.ownsRow base 60 5 tv n xs) (hbw:tv.ownBlock≠some wb) (hbt:tv.ownBlock≠some tb) (hn:(n+1)*40≤140737488355328) (hbase:base≤w.heap.size) :
 Body Tryd.f128 #[Pt tb 0,I op,I ce,I ol,I ne] w (fun v w'=>v=.tuple #[]∧Noted wb tv n base xs [I id,I ce,I op,I ol,I ne] w w'):=by
 intro code hb
 obtain rfl:=Option.some.inj hb
 clear hb
 simp only [Tryd.ntmps128,List.size_toArray,List.length_cons,List.length_nil,Nat.reduceAdd,Nat.reduceSub,Array.replicate_succ,Array.replicate_zero,List.push_toArray,List.append_toArray,List.nil_append,List.cons_append]
 have HO:Hid (w.ownsRow base 60 5 tv n xs):=⟨hown⟩
 clear hown
 obtain ⟨j0,hj,hj0,hj1,hj2⟩:=info_parts info34
 have q0:=World.block_lt_of_cell? _ _ h0
 have q5:=World.block_lt_of_cell? _ _ h5
 simp only at q0 q5
 have n0:tb≠w.heap.size:=by omega
 have n5:wb≠w.heap.size:=by omega
 have n0':w.heap.size≠tb:=by omega
 have n5':w.heap.size≠wb:=by omega
 go_region_law (refine step_append_lies _ rfl (.tmp 20) (.tmp 30) 41 rfl base 60 j0 _ 5 40 Tryd.underlying41 hj hj0 hj1 hj2 rfl (by decide) tv n xs rfl (own_later (below_alloc (Below.refl _ _).drew _) HO.out) ⟨_,0,none⟩ 1 1 [I id,I ce,I op,I ol,I ne] rfl rfl (news5 _ _ _ _ _ _ _) (one5 _ _ _ _ _) (by decide) (by unfold maxLen;omega) (by omega) (by simp;omega) _ rfl ?_
                intro g cpg w6 hown6 hgrow6 hat6 hlt6
                obtain ⟨_,_,k5,k6⟩:=keep4g (keep4 (u:=w) ⟨h0,h1,h5,hf⟩ (below_alloc (Below.refl _ _).drew _)) hgrow6 hbt hbt hbw)
 all_goals first
  |exact ⟨rfl,_,results_none rfl _ _ _,_,rfl,rfl,noted_of (below_alloc (Below.refl _ _).drew _) q5 hgrow6 hown6 hat6 hbw⟩
  |exact ⟨rfl,_,results_none rfl _ _ _,_,rfl,rfl,noted_of ((below_alloc (Below.refl _ _) _).drew) q5 hgrow6 hown6 hat6 hbw⟩
structure Thr where
 tb:Nat
 gc:Nat
 st:Int
 ce:Int
 op:Int
 se:Int
structure TS where
 wb:Nat
 bk:Nat
 base:Nat
 us:Nat
 n:Nat
 la:Int
 sc:Value
 cv:Value
 ths:Value
 tv:Value
 sched:List Int
 chg:List Int
 tr:List Value
 stk:Bool
 ran:Bool
 thr:List Thr
abbrev trow (wb id gc:Nat) (st ce op se:Int):Array Value:=#[Pt wb 0,I id,.chan (some gc),I st,I ce,I op,I se]
abbrev wrow (S:TS):Array Value:=#[S.sc,I S.us,I S.la,S.cv,S.ths,S.tv,.bool S.stk,.bool S.ran,.chan (some S.bk)]
def blk (S:TS):Nat→Option Nat
 |0=>some S.wb
 |1=>S.cv.ownBlock
 |2=>S.ths.ownBlock
 |3=>S.tv.ownBlock
 |4=>S.sc.ownBlock
 |k+5=>(S.thr[k]?).map (·.tb)
def Its (S:TS) (b:Nat):Prop:=∃ k,blk S k=some b
def fz (z:Nat→Option Nat) (b:Nat):Nat×Nat :=
 match z b with
 |some n=>(n,n+1)
 |none=>(0,0)
structure Rep (z:Nat→Option Nat) (S:TS) (v:World):Prop where
 wor:v.heap[S.wb]? = some (.cells (wrow S) 97 (fz z S.wb))
 thr:∀ (i:Nat) (t:Thr),S.thr[i]? = some t→v.heap[t.tb]? = some (.cells (trow S.wb i t.gc t.st t.ce t.op t.se) 107 (fz z t.tb))
 own:v.ownsRow S.base 60 5 S.tv S.n S.tr
 chg:v.ownsRow S.base 3 1 S.cv S.chg.length (S.chg.map I)
 ths:v.ownsRow S.base 48 1 S.ths S.thr.length (S.thr.map fun t=>Pt t.tb 0)
 sch:v.ownsRow S.base 3 1 S.sc S.sched.length (S.sched.map I)
 bs:S.base≤v.heap.size
 apart:∀ j k b,blk S j=some b→blk S k=some b→j=k
 kept:∀ b n,z b=some n→(b=S.wb∧n=8)∨∃ (i:Nat) (t:Thr),S.thr[i]? = some t∧b=t.tb∧n=2
theorem own_lt {w:World} {base:Nat} {e:TypeId} {size:Nat} {v:Value} {n:Nat} {xs:List Value} (h:w.ownsRow base e size v n xs):∀ g,v.ownBlock=some g→base≤g∧g<w.heap.size:=by
 intro g hg
 rcases h.2 with ⟨rfl,_⟩|⟨g',cap,cur,rfl,hb,hh,_⟩
 ·cases hg
 ·have:g'=g:=Option.some.inj hg
  subst this
  exact ⟨hb,(Array.getElem?_eq_some_iff.1 hh).1⟩
theorem Rep.lt {z:Nat→Option Nat} {S:TS} {v:World} (h:Rep z S v) {k b:Nat} (hk:blk S k=some b):b<v.heap.size:=by
 match k,hk with
 |0,hk=>cases hk;exact (Array.getElem?_eq_some_iff.1 h.wor).1
 |1,hk=>exact (own_lt h.chg b hk).2
 |2,hk=>exact (own_lt h.ths b hk).2
 |3,hk=>exact (own_lt h.own b hk).2
 |4,hk=>exact (own_lt h.sch b hk).2
 |k+5,hk =>
  simp only [blk,Option.map_eq_some_iff] at hk
  obtain ⟨t,ht,rfl⟩:=hk
  exact (Array.getElem?_eq_some_iff.1 (h.thr k t ht)).1
structure Ev (z:Nat→Option Nat) (S:TS) (v:World) (S':TS) (v':World):Prop where
 rep:Rep z S' v'
 fr:Fr (Its S) v v'
 new:∀ b,Its S' b→Its S b∨v.heap.size≤b
theorem Ev.refl {z:Nat→Option Nat} {S:TS} {v:World} (h:Rep z S v):Ev z S v S v:=⟨h,Fr.refl _ _,fun _ hb=>.inl hb⟩
theorem Ev.trans {z:Nat→Option Nat} {S S' S'':TS} {v v' v'':World} (h:Ev z S v S' v') (k:Ev z S' v' S'' v''):Ev z S v S'' v'':=by
 refine ⟨k.rep,?_,fun b hb=>?_⟩
 ·refine ⟨k.fr.os.trans h.fr.os,k.fr.output.trans h.fr.output,Nat.le_trans h.fr.size k.fr.size,fun x hx hs=>?_⟩
  rw [k.fr.block x (Nat.lt_of_lt_of_le hx h.fr.size) (fun hi=>(h.new x hi).elim hs (fun hle=>by omega)),h.fr.block x hx hs]
 ·rcases k.new b hb with h1|h1
  ·exact h.new b h1
  ·exact .inr (Nat.le_trans h.fr.size h1)
theorem own_stay {w w':World} {base:Nat} {e:TypeId} {size:Nat} {v:Value} {n:Nat} {xs:List Value} (hb:∀ g,v.ownBlock=some g→w'.heap[g]? = w.heap[g]?) (h:w.ownsRow base e size v n xs):w'.ownsRow base e size v n xs:=by
 refine ⟨h.1,?_⟩
 rcases h.2 with h2|⟨g,cap,cur,h1,h2,h3,h4⟩
 ·exact .inl h2
 ·exact .inr ⟨g,cap,cur,h1,h2,by rw [hb g (by rw [h1];rfl)];exact h3,h4⟩
theorem fz_off {z:Nat→Option Nat} {S:TS} {v:World} (h:Rep z S v) (o:Nat) (ho:o≠8):v.frozen? ⟨S.wb,o,none⟩=false:=by
 unfold World.frozen?
 rw [h.wor]
 unfold fz
 cases hz:z S.wb with
 |none=>simp
 |some n =>
  rcases h.kept _ _ hz with ⟨_,rfl⟩|⟨i,t,ht,e,_⟩
  ·simp only [Bool.and_eq_false_iff,decide_eq_false_iff_not]
   omega
  ·have:=h.apart 0 (i+5) S.wb rfl (by simp [blk,ht,e])
   omega
theorem fzT_off {z:Nat→Option Nat} {S:TS} {v:World} (h:Rep z S v) {i:Nat} {t:Thr} (ht:S.thr[i]? = some t) (o:Nat) (ho:o≠2):v.frozen? ⟨t.tb,o,none⟩=false:=by
 unfold World.frozen?
 rw [h.thr i t ht]
 unfold fz
 cases hz:z t.tb with
 |none=>simp
 |some n =>
  rcases h.kept _ _ hz with ⟨e,rfl⟩|⟨j,t',ht',e,rfl⟩
  ·have:=h.apart 0 (i+5) S.wb rfl (by simp [blk,ht,e])
   omega
  ·simp only [Bool.and_eq_false_iff,decide_eq_false_iff_not]
   omega
theorem note_rep {z:Nat→Option Nat} {S:TS} {v:World} (h:Rep z S v) {i:Nat} {t:Thr} (ht:S.thr[i]? = some t) (op ce ol ne:Int) (hn:(S.n+1)*40≤140737488355328) :
 Body Tryd.f128 #[Pt t.tb 0,I op,I ce,I ol,I ne] v (fun r v'=>r=.tuple #[]∧∃ tv',Ev z S v { S with tv:=tv',n:=S.n+1,tr:=S.tr++[I i,I ce,I op,I ol,I ne] } v'):=by
 have hrow:=h.thr i t ht
 have c0:v.cell? ⟨t.tb,0,none⟩=some (Pt S.wb 0):=by simp [World.cell?,hrow]
 have c1:v.cell? ⟨t.tb,1,none⟩=some (I i):=by simp [World.cell?,hrow]
 have c5:v.cell? ⟨S.wb,5,none⟩=some S.tv:=by simp [World.cell?,h.wor]
 have hb5:blk S (i+5)=some t.tb:=by simp [blk,ht]
 have n1:S.tv.ownBlock≠some S.wb:=fun e=>by have:=h.apart 3 0 S.wb e rfl;omega
 have n2:S.tv.ownBlock≠some t.tb:=fun e=>by have:=h.apart 3 (i+5) t.tb e hb5;omega
 intro c hc
 refine wp_mono (body38 t.tb S.wb i op ce ol ne S.tv S.n S.base S.tr v c0 c1 c5 (fz_off h 5 (by omega)) h.own n1 n2 hn h.bs c hc) ?_
 have key:∀ v',Noted S.wb S.tv S.n S.base S.tr [I i,I ce,I op,I ol,I ne] v v'→∃ tv',Ev z S v { S with tv:=tv',n:=S.n+1,tr:=S.tr++[I i,I ce,I op,I ol,I ne] } v':=by
  rintro v' ⟨g,cap,hw,hown,hat,hfr⟩
  have hst:∀ k b,blk S k=some b→k≠0→k≠3→v'.heap[b]? = v.heap[b]?:=fun k b hk h0 h3=>hfr.block b (h.lt hk) (fun hS=>by
   rcases hS with rfl|hS
   ·exact h0 (h.apart k 0 _ hk rfl)
   ·exact h3 (h.apart k 3 b hk hS.symm))
  have hnew:∀ k b,blk { S with tv:=.slice (some ⟨g,0,none⟩) (S.n+1) cap,n:=S.n+1,tr:=S.tr++[I i,I ce,I op,I ol,I ne] } k=some b→(blk S k=some b)∨(k=3∧b=g):=fun k b hk=>by
   match k,hk with
   |0,hk=>exact .inl hk
   |1,hk=>exact .inl hk
   |2,hk=>exact .inl hk
   |3,hk=>cases hk;exact .inr ⟨rfl,rfl⟩
   |4,hk=>exact .inl hk
   |k+5,hk=>exact .inl hk
  refine ⟨.slice (some ⟨g,0,none⟩) (S.n+1) cap,⟨?_,fun j t' ht'=>?_,hown,?_,?_,?_,Nat.le_trans h.bs hfr.size,fun j k b hj hk=>?_,h.kept⟩,hfr.mono (fun x _ hx=>?_),fun b ⟨k,hk⟩=>?_⟩
  ·have:=hw _ _ _ h.wor
   simpa using this
  ·rw [hst (j+5) t'.tb (by simp [blk,ht']) (by omega) (by omega)]
   exact h.thr j t' ht'
  ·exact own_stay (fun b hb=>hst 1 b hb (by omega) (by omega)) h.chg
  ·exact own_stay (fun b hb=>hst 2 b hb (by omega) (by omega)) h.ths
  ·exact own_stay (fun b hb=>hst 4 b hb (by omega) (by omega)) h.sch
  ·rcases hnew j b hj with e1|⟨rfl,rfl⟩<;>rcases hnew k b hk with e2|⟨rfl,e2⟩
   ·exact h.apart j k b e1 e2
   ·subst e2
    rcases hat with ha|ha
    ·exact h.apart j 3 b e1 ha
    ·have:=h.lt e1;omega
   ·rcases hat with ha|ha
    ·exact h.apart 3 k b ha e2
    ·have:=h.lt e2;omega
   ·rfl
  ·rcases hx with rfl|hx
   ·exact ⟨0,rfl⟩
   ·exact ⟨3,hx.symm⟩
  ·rcases hnew k b hk with e1|⟨_,rfl⟩
   ·exact .inl ⟨k,e1⟩
   ·rcases hat with ha|ha
    ·exact .inl ⟨3,ha⟩
    ·exact .inr ha
 intro e a w' hq
 cases e with
 |normal=>obtain ⟨q1,x,q2,y,q3,q4,q5⟩:=hq;exact ⟨q1,x,q2,y,q3,q4,key _ q5⟩
 |ret=>obtain ⟨q1,x,q2,y,q3,q4,q5⟩:=hq;exact ⟨q1,x,q2,y,q3,q4,key _ q5⟩
 |panic ch=>obtain ⟨q1,y,q3,q4,q5⟩:=hq;cases q3
 |outgrown=>obtain ⟨y,q3,q4,q5⟩:=hq;cases q3
 |_=>exact hq.elim
end Go.Proofs.YtfjjoohflcchnaaDoor
namespace Go.Lift
open Go.Conc
section
variable {P:Program} {wr:Bool} {L:FuncId→Prop}
theorem calm_read (t:Extern.Atomic.T) (a:Addr):calm P wr (Extern.Atomic.read t a):=by
 unfold Extern.Atomic.read
 refine calm_bind (calm_load _ _) fun v=>?_
 split<;>first|exact calm_pure _|exact calm_unsupported _|(split<;>first|exact calm_pure _|exact calm_unsupported _)
theorem calm_loadT (t:Extern.Atomic.T) (a:Value):calm P wr (Extern.Atomic.loadT t #[a]) :=
 calm_bind (calm_asAddr _) fun _=>calm_read _ _
theorem calm_swapT (h:wr=true) (t:Extern.Atomic.T) (a b:Value):calm P wr (Extern.Atomic.swapT t #[a,b]) :=
 calm_bind (calm_asAddr _) fun _=>calm_bind (calm_read _ _) fun _=>calm_bind (calm_store h _ _ _) fun _=>calm_pure _
theorem calm_any {β:Type} {f:Bool→Sem β} {g:Nat→Addr} (h1:calm P wr (f true)) (hd:dead P (f true)) (h0:calm P wr (f false)):∀ l:List Nat,calm P wr ((l.anyM fun i=>frozen (g i)) >>= f)
 | []=>h0
 |i :: l=>by
  show calm P wr (Sem.frozen (g i) fun b=>_)
  refine ⟨fun b=>?_,?_⟩
  ·cases b
   ·exact calm_any h1 hd h0 l
   ·exact h1
  ·exact hd
theorem calm_touches {β:Type} {f:Bool→Sem β} (a:Addr) (h1:calm P wr (f true)) (hd:dead P (f true)) (h0:calm P wr (f false)):calm P wr (Extern.Atomic.touchesFrozen a >>= f):=by
 unfold Extern.Atomic.touchesFrozen
 have hass:∀ {α γ:Type} (s:Sem α) (k:α→Sem γ) (f:γ→Sem β),(s.bind k).bind f=s.bind fun x=>(k x).bind f:=fun s k f=>by
  induction s with
  |pure a=>rfl
  |halt h=>rfl
  |store m a v k ih=>simp only [Sem.bind,ih]
  |freeze a n k ih=>simp only [Sem.bind,ih]
  |setObj r o k ih=>simp only [Sem.bind,ih]
  |mark m k ih=>simp only [Sem.bind,ih]
  |_=>rename_i ih;simp only [Sem.bind];congr;funext x;exact ih _
 show calm P wr (((viewAt a.block).bind _).bind f)
 rw [hass]
 refine calm_sbind (calm_viewAt _) fun o=>?_
 cases o with
 |none=>exact ⟨fun b=>by cases b;exact h0;exact h1,hd⟩
 |some p =>
  obtain ⟨at_,ar⟩:=p
  show calm P wr (((typeInfo ar).bind _).bind f)
  rw [hass]
  refine calm_sbind (calm_typeInfo _) fun i=>?_
  dsimp only
  split
  ·show calm P wr (((unsupported _).bind _).bind f)
   exact calm_unsupported _
  ·exact calm_any h1 hd h0 _
theorem calm_casT (h:wr=true) (k:IntKind) (a b c:Value):calm P wr (Extern.Atomic.casT (.int k) #[a,b,c]):=by
 refine calm_bind (calm_asAddr _) fun ad=>?_
 have tail:calm P wr (do
  let eq ←match Extern.Atomic.T.int k,←Extern.Atomic.read (.int k) ad,b with
   |_,.int _ x,.int _ y=>pure (x==y)
   |.ptr,.pointer x,.pointer y=>samePointer x y
   |.int _,.pointer (some _),.int _ 0|.int _,.int _ 0,.pointer (some _)=>pure false
   |.int _,.pointer (some _),_|.int _,_,.pointer (some _)=>unsupported .addressObserved
   | _, _, _ => stuck "atomic.CompareAndSwap: old is no T"
  if eq then store ad c .atomic
  pure (.bool eq):Sem Value):=by
  refine calm_bind (calm_read _ _) fun x=>?_
  have jp:∀ eq:Bool,calm P wr (if eq=true then do
   let r ←store ad c Mode.atomic
   pure (Value.bool eq)
   else pure (Value.bool eq):Sem Value):=fun eq=>by
   split
   ·exact calm_bind (calm_store h _ _ _) fun _=>calm_pure _
   ·exact calm_pure _
  dsimp only
  split<;>first|exact calm_bind (calm_pure _) fun _=>jp _|exact calm_bind (calm_unsupported _) fun _=>jp _|exact calm_bind (calm_stuck _) fun _=>jp _|(rename_i hh;cases hh)
 exact calm_touches ad (calm_unsupported _) trivial tail
def ExtOk (P:Program) (wr:Bool) (f:FuncId) (n:Nat):Prop :=
 ∃ fn e, P.funcs[f]? = some fn ∧ (fn.name == "runtime.NumGoroutine") = false ∧ fn.body = none ∧ Extern.findNext fn = none ∧ Extern.find fn = some e ∧ ∀ args : Array Value, args.size = n → calm P wr (e args)
theorem fine_extern {o:Oper} {f:FuncId} {args:Array Operand} {ats:Array TypeId} (ho:o.op=.call { callee:=.value (.func f),args:=args,argTypes:=ats }) (hx:ExtOk P wr f args.size):fineOp P wr L o:=fun a=>by
 obtain ⟨fn,en,hf,hn,hb,hnx,hfd,hcalm⟩:=hx
 have e:execOp a.eval o=callFunc f ((#[]++args.map a.eval)++#[]):=by
  unfold execOp
  rw [ho]
  rfl
 rw [e]
 have hc:=hcalm ((#[]++args.map a.eval)++#[]) (by simp)
 constructor
 ·simp only [callFunc,program,bind,Sem.bind,calm,hf,hn,hb,hnx,hfd,Option.isNone_none,if_true,mark,Bool.false_eq_true,if_false]
  exact ⟨.inr ⟨f,rfl⟩,calm_sbind hc fun _=>trivial⟩
 ·intro w x w' h
  simp only [callFunc,program,bind,Sem.bind,Sem.run,hf,hn,hb,hnx,hfd,Option.isNone_none,if_true,mark,Bool.false_eq_true,if_false] at h
  exact .inl (val_out h)
def askCall (fs:List FuncId) (xs:List (FuncId×Nat)):Op→Bool
 |.call { callee:=.value (.func f),args:=ar,.. }=>fs.contains f||xs.contains (f,ar.size)
 |_=>false
def askCode (P:Program) (wr:Bool) (fs:List FuncId) (xs:List (FuncId×Nat)):Code→Bool
 |.skip|.ret|.label _|.exit _=>true
 |.seq a b=>askCode P wr fs xs a&&askCode P wr fs xs b
 |.cond _ a b=>askCode P wr fs xs a&&askCode P wr fs xs b
 |.block _ c=>askCode P wr fs xs c
 |.loop c=>askCode P wr fs xs c
 |.region _ ops _=>ops.all fun o=>plainOp P wr o.op||askCall fs xs o.op
 |_=>false
theorem fineOp_ask {fs:List FuncId} {xs:List (FuncId×Nat)} (hfs:∀ f∈fs,Callable P L f) (hxs:∀ x∈xs,ExtOk P wr x.1 x.2) {o:Oper} (h:(plainOp P wr o.op||askCall fs xs o.op)=true):fineOp P wr L o:=by
 rcases Bool.or_eq_true_iff.1 h with h|h
 ·exact fine_plain h
 ·unfold askCall at h
  split at h
  ·rename_i f args ats e
   rcases Bool.or_eq_true_iff.1 h with h|h
   ·obtain ⟨hL,fn,h1,h2,h3⟩:=hfs f (by simpa using h)
    exact fine_call e h1 h2 h3 hL
   ·exact fine_extern e (hxs (f,args.size) (by simpa using h))
  ·cases h
theorem fineCode_ask {fs:List FuncId} {xs:List (FuncId×Nat)} (hfs:∀ f∈fs,Callable P L f) (hxs:∀ x∈xs,ExtOk P wr x.1 x.2):∀ {c:Code},askCode P wr fs xs c=true→fineCode P wr L c:=by
 intro c
 induction c with
 |seq a b iha ihb=>intro h;simp only [askCode,Bool.and_eq_true] at h;exact ⟨iha h.1,ihb h.2⟩
 |cond o a b iha ihb=>intro h;simp only [askCode,Bool.and_eq_true] at h;exact ⟨iha h.1,ihb h.2⟩
 |block id c ih=>intro h;exact ih h
 |loop c ih=>intro h;exact ih h
 |region id ops d =>
  intro h
  simp only [askCode,Array.all_eq_true_iff_forall_mem] at h
  exact fun o ho=>fineOp_ask hfs hxs (h o ho)
 |skip=>intro _;trivial
 |ret=>intro _;trivial
 |label l=>intro _;trivial
 |exit id=>intro _;trivial
 |_=>intro h;simp [askCode] at h
theorem fineFn_ask {fs:List FuncId} {xs:List (FuncId×Nat)} (hfs:∀ f∈fs,Callable P L f) (hxs:∀ x∈xs,ExtOk P wr x.1 x.2) {f:FuncId} {fn:Func} {c:Code} (hf:P.funcs[f]? = some fn) (hb:fn.body=some c) (h:askCode P wr fs xs c=true):fineFn P wr L f :=
 ⟨fn,c,hf,hb,fineCode_ask hfs hxs h,calm_results fn⟩
theorem args1 {p:Array Value→Prop} (h:∀ a,p #[a]) (args:Array Value) (hs:args.size=1):p args:=by
 obtain ⟨l⟩:=args
 match l,hs with
 | [a],_=>exact h a
theorem args2 {p:Array Value→Prop} (h:∀ a b,p #[a,b]) (args:Array Value) (hs:args.size=2):p args:=by
 obtain ⟨l⟩:=args
 match l,hs with
 | [a,b],_=>exact h a b
theorem args3 {p:Array Value→Prop} (h:∀ a b c,p #[a,b,c]) (args:Array Value) (hs:args.size=3):p args:=by
 obtain ⟨l⟩:=args
 match l,hs with
 | [a,b,c],_=>exact h a b c
end
end Go.Lift
namespace Go.Proofs.YtfjjoohflcchnaaDoor
open Go Go.Lift Go.Conc Go.RowKit
def plainFs:List FuncId:=[62,104,108,111,107,128,118,157,74,109,110,105,96,68,99]
def plainXs:List (FuncId×Nat):=[(129,2),(131,3),(130,1)]
def LT (f:FuncId):Prop:=f∈plainFs
theorem extT:∀ x∈plainXs,ExtOk Tryd.prog true x.1 x.2:=by
 intro x hx
 simp only [plainXs,List.mem_cons,List.not_mem_nil,or_false] at hx
 rcases hx with rfl|rfl|rfl
 ·exact ⟨Tryd.f129,Extern.Atomic.swapT (.int .i64),Tryd.func129,by kernel_rfl,by kernel_rfl,by kernel_rfl,by kernel_rfl,args2 fun a b=>calm_swapT rfl _ a b⟩
 ·exact ⟨Tryd.f131,Extern.Atomic.casT (.int .i64),Tryd.func131,by kernel_rfl,by kernel_rfl,by kernel_rfl,by kernel_rfl,args3 fun a b c=>calm_casT rfl _ a b c⟩
 ·exact ⟨Tryd.f130,Extern.Atomic.loadT (.int .i64),Tryd.func130,by kernel_rfl,by kernel_rfl,by kernel_rfl,by kernel_rfl,args1 fun a=>calm_loadT _ a⟩
theorem callT:∀ f∈plainFs,Callable Tryd.prog LT f:=by
 intro f hf
 have hf':=hf
 simp only [plainFs,List.mem_cons,List.not_mem_nil,or_false] at hf
 rcases hf with rfl|rfl|rfl|rfl|rfl|rfl|rfl|rfl|rfl|rfl|rfl|rfl|rfl|rfl|rfl
 ·exact ⟨hf',Tryd.f62,Tryd.func62,by kernel_rfl,by kernel_rfl⟩
 ·exact ⟨hf',Tryd.f104,Tryd.func104,by kernel_rfl,by kernel_rfl⟩
 ·exact ⟨hf',Tryd.f108,Tryd.func108,by kernel_rfl,by kernel_rfl⟩
 ·exact ⟨hf',Tryd.f111,Tryd.func111,by kernel_rfl,by kernel_rfl⟩
 ·exact ⟨hf',Tryd.f107,Tryd.func107,by kernel_rfl,by kernel_rfl⟩
 ·exact ⟨hf',Tryd.f128,Tryd.func128,by kernel_rfl,by kernel_rfl⟩
 ·exact ⟨hf',Tryd.f118,Tryd.func118,by kernel_rfl,by kernel_rfl⟩
 ·exact ⟨hf',Tryd.f157,Tryd.func157,by kernel_rfl,by kernel_rfl⟩
 ·exact ⟨hf',Tryd.f74,Tryd.func74,by kernel_rfl,by kernel_rfl⟩
 ·exact ⟨hf',Tryd.f109,Tryd.func109,by kernel_rfl,by kernel_rfl⟩
 ·exact ⟨hf',Tryd.f110,Tryd.func110,by kernel_rfl,by kernel_rfl⟩
 ·exact ⟨hf',Tryd.f105,Tryd.func105,by kernel_rfl,by kernel_rfl⟩
 ·exact ⟨hf',Tryd.f96,Tryd.func96,by kernel_rfl,by kernel_rfl⟩
 ·exact ⟨hf',Tryd.f68,Tryd.func68,by kernel_rfl,by kernel_rfl⟩
 ·exact ⟨hf',Tryd.f99,Tryd.func99,by kernel_rfl,by kernel_rfl⟩
theorem fineT:∀ f,LT f→fineFn Tryd.prog true LT f:=by
 intro f hf
 simp only [LT,plainFs,List.mem_cons,List.not_mem_nil,or_false] at hf
 rcases hf with rfl|rfl|rfl|rfl|rfl|rfl|rfl|rfl|rfl|rfl|rfl|rfl|rfl|rfl|rfl
 ·exact fineFn_ask callT extT Tryd.func62 (c:=Tryd.f62.body.getD .skip) (by rfl) (by kernel_rfl)
 ·exact fineFn_ask callT extT Tryd.func104 (c:=Tryd.f104.body.getD .skip) (by rfl) (by kernel_rfl)
 ·exact fineFn_ask callT extT Tryd.func108 (c:=Tryd.f108.body.getD .skip) (by rfl) (by kernel_rfl)
 ·exact fineFn_ask callT extT Tryd.func111 (c:=Tryd.f111.body.getD .skip) (by rfl) (by kernel_rfl)
 ·exact fineFn_ask callT extT Tryd.func107 (c:=Tryd.f107.body.getD .skip) (by rfl) (by kernel_rfl)
 ·exact fineFn_ask callT extT Tryd.func128 (c:=Tryd.f128.body.getD .skip) (by rfl) (by kernel_rfl)
 ·exact fineFn_ask callT extT Tryd.func118 (c:=Tryd.f118.body.getD .skip) (by rfl) (by kernel_rfl)
 ·exact fineFn_ask callT extT Tryd.func157 (c:=Tryd.f157.body.getD .skip) (by rfl) (by kernel_rfl)
 ·exact fineFn_ask callT extT Tryd.func74 (c:=Tryd.f74.body.getD .skip) (by rfl) (by kernel_rfl)
 ·exact fineFn_ask callT extT Tryd.func109 (c:=Tryd.f109.body.getD .skip) (by rfl) (by kernel_rfl)
 ·exact fineFn_ask callT extT Tryd.func110 (c:=Tryd.f110.body.getD .skip) (by rfl) (by kernel_rfl)
 ·exact fineFn_ask callT extT Tryd.func105 (c:=Tryd.f105.body.getD .skip) (by rfl) (by kernel_rfl)
 ·exact fineFn_ask callT extT Tryd.func96 (c:=Tryd.f96.body.getD .skip) (by rfl) (by kernel_rfl)
 ·exact fineFn_ask callT extT Tryd.func68 (c:=Tryd.f68.body.getD .skip) (by rfl) (by kernel_rfl)
 ·exact fineFn_ask callT extT Tryd.func99 (c:=Tryd.f99.body.getD .skip) (by rfl) (by kernel_rfl)
theorem run40 (cb o:Nat) (x:Int) (w:World) (h:w.cell? ⟨cb,o,none⟩=some (I x)):(callFunc 130 #[Pt cb o]).run Tryd.prog w=.ok (.value (I x)) w :=
 run_call_load Tryd.func130 (by kernel_rfl) (by kernel_rfl) (by kernel_rfl) .i64 (by kernel_rfl) h
theorem run36 (cb o:Nat) (x y:Int) (w:World) (h:w.cell? ⟨cb,o,none⟩=some (I x)) (hf:w.frozen? ⟨cb,o,none⟩=false):(callFunc 129 #[Pt cb o,I y]).run Tryd.prog w=.ok (.value (I x)) (w.setCell ⟨cb,o,none⟩ (I y)):=by
 rw [run_callFunc_extern Tryd.func129 (by kernel_rfl) (by kernel_rfl) (by kernel_rfl) (e:=Extern.Atomic.swapT (.int .i64)) (by kernel_rfl)]
 change (Sem.run Tryd.prog (do
  let a ←asAddr (Pt cb o)
  let old ←Extern.Atomic.read (.int .i64) a
  store a (I y) .atomic
  pure old) w).andThen _=_
 simp [Extern.Atomic.read,asAddr,h,hf,run_store Tryd.prog w ⟨cb,o,none⟩ (I y) .atomic rfl,Result.andThen]
theorem run39 (cb o:Nat) (x y:Int) (w:World) (h:w.cell? ⟨cb,o,none⟩=some (I x)) (hf:w.frozen? ⟨cb,o,none⟩=false):(callFunc 131 #[Pt cb o,I x,I y]).run Tryd.prog w=.ok (.value (.bool true)) (w.setCell ⟨cb,o,none⟩ (I y)) :=
 run_call_cas_hit Tryd.func131 (by kernel_rfl) (by kernel_rfl) (by kernel_rfl) .i64 (by kernel_rfl) h hf
theorem run39n (cb o:Nat) (x x' y:Int) (w:World) (h:w.cell? ⟨cb,o,none⟩=some (I x)) (hf:w.frozen? ⟨cb,o,none⟩=false) (hne:¬ x=x'):(callFunc 131 #[Pt cb o,I x',I y]).run Tryd.prog w=.ok (.value (.bool false)) w :=
 run_call_cas_miss Tryd.func131 (by kernel_rfl) (by kernel_rfl) (by kernel_rfl) .i64 (by kernel_rfl) h hf hne
theorem body29 (cb:Nat) (x:Int) (w:World) (h:w.cell? ⟨cb,1,none⟩=some (I x)):Body Tryd.f107 #[Pt cb 1] w (fun v w'=>v=I x∧w'=w):=by
 intro code hb
 obtain rfl:=Option.some.inj hb
 clear hb
 simp only [Tryd.ntmps107,List.size_toArray,List.length_cons,List.length_nil,Nat.reduceAdd,Nat.reduceSub,Array.replicate_succ,Array.replicate_zero,List.push_toArray,List.append_toArray,List.nil_append,List.cons_append]
 have hq:=run40 cb 1 x w h
 go_wp2
 go_ret
 exact ⟨_,rfl,rfl,rfl⟩
theorem body25 (cb:Nat) (x y:Int) (w:World) (h:w.cell? ⟨cb,1,none⟩=some (I x)) (hf:w.frozen? ⟨cb,1,none⟩=false):Body Tryd.f104 #[Pt cb 1,I y] w (fun v w'=>v=I x∧w'=w.setCell ⟨cb,1,none⟩ (I y)):=by
 intro code hb
 obtain rfl:=Option.some.inj hb
 clear hb
 simp only [Tryd.ntmps104,List.size_toArray,List.length_cons,List.length_nil,Nat.reduceAdd,Nat.reduceSub,Array.replicate_succ,Array.replicate_zero,List.push_toArray,List.append_toArray,List.nil_append,List.cons_append]
 have hq:=run36 cb 1 x y w h hf
 go_wp2
 go_ret
 exact ⟨_,rfl,rfl,rfl⟩
theorem body28 (cb:Nat) (x y:Int) (w:World) (h:w.cell? ⟨cb,1,none⟩=some (I x)) (hf:w.frozen? ⟨cb,1,none⟩=false):Body Tryd.f111 #[Pt cb 1,I x,I y] w (fun v w'=>v=.bool true∧w'=w.setCell ⟨cb,1,none⟩ (I y)):=by
 intro code hb
 obtain rfl:=Option.some.inj hb
 clear hb
 simp only [Tryd.ntmps111,List.size_toArray,List.length_cons,List.length_nil,Nat.reduceAdd,Nat.reduceSub,Array.replicate_succ,Array.replicate_zero,List.push_toArray,List.append_toArray,List.nil_append,List.cons_append]
 have hq:=run39 cb 1 x y w h hf
 go_wp2
 go_ret
 exact ⟨_,rfl,rfl,rfl⟩
theorem body28n (cb:Nat) (x x' y:Int) (w:World) (h:w.cell? ⟨cb,1,none⟩=some (I x)) (hf:w.frozen? ⟨cb,1,none⟩=false) (hne:¬ x=x'):Body Tryd.f111 #[Pt cb 1,I x',I y] w (fun v w'=>v=.bool false∧w'=w):=by
 intro code hb
 obtain rfl:=Option.some.inj hb
 clear hb
 simp only [Tryd.ntmps111,List.size_toArray,List.length_cons,List.length_nil,Nat.reduceAdd,Nat.reduceSub,Array.replicate_succ,Array.replicate_zero,List.push_toArray,List.append_toArray,List.nil_append,List.cons_append]
 have hq:=run39n cb 1 x x' y w h hf hne
 go_wp2
 go_ret
 exact ⟨_,rfl,rfl,rfl⟩
theorem Rep.same {z:Nat→Option Nat} {S:TS} {v v':World} (h:Rep z S v) (e:v'.heap=v.heap):Rep z S v' :=
 ⟨by rw [e];exact h.wor,fun i t ht=>by rw [e];exact h.thr i t ht,own_stay (fun _ _=>by rw [e]) h.own,own_stay (fun _ _=>by rw [e]) h.chg,own_stay (fun _ _=>by rw [e]) h.ths,own_stay (fun _ _=>by rw [e]) h.sch,by rw [e];exact h.bs,h.apart,h.kept⟩
theorem Rep.cell {z:Nat→Option Nat} {S:TS} {v:World} (h:Rep z S v) {i:Nat} {t:Thr} (ht:S.thr[i]? = some t):v.cell? ⟨t.tb,0,none⟩=some (Pt S.wb 0)∧v.cell? ⟨t.tb,1,none⟩=some (I i)∧v.cell? ⟨t.tb,2,none⟩=some (.chan (some t.gc))∧v.cell? ⟨t.tb,3,none⟩=some (I t.st)∧v.cell? ⟨t.tb,4,none⟩=some (I t.ce)∧v.cell? ⟨t.tb,5,none⟩=some (I t.op)∧v.cell? ⟨t.tb,6,none⟩=some (I t.se):=by
 have:=h.thr i t ht
 simp [World.cell?,this]
theorem Rep.wcell {z:Nat→Option Nat} {S:TS} {v:World} (h:Rep z S v):v.cell? ⟨S.wb,0,none⟩=some S.sc∧v.cell? ⟨S.wb,1,none⟩=some (I S.us)∧v.cell? ⟨S.wb,2,none⟩=some (I S.la)∧v.cell? ⟨S.wb,3,none⟩=some S.cv∧v.cell? ⟨S.wb,4,none⟩=some S.ths∧v.cell? ⟨S.wb,5,none⟩=some S.tv∧v.cell? ⟨S.wb,6,none⟩=some (.bool S.stk)∧v.cell? ⟨S.wb,7,none⟩=some (.bool S.ran)∧v.cell? ⟨S.wb,8,none⟩=some (.chan (some S.bk)):=by
 have:=h.wor
 simp [World.cell?,this]
def noted (S:TS) (tv:Value) (i:Nat) (op ce ol ne:Int):TS:={ S with tv:=tv,n:=S.n+1,tr:=S.tr++[I i,I ce,I op,I ol,I ne] }
def counted (S:TS) (c:Nat):TS:={ S with chg:=S.chg.modify c (fun x=>wrap64 (x+1)) }
def didS (S:TS) (tv:Value) (i:Nat) (t:Thr) (b a:Int):TS :=
 if b≠a∧0≤t.ce∧t.ce<S.chg.length then counted (noted S tv i t.op t.ce b a) t.ce.toNat else noted S tv i t.op t.ce b a
theorem Ev.same {z:Nat→Option Nat} {S S':TS} {v u v':World} (h:Ev z S v S' u) (e1:v'.heap=u.heap) (e2:v'.os=u.os) (e4:v'.output=u.output):Ev z S v S' v' :=
 ⟨h.rep.same e1,⟨e2.trans h.fr.os,e4.trans h.fr.output,by rw [e1];exact h.fr.size,fun b hb hs=>by rw [e1];exact h.fr.block b hb hs⟩,h.new⟩
theorem Ev.base {z:Nat→Option Nat} {S S':TS} {v u v':World} (h:Ev z S u S' v') (e1:u.heap=v.heap) (e2:u.os=v.os) (e4:u.output=v.output):Ev z S v S' v' :=
 ⟨h.rep,⟨h.fr.os.trans e2,h.fr.output.trans e4,by rw [←e1];exact h.fr.size,fun b hb hs=>by rw [←e1];exact h.fr.block b (by rw [e1];exact hb) hs⟩,fun b hb=>by rw [←e1];exact h.new b hb⟩
theorem own_form {w:World} {base:Nat} {e:TypeId} {size:Nat} {v:Value} {n:Nat} {xs:List Value} (h:w.ownsRow base e size v n xs):∃ p cap,v=.slice p n cap:=by
 rcases h.2 with ⟨rfl,rfl⟩|⟨g,cap,cur,rfl,_⟩
 ·exact ⟨none,0,rfl⟩
 ·exact ⟨_,cap,rfl⟩
theorem ints_cell {w:World} {base:Nat} {v:Value} {l:List Int} (h:w.ownsRow base 3 1 v l.length (l.map I)) {c:Nat} {x:Int} (hx:l[c]? = some x):∃ g cap,v=.slice (some ⟨g,0,none⟩) l.length cap∧w.cell? ⟨g,c,none⟩=some (I x)∧w.frozen? ⟨g,c,none⟩=false:=by
 have hc:c<l.length:=(List.getElem?_eq_some_iff.1 hx).1
 rcases h.2 with ⟨rfl,h0⟩|⟨g,cap,cur,rfl,hb,hh,hle,_,hsz,htake⟩
 ·omega
 ·refine ⟨g,cap,rfl,?_,by simp [World.frozen?,hh]⟩
  have e:(l.map I)[c]? = some (I x):=by simp [hx]
  rw [←htake,Nat.mul_one,List.getElem?_take_of_lt hc] at e
  simp only [World.cell?,hh,Option.isSome_none,Bool.false_eq_true,if_false]
  simpa using e
theorem ints_set {w:World} {base:Nat} {l:List Int} {g cap c:Nat} (h:w.ownsRow base 3 1 (.slice (some ⟨g,0,none⟩) l.length cap) l.length (l.map I)) (hc:c<l.length) (f:Int→Int) {x:Int} (hx:l[c]? = some x) :
 (w.setCell ⟨g,c,none⟩ (I (f x))).ownsRow base 3 1 (.slice (some ⟨g,0,none⟩) l.length cap) l.length ((l.modify c f).map I):=by
 rcases h.2 with ⟨h1,_⟩|⟨g',cap',cur,h1,hb,hh,hle,hm,hsz,htake⟩
 ·cases h1
 ·cases h1
  have e:(l.modify c f)=l.set c (f x):=by
   apply List.ext_getElem?
   intro j
   rw [List.getElem?_modify,List.getElem?_set]
   by_cases e:c=j
   ·subst e
    have:l[c]=x:=by rw [List.getElem?_eq_getElem hc] at hx;exact Option.some.inj hx
    simp [hc,this]
   ·simp [e]
  refine ⟨?_,.inr ⟨g,cap,cur.setIfInBounds c (I (f x)),rfl,hb,heap_setCell_same hh _,hle,hm,by simpa using hsz,?_⟩⟩
  ·simp
  ·rw [e]
   rw [Array.toList_setIfInBounds,List.take_set,htake,List.map_set]
theorem count_rep {z:Nat→Option Nat} {S:TS} {v:World} (h:Rep z S v) {g cap c:Nat} {x:Int} (hcv:S.cv=.slice (some ⟨g,0,none⟩) S.chg.length cap) (hx:S.chg[c]? = some x):Ev z S v (counted S c) (v.setCell ⟨g,c,none⟩ (I (wrap64 (x+1)))):=by
 have hc:c<S.chg.length:=(List.getElem?_eq_some_iff.1 hx).1
 have hg:blk S 1=some g:=by show S.cv.ownBlock=_;rw [hcv];rfl
 have hst:∀ k b,blk S k=some b→k≠1→(v.setCell ⟨g,c,none⟩ (I (wrap64 (x+1)))).heap[b]? = v.heap[b]?:=fun k b hk h1=>Below.heap_setCell _ _ _ _ (fun e=>h1 (by subst e;exact h.apart k 1 _ hk hg))
 refine ⟨⟨?_,fun j t ht=>?_,?_,?_,?_,?_,?_,h.apart,h.kept⟩,⟨rfl,rfl,by simp [World.setCell],fun b _ hs=>Below.heap_setCell _ _ _ _ (fun e=>hs ⟨1,by rw [e];exact hg⟩)⟩,fun b hb=>.inl hb⟩
 ·show (v.setCell _ _).heap[S.wb]? = _
  rw [hst 0 S.wb rfl (by omega)]
  exact h.wor
 ·rw [hst (j+5) t.tb (by simp only [blk];rw [show S.thr[j]? = some t from ht];rfl) (by omega)]
  exact h.thr j t ht
 ·exact own_stay (fun b hb=>hst 3 b hb (by omega)) h.own
 ·show (v.setCell _ _).ownsRow S.base 3 1 S.cv (S.chg.modify c _).length ((S.chg.modify c _).map I)
  rw [List.length_modify,hcv]
  exact ints_set (by rw [←hcv];exact h.chg) hc (fun x=>wrap64 (x+1)) hx
 ·exact own_stay (fun b hb=>hst 2 b hb (by omega)) h.ths
 ·exact own_stay (fun b hb=>hst 4 b hb (by omega)) h.sch
 ·show S.base≤_
  simpa [World.setCell] using h.bs
theorem body27 {z:Nat→Option Nat} {S:TS} {v:World} (h:Rep z S v) {i:Nat} {t:Thr} (ht:S.thr[i]? = some t) (b a:Int) (hn:(S.n+1)*40≤140737488355328) :
 Body Tryd.f108 #[Pt t.tb 0,I b,I a] v (fun r v'=>r=.tuple #[]∧∃ tv',Ev z S v (didS S tv' i t b a) v'):=by
 intro code hb
 obtain rfl:=Option.some.inj hb
 clear hb
 simp only [Tryd.ntmps108,List.size_toArray,List.length_cons,List.length_nil,Nat.reduceAdd,Nat.reduceSub,Array.replicate_succ,Array.replicate_zero,List.push_toArray,List.append_toArray,List.nil_append,List.cons_append]
 obtain ⟨c0,_,_,_,c4,c5,_⟩:=h.cell ht
 have HR:Hid (Rep z S v):=⟨h⟩
 clear h
 go_wp2_with fail
 go_region_held3 (fun u=>u.cell? ⟨t.tb,4,none⟩=some (I t.ce)∧u.cell? ⟨t.tb,5,none⟩=some (I t.op))
  (first|(exact ⟨(Rep.cell (Ev.rep hev) (i:=i) (t:=t) ht).2.2.2.2.1,(Rep.cell (Ev.rep hev) (i:=i) (t:=t) ht).2.2.2.2.2.1⟩)|(simp [go_sem, *];done))
  (first
    |(go_at_call 128;refine ((note_rep (HR.out.same (v':=v.drew) rfl) ht t.op t.ce b a hn).calls Tryd.func128 rfl).mono ?_;rintro e w5 ⟨_,rfl,rfl,tv',hev⟩))
 have HE:Hid (Ev z S v (noted S tv' i t.op t.ce b a) w5):=⟨hev.base rfl rfl rfl⟩
 clear hev HR c0 c4 c5
 rename_i hH
 obtain ⟨k4,_⟩:=hH
 have k0:w5.cell? ⟨t.tb,0,none⟩=some (Pt S.wb 0):=(HE.out.rep.cell (i:=i) (t:=t) ht).1
 have k3:w5.cell? ⟨S.wb,3,none⟩=some S.cv:=HE.out.rep.wcell.2.2.2.1
 have HN:Hid (¬ (b≠a∧0≤t.ce∧t.ce<S.chg.length)→∀ nq,Ev z S v (didS S tv' i t b a) (w5.drewN nq)):=⟨fun hn nq=>by
  unfold didS;rw [if_neg hn];exact HE.out.same rfl rfl rfl⟩
 obtain ⟨p,cap,hcv⟩:=own_form HE.out.rep.chg
 have hcv':S.cv=.slice p S.chg.length cap:=hcv
 rw [hcv'] at k3
 clear hcv
 by_cases hba:b=a
 ·have g1:(b != a)=false:=by simp [hba]
  have HB:Hid (b=a):=⟨hba⟩
  clear hba
  go_wp2_with fail
  go_quiet (fail)
  go_wp2
  exact ⟨rfl,_,results_none rfl _ _ _,_,rfl,rfl,tv',HN.out (fun h=>h.1 HB.out) _⟩
 ·have g1:(b != a)=true:=by simp [hba]
  by_cases hce:t.ce<0
  ·have g2:(decide (0≤t.ce))=false:=by simp;omega
   have HB:Hid (t.ce<0):=⟨hce⟩
   clear hba hce
   go_wp2_with fail
   go_quiet (fail)
   go_wp2
   exact ⟨rfl,_,results_none rfl _ _ _,_,rfl,rfl,tv',HN.out (fun h=>by have:=HB.out;omega) _⟩
  ·have g2:(0:Int)≤t.ce:=by omega
   by_cases hlt:t.ce<S.chg.length
   ·obtain ⟨c,hcc⟩:∃ c:Nat,t.ce=(c:Int):=⟨t.ce.toNat,by omega⟩
    have hcl:c<S.chg.length:=by omega
    obtain ⟨g,cap',e1,e2,e3⟩:=ints_cell HE.out.rep.chg (List.getElem?_eq_getElem (show c<(noted S tv' i t.op t.ce b a).chg.length from hcl))
    have e1':S.cv=.slice (some ⟨g,0,none⟩) S.chg.length cap':=e1
    rw [hcv'] at e1'
    cases e1'
    have HC:Hid (t.ce=(c:Int)):=⟨hcc⟩
    have HB:Hid (b≠a∧0≤t.ce∧t.ce<S.chg.length):=⟨⟨hba,g2,hlt⟩⟩
    have e2':w5.cell? ⟨g,c,none⟩=some (I (S.chg[c])):=e2
    generalize hx:S.chg[c]=x at e2'
    have HX:Hid (S.chg[c]? = some x):=⟨by rw [←hx];exact List.getElem?_eq_getElem hcl⟩
    rw [hcc] at k4
    have g4:(0:Int)≤(c:Int):=by omega
    have g5:(c:Int)<(S.chg.length:Int):=by omega
    clear hba hce hlt e1 e2 hx g2 hcc
    go_wp2_with fail
    go_quiet (fail)
    go_wp2_with fail
    have HS:Hid (∀ W:World,W.heap=w5.heap→W.os=w5.os→W.output=w5.output→Ev z S v (didS S tv' i t b a) (W.setCell ⟨g,c,none⟩ (I (wrap64 (x+1))))):=⟨fun W q1 q2 q4=>by
     unfold didS
     rw [if_pos HB.out,show t.ce.toNat=c by rw [HC.out];simp]
     exact (HE.out.same q1 q2 q4).trans (count_rep (HE.out.rep.same q1) hcv' HX.out)⟩
    go_region
    all_goals exact ⟨rfl,_,results_none rfl _ _ _,_,rfl,rfl,tv',HS.out _ rfl rfl rfl⟩
   ·have g3:(decide (t.ce<(S.chg.length:Int)))=false:=by simpa using hlt
    have HB:Hid (¬ t.ce<S.chg.length):=⟨hlt⟩
    clear hba hce hlt
    go_wp2_with fail
    go_quiet (fail)
    go_wp2
    exact ⟨rfl,_,results_none rfl _ _ _,_,rfl,rfl,tv',HN.out (fun h=>by have:=HB.out;omega) _⟩
end Go.Proofs.YtfjjoohflcchnaaDoor
