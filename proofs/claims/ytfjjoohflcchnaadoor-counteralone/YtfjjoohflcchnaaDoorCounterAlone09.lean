/- Of the proof of CounterAlone. Part 9 of 21. (Joined, by program, and written short, of: Cell24, Check, Carry2, Carry3, Carry4, Body33, MainN.) -/
import Derived.Test.YtfjjoohflcchnaaDoorCounterAlone06
import Derived.Test.YtfjjoohflcchnaaDoorCounterAlone07
import Derived.Test.YtfjjoohflcchnaaDoorCounterAlone08
set_option linter.unusedSimpArgs false
set_option linter.unusedVariables false
set_option maxHeartbeats 4000000
set_option maxRecDepth 100000
namespace Go.Proofs.YtfjjoohflcchnaaDoor
open Go Go.Lift Go.Conc Go.RowKit
def Celled (wb:Nat) (tv:Value) (n base:Nat) (xs:List Value) (x:Value) (w w':World):Prop :=
 ∃ g cap,(∀ c t f,w.heap[wb]? = some (.cells c t f)→w'.heap[wb]? = some (.cells (c.setIfInBounds 3 (.slice (some ⟨g,0,none⟩) (n+1) cap)) t f)) ∧
   w'.ownsRow base 3 1 (.slice (some ⟨g,0,none⟩) (n+1) cap) (n+1) (xs++[x])∧(tv.ownBlock=some g∨w.heap.size≤g)∧Fr (fun b=>b=wb∨some b=tv.ownBlock) w w'
theorem celled_of {wb:Nat} {tv x:Value} {n base:Nat} {xs:List Value} {w u w6:World} {g cap:Nat} (hb:Below w.heap.size w u) (hw:wb<w.heap.size) (hg:u.grownBy w6 tv.ownBlock) (hown:w6.ownsRow base 3 1 (.slice (some ⟨g,0,none⟩) (n+1) cap) (n+1) (xs++[x]))
 (hat:tv.ownBlock=some g∨g=u.heap.size) (hne:tv.ownBlock≠some wb):Celled wb tv n base xs x w (w6.setCell ⟨wb,3,none⟩ (.slice (some ⟨g,0,none⟩) (n+1) cap)):=by
 have hgw:g≠wb:=by
  rcases hat with h|h
  ·exact fun e=>hne (by rw [h,e])
  ·have:=hb.size;omega
 have e6:w6.heap[wb]? = w.heap[wb]?:=(hg.block wb (Nat.lt_of_lt_of_le hw hb.size) (Ne.symm hne)).trans (hb.block wb hw)
 refine ⟨g,cap,fun c t f h=>heap_setCell_same (by rw [e6];exact h) _,own_set hown _ _ (fun e=>hgw (Option.some.inj e)),?_,?_⟩
 ·rcases hat with h|h
  ·exact .inl h
  ·exact .inr (by have:=hb.size;omega)
 ·refine ⟨by show w6.os=_;rw [hg.os,hb.os],by show w6.output=_;rw [hg.output,hb.output],?_,fun b hlt hs=>?_⟩
  ·have:=hb.size
   have:=hg.size
   simp only [World.setCell,Array.size_modify]
   omega
  ·rw [Below.heap_setCell _ _ _ _ (fun e=>hs (.inl e)),hg.block b (Nat.lt_of_lt_of_le hlt hb.size) (fun e=>hs (.inr e)),hb.block b hlt]
def celledS (S:TS) (cv:Value):TS:={ S with cv:=cv,chg:=S.chg++[0] }
theorem celled_ev {z:Nat→Option Nat} {S:TS} {v v':World} (h:Rep z S v) (hN:Celled S.wb S.cv S.chg.length S.base (S.chg.map I) (I 0) v v'):∃ cv',Ev z S v (celledS S cv') v':=by
 obtain ⟨g,cap,hw,hown,hat,hfr⟩:=hN
 have hst:∀ k b,blk S k=some b→k≠0→k≠1→v'.heap[b]? = v.heap[b]?:=fun k b hk h0 h3=>hfr.block b (h.lt hk) (fun hS=>by
  rcases hS with rfl|hS
  ·exact h0 (h.apart k 0 _ hk rfl)
  ·exact h3 (h.apart k 1 b hk hS.symm))
 have hnew:∀ k b,blk (celledS S (.slice (some ⟨g,0,none⟩) (S.chg.length+1) cap)) k=some b→(blk S k=some b)∨(k=1∧b=g):=fun k b hk=>by
  match k,hk with
  |0,hk=>exact .inl hk
  |1,hk=>cases hk;exact .inr ⟨rfl,rfl⟩
  |2,hk=>exact .inl hk
  |3,hk=>exact .inl hk
  |4,hk=>exact .inl hk
  |k+5,hk=>exact .inl hk
 refine ⟨.slice (some ⟨g,0,none⟩) (S.chg.length+1) cap,⟨?_,fun j t' ht'=>?_,own_stay (fun b hb=>hst 3 b hb (by omega) (by omega)) h.own,?_,own_stay (fun b hb=>hst 2 b hb (by omega) (by omega)) h.ths,own_stay (fun b hb=>hst 4 b hb (by omega) (by omega)) h.sch,Nat.le_trans h.bs hfr.size,fun j k b hj hk=>?_,h.kept⟩,hfr.mono (fun x _ hx=>?_),fun b ⟨k,hk⟩=>?_⟩
 ·have:=hw _ _ _ h.wor
  simpa [celledS] using this
 ·rw [hst (j+5) t'.tb (by simp only [blk];rw [show S.thr[j]? = some t' from ht'];rfl) (by omega) (by omega)]
  exact h.thr j t' ht'
 ·show v'.ownsRow S.base 3 1 _ (S.chg++[0]).length ((S.chg++[0]).map I)
  rw [List.length_append,List.map_append]
  exact hown
 ·rcases hnew j b hj with e1|⟨rfl,rfl⟩<;>rcases hnew k b hk with e2|⟨rfl,e2⟩
  ·exact h.apart j k b e1 e2
  ·subst e2
   rcases hat with ha|ha
   ·exact h.apart j 1 b e1 ha
   ·have:=h.lt e1;omega
  ·rcases hat with ha|ha
   ·exact h.apart 1 k b ha e2
   ·have:=h.lt e2;omega
  ·rfl
 ·rcases hx with rfl|hx
  ·exact ⟨0,rfl⟩
  ·exact ⟨1,hx.symm⟩
 ·rcases hnew k b hk with e1|⟨_,rfl⟩
  ·exact .inl ⟨k,e1⟩
  ·rcases hat with ha|ha
   ·exact .inl ⟨1,ha⟩
   ·exact .inr ha
theorem info3:(Tryd.prog.info? 3).map (fun i=>(i.zero,i.size,i.bytes))=some (some (I 0),1,8):=by kernel_rfl
theorem newsI (w:World) (x:Int) (t:TypeId):∀ j u,[I x][j]? = some u→(w.alloc (.cells #[I x] t)).cell? ((⟨w.heap.size,0,none⟩:Addr).add j)=some u:=by
 intro j u hj
 have hb:(w.alloc (.cells #[I x] t)).heap[w.heap.size]? = some (.cells #[I x] t):=Array.getElem?_push_size
 exact World.news_of_block hb j u hj
theorem oneI (x:Int):∀ u∈[I x],u.oneCell'=true:=by
 intro u hu
 simp at hu
 subst hu
 rfl
theorem body24 {z:Nat→Option Nat} {S:TS} {v:World} (h:Rep z S v) (hn:S.chg.length≤17592186043904):Body Tryd.f103 #[Pt S.wb 0] v (fun r v'=>r=I S.chg.length∧∃ cv,Ev z S v (celledS S cv) v'):=by
 intro code hb
 obtain rfl:=Option.some.inj hb
 clear hb
 have c3:=h.wcell.2.2.2.1
 have f3:=fz_off h 3 (by omega)
 have HR:Hid (Rep z S v):=⟨h⟩
 have q3:S.wb<v.heap.size:=World.block_lt_of_cell? _ _ c3
 have qb:S.base≤v.heap.size:=h.bs
 obtain ⟨tp,tc,htv⟩:=own_form h.chg
 have HO:Hid (v.ownsRow S.base 3 1 (.slice tp S.chg.length tc) S.chg.length (S.chg.map I)):=⟨by rw [←htv];exact h.chg⟩
 have n1:(Value.slice tp S.chg.length tc).ownBlock≠some S.wb:=by
  rw [←htv]
  exact fun e=>by have:=h.apart 1 0 S.wb e rfl;omega
 have HT:Hid (S.cv=.slice tp S.chg.length tc):=⟨htv⟩
 rw [htv] at c3
 obtain ⟨j0,hj,hj0,hj1,hj2⟩:=info_parts info3
 have hne:S.wb≠v.heap.size:=by omega
 have hne':v.heap.size≠S.wb:=by omega
 have K3:Hid (v.cell? ⟨S.wb,3,none⟩=some (.slice tp S.chg.length tc)∧v.frozen? ⟨S.wb,3,none⟩=false):=⟨⟨c3,f3⟩⟩
 clear h htv
 simp only [Tryd.ntmps103,List.size_toArray,List.length_cons,List.length_nil,Nat.reduceAdd,Nat.reduceSub,Array.replicate_succ,Array.replicate_zero,List.push_toArray,List.append_toArray,List.nil_append,List.cons_append]
 go_wp2_with (first
  |(refine wpList_append_lies _ rfl (.tmp 9) (.tmp 10) 22 rfl S.base 3 j0 _ 1 8 Tryd.underlying22 hj hj0 hj1 hj2 rfl (by decide) (.slice tp S.chg.length tc) S.chg.length (S.chg.map I) rfl (own_later (below_alloc (Below.refl _ _) _) HO.out) ⟨_,0,none⟩ 1 1 [I 0] rfl rfl (newsI _ _ _) (oneI _) (by decide) (by unfold maxLen;omega) (by omega) (by simp;omega) _ rfl ?_
    intro g cpg w6 hown6 hgrow6 hat6 hlt6
    obtain ⟨k5,k6⟩:=keep2g ⟨kcell (below_alloc (Below.refl _ _) _) K3.out.1,by rw [(below_alloc (Below.refl _ _) _).frozen q3];exact K3.out.2⟩ hgrow6 n1))
 go_ret
 exact ⟨_,rfl,rfl,celled_ev HR.out (by rw [HT.out];exact celled_of (below_alloc (Below.refl _ _) _) q3 hgrow6 hown6 hat6 n1)⟩
theorem mem_newcell {z:Nat→Option Nat} {S:TS} {K:List (Nat×Int)} {v v1 v3:World} {cv:Value} {x:Int} (hm:Mem z S K v) (he:Ev z S v (celledS S cv) v1) (hh:v3.heap=v1.heap.push (.cells #[I S.chg.length,I x] 158)) (ho:v3.os=v1.os) (hu:v3.output=v1.output) :
 Mem z (celledS S cv) (K++[(v1.heap.size,x)]) v3∧Fr (Own S K) v v3∧∀ b,Own (celledS S cv) (K++[(v1.heap.size,x)]) b→Own S K b∨v.heap.size≤b:=by
 have hold:∀ b,b<v1.heap.size→v3.heap[b]? = v1.heap[b]?:=fun b hb=>by rw [hh,Array.getElem?_push,if_neg (by omega)]
 have hs3:v3.heap.size=v1.heap.size+1:=by rw [hh];simp
 have hrep:Rep z (celledS S cv) v3:=he.rep.grows (by omega) hold
 have hKl:K.length=S.chg.length:=hm.len.symm
 have hget:∀ (j:Nat) (c:Nat×Int),(K++[(v1.heap.size,x)])[j]? = some c→(j<K.length∧K[j]? = some c)∨(j=K.length∧c=(v1.heap.size,x)):=fun j c hj=>by
  rcases Nat.lt_trichotomy j K.length with h1|h1|h1
  ·rw [List.getElem?_append_left h1] at hj;exact .inl ⟨h1,hj⟩
  ·subst h1
   rw [List.getElem?_append_right (Nat.le_refl _)] at hj
   simp at hj
   exact .inr ⟨rfl,hj.symm⟩
  ·rw [List.getElem?_append_right (by omega)] at hj
   have:j - K.length≠0:=by omega
   simp [this] at hj
 have hKlt:∀ (j:Nat) (c:Nat×Int),K[j]? = some c→c.1<v.heap.size:=fun j c hc=>hm.lt (.inr ⟨j,c,hc,rfl⟩)
 have hits:∀ b,Its (celledS S cv) b→b<v1.heap.size:=fun b ⟨k,hk⟩=>he.rep.lt hk
 refine ⟨⟨hrep,fun j c hj=>?_,fun j c hj hi=>?_,fun i j c d hi hj e=>?_,?_⟩,⟨ho.trans he.fr.os,hu.trans he.fr.output,by have:=he.fr.size;omega,fun b hb hs=>?_⟩,fun b hb=>?_⟩
 ·rcases hget j c hj with ⟨h1,h2⟩|⟨rfl,rfl⟩
  ·have hlt:=hKlt j c h2
   rw [hold c.1 (by have:=he.fr.size;omega),he.fr.block c.1 hlt (hm.far j c h2)]
   exact hm.cel j c h2
  ·show v3.heap[v1.heap.size]? = _
   rw [hh,hKl]
   exact Array.getElem?_push_size
 ·rcases hget j c hj with ⟨h1,h2⟩|⟨rfl,rfl⟩
  ·rcases he.new _ hi with h3|h3
   ·exact hm.far j c h2 h3
   ·have:=hKlt j c h2;omega
  ·have h9:=hits _ hi
   exact Nat.lt_irrefl _ h9
 ·rcases hget i c hi with ⟨h1,h2⟩|⟨rfl,rfl⟩<;>rcases hget j d hj with ⟨h3,h4⟩|⟨rfl,rfl⟩
  ·exact hm.inj i j c d h2 h4 e
  ·have:=hKlt i c h2
   have:=he.fr.size
   have e':c.1=v1.heap.size:=e
   omega
  ·have:=hKlt j d h4
   have:=he.fr.size
   have e':v1.heap.size=d.1:=e
   omega
  ·rfl
 ·show (S.chg++[0]).length=(K++[_]).length
  simp [hKl]
 ·rw [hold b (by have:=he.fr.size;omega),he.fr.block b hb (fun hi=>hs (.inl hi))]
 ·rcases hb with hb|⟨j,c,hj,rfl⟩
  ·exact (he.new b hb).imp .inl id
  ·rcases hget j c hj with ⟨h1,h2⟩|⟨rfl,rfl⟩
   ·exact .inl (.inr ⟨j,c,h2,rfl⟩)
   ·right;exact he.fr.size
theorem body10 {z:Nat→Option Nat} {S:TS} {K:List (Nat×Int)} {v:World} (hm:Mem z S K v) (x:Int) (hn:S.chg.length≤17592186043904):Body Tryd.f70 #[Pt S.wb 0,I x] v (fun r v'=>∃ cb cv,r=Pt cb 0∧Mem z (celledS S cv) (K++[(cb,x)]) v'∧Fr (Own S K) v v'∧∀ b,Own (celledS S cv) (K++[(cb,x)]) b→Own S K b∨v.heap.size≤b):=by
 intro code hb
 obtain rfl:=Option.some.inj hb
 clear hb
 have HM:Hid (Mem z S K v):=⟨hm⟩
 have h24:=(body24 hm.rep hn).calls Tryd.func103 rfl
 have H24:Hid _:=⟨h24⟩
 clear hm h24
 simp only [Tryd.ntmps70,List.size_toArray,List.length_cons,List.length_nil,Nat.reduceAdd,Nat.reduceSub,Array.replicate_succ,Array.replicate_zero,List.push_toArray,List.append_toArray,List.nil_append,List.cons_append]
 go_wp2_with (first
  |(go_at_call 103;refine H24.out.mono ?_;rintro e w1 ⟨r1,rfl,rfl,cv,hev⟩;have HEV:Hid (Ev z S v (celledS S cv) w1):=⟨hev⟩;clear hev)
  |(go_at_call 104
    have hb:(w1.alloc (.cells #[I S.chg.length,I 0] 158)).heap[w1.heap.size]? = some (.cells #[I S.chg.length,I 0] 158):=Array.getElem?_push_size
    refine ((body25 w1.heap.size 0 x _ (by unfold World.cell?;rw [hb];rfl) (by unfold World.frozen?;rw [hb];rfl)).calls Tryd.func104 rfl).mono ?_;rintro e w2 ⟨r2,rfl,rfl,rfl⟩))
 go_ret
 exact ⟨_,rfl,w1.heap.size,cv,rfl,mem_newcell HM.out HEV.out rfl rfl rfl⟩
theorem body32 {z:Nat→Option Nat} {S:TS} {v:World} (h:Rep z S v):Body Tryd.f92 #[Pt S.wb 0] v (fun r v'=>r=.bool S.ran∧v'=v):=by
 intro code hb
 obtain rfl:=Option.some.inj hb
 clear hb
 have c7:=h.wcell.2.2.2.2.2.2.2.1
 clear h
 simp only [Tryd.ntmps92,List.size_toArray,List.length_cons,List.length_nil,Nat.reduceAdd,Nat.reduceSub,Array.replicate_succ,Array.replicate_zero,List.push_toArray,List.append_toArray,List.nil_append,List.cons_append]
 go_wp2
 go_ret
 exact ⟨_,rfl,rfl,rfl⟩
def checkE (n:Nat) (ran:Bool):Int:=if n=0∨8<n∨ran=true then 1 else 0
def checkS (n:Nat):Int:=if n=0∨8<n then 1 else 0
theorem body57 {v:World} (p:Option Addr) (n cap:Nat) (hn:n≤17592186043904) (pc:Nat→Option Addr) (ln cp:Nat→Nat) (hs:∀ k,k<n→∃ sb so,p=some ⟨sb,so,none⟩∧v.cell? ⟨sb,so+k,none⟩=some (.slice (pc k) (ln k) (cp k))) :
 Body Tryd.f91 #[.slice p n cap] v (fun r v'=>v'=v∧(((∃ k,k<n∧64<ln k)∧r=I 2)∨((∀ k,k<n→ln k≤64)∧r=I (checkS n)))):=by
 intro code hb
 obtain rfl:=Option.some.inj hb
 clear hb
 have HS:Hid (∀ k,k<n→∃ sb so,p=some ⟨sb,so,none⟩∧v.cell? ⟨sb,so+k,none⟩=some (.slice (pc k) (ln k) (cp k))):=⟨hs⟩
 clear hs
 simp only [Tryd.ntmps91,List.size_toArray,List.length_cons,List.length_nil,Nat.reduceAdd,Nat.reduceSub,Array.replicate_succ,Array.replicate_zero,List.push_toArray,List.append_toArray,List.nil_append,List.cons_append]
 go_wp2_with fail
 go_loopw [7] (fun i u=>u=v∧∃ k:Nat,k≤n∧i=.int .i64 k∧∀ j,j<k→ln j≤64) (fun i _=>n - (intOf i).toNat)
 case atStart=>exact ⟨rfl,0,Nat.zero_le _,rfl,fun j hj=>by omega⟩
 case round =>
  obtain ⟨rfl,k,hk,rfl,hL⟩:=hrel
  have HL:Hid (∀ j,j<k→ln j≤64):=⟨hL⟩
  clear hL
  by_cases hlt:k<n
  ·obtain ⟨sb,so,rfl,hc⟩:=HS.out k hlt
   have hlt':(k:Int)<(n:Int):=by omega
   by_cases hb:(64:Int)<(ln k:Int)
   ·go_wp2_with fail
    go_ret
    exact ⟨_,rfl,rfl,.inl ⟨⟨k,hlt,by omega⟩,rfl⟩⟩
   ·go_wp2_with fail
    go_roundw
    case rel =>
     refine ⟨trivial,k+1,by omega,by go_num,fun j hj=>?_⟩
     rcases Nat.lt_or_ge j k with h1|h1
     ·exact HL.out j h1
     ·have:j=k:=by omega
      subst this
      omega
    case measure=>simp [intOf];omega
  ·have hkk:k=n:=by omega
   subst hkk
   have hb0:(I (k:Int):Value)=.int .i64 (k:Int):=rfl
   by_cases e0:(k:Int)=0
   ·go_wp2_with fail
    go_ret
    exact ⟨_,rfl,rfl,.inr ⟨HL.out,by unfold checkS;rw [if_pos (.inl (by omega))];rfl⟩⟩
   ·by_cases e8:(8:Int)<(k:Int)
    ·go_wp2_with fail
     go_ret
     exact ⟨_,rfl,rfl,.inr ⟨HL.out,by unfold checkS;rw [if_pos (.inr (by omega))];rfl⟩⟩
    ·go_wp2_with fail
     go_ret
     exact ⟨_,rfl,rfl,.inr ⟨HL.out,by unfold checkS;rw [if_neg (by omega)];rfl⟩⟩
theorem body19 {z:Nat→Option Nat} {S:TS} {v:World} (h:Rep z S v) (p:Option Addr) (n cap:Nat) (hn:n≤17592186043904) (pc:Nat→Option Addr) (ln cp:Nat→Nat) (hs:∀ k,k<n→∃ sb so,p=some ⟨sb,so,none⟩∧v.cell? ⟨sb,so+k,none⟩=some (.slice (pc k) (ln k) (cp k))) :
 Body Tryd.f59 #[Pt S.wb 0,.slice p n cap] v (fun r v'=>v'=v∧(((∃ k,k<n∧64<ln k)∧r=I 2)∨((∀ k,k<n→ln k≤64)∧r=I (checkE n S.ran)))):=by
 intro code hb
 obtain rfl:=Option.some.inj hb
 clear hb
 have h57:=(body57 (v:=v) p n cap hn pc ln cp hs).calls Tryd.func91 rfl
 have H57:Hid _:=⟨h57⟩
 have h32:=(body32 h).calls Tryd.func92 rfl
 have H32:Hid _:=⟨h32⟩
 clear h hs h32 h57
 simp only [Tryd.ntmps59,List.size_toArray,List.length_cons,List.length_nil,Nat.reduceAdd,Nat.reduceSub,Array.replicate_succ,Array.replicate_zero,List.push_toArray,List.append_toArray,List.nil_append,List.cons_append]
 go_wp2_with fail
 go_at_call 91
 refine H57.out.mono ?_
 rintro e w1 ⟨r1,rfl,rfl,hq⟩
 rcases hq with ⟨hq,rfl⟩|⟨hq,rfl⟩
 ·have HQ:Hid _:=⟨hq⟩
  clear hq
  go_wp2_with fail
  go_ret
  exact ⟨_,rfl,rfl,.inl ⟨HQ.out,rfl⟩⟩
 ·have HQ:Hid _:=⟨hq⟩
  clear hq
  by_cases hc:n=0∨8<n
  ·have e1:checkS n=1:=by unfold checkS;rw [if_pos hc]
   rw [e1]
   go_wp2_with fail
   go_ret
   exact ⟨_,rfl,rfl,.inr ⟨HQ.out,by unfold checkE;rw [if_pos (by omega)];rfl⟩⟩
  ·have e1:checkS n=0:=by unfold checkS;rw [if_neg hc]
   rw [e1]
   go_wp2_with (first
    |(go_at_call 92;refine H32.out.mono ?_;rintro e w1 ⟨r1,rfl,rfl,rfl⟩))
   ·rename_i hq
    go_ret
    refine ⟨_,rfl,rfl,.inr ⟨HQ.out,?_⟩⟩
    unfold checkE
    rw [if_pos (.inr (.inr hq))]
    rfl
   ·rename_i hq
    go_ret
    refine ⟨_,rfl,rfl,.inr ⟨HQ.out,?_⟩⟩
    unfold checkE
    rw [if_neg (by rintro (h1|h1|h1)<;>first|omega|(rw [hq] at h1;cases h1))]
    rfl
noncomputable def ops347:Array Oper:=opsOf (seq1 (seq2 (seq2 (seq2 (blockC (seq1 (seq2 (seq2 L34))))))))
noncomputable def R89:Code:=seq2 (seq2 (seq2 (seq2 (blockC (seq1 (seq2 (seq2 L34)))))))
noncomputable def R10:Code:=seq2 (seq2 (seq2 L34))
noncomputable def cAct (tb:Nat) (csl F asl:Value) (rb ro n ii N:Nat) (x:Value) (u:Nat→Value):Act :=
 ⟨#[Pt tb 0,csl,F,asl,undef,undef,undef,undef,.bool false,I ii,Pt N 0,csl,I n,I ii,.bool true,I ii,Pt rb (ro+ii*4),x,.bool false,u 19,u 20,u 21,u 22,Pt tb 0]++#[I ii,.tuple #[],asl,I ii,F,Pt tb 0,x,u 31,u 32,u 33,u 34,u 35,u 36,u 37,u 38,u 39,u 40,u 41,u 42,u 43,u 44,u 45,u 46,u 47],[]⟩
theorem carry_step {z : Nat → Option Nat} {Ch : Nat → Prop} {Stop : Goroutine → World → Prop} {main : Bool} {S : TS} {K : List (Nat × Int)} {v w : World} {i : Nat} {t : Thr} (asl : Value) (f : FuncId) (fn : Func) (bn cp : Array Value) (hf : Tryd.prog.funcs[f]? = some fn) (hname : (fn.name == "runtime.NumGoroutine") = false) (cf : Code) (hcf : fn.body = some cf) (rb ro n cap ii : Nat) (po ca cb cc : Int) (u : Nat → Value) (cs : List Frame) (hi : ii < n)
 (h0:v.cell? ⟨rb,ro+ii*4,none⟩=some (I po)) (h1:v.cell? ⟨rb,ro+ii*4+1,none⟩=some (I ca)) (h2:v.cell? ⟨rb,ro+ii*4+2,none⟩=some (I cb)) (h3:v.cell? ⟨rb,ro+ii*4+3,none⟩=some (I cc))
 (hvw:Rel z v w) (hn:NoRow Ch v) (hm:Mem z S K v) (ht:S.thr[i]? = some t) (hl:(S.n+1)*40≤140737488355328)
 (hk:∀ v' w' tv,Rel z v' w'→NoRow Ch v'→Evo z S K v (noted S tv i 9 (-1) ii 0) K v'→v'.heap[v.heap.size]? = some (.cells #[I po,I ca,I cb,I cc] 35 (0,0)) →
   GoesI Tryd.prog main (DT (ScZ z) Ch) Stop (G ((base f).at { tmps:=(bn++#[Pt t.tb 0,.agg #[I po,I ca,I cb,I cc]]++cp)++Array.replicate (fn.ntmps - (bn++#[Pt t.tb 0,.agg #[I po,I ca,I cb,I cc]]++cp).size) undef,defers:=[] } [.code cf])
    ((base 94).at (cAct t.tb (.slice (some ⟨rb,ro,none⟩) n cap) (.func (.func f) bn cp) asl rb ro n ii v.heap.size (.agg #[I po,I ca,I cb,I cc]) u) [.inRegion ops347 [5,6,7],.code R89,.inBlock 1,.code R10,.inLoop L34,.inBlock 0] :: cs)) w') :
 GoesI Tryd.prog main (DT (ScZ z) Ch) Stop (G (cFr t.tb (.slice (some ⟨rb,ro,none⟩) n cap) (.func (.func f) bn cp) asl n ii false u) cs) w:=by
 have hi':(ii:Int)<(n:Int):=by omega
 have hq : ¬ fn.name = "runtime.NumGoroutine" := by simpa using hname
 have HM:Hid (Mem z S K v):=⟨hm⟩
 clear hm
 unfold cAct ops347 R89 R10 L34 Tryd.f94 seq2 seq1 blockC loopC opsOf at hk
 simp only [Option.getD_some,List.append_toArray,List.cons_append,List.nil_append] at hk
 unfold cFr L34 Tryd.f94 seq2 blockC loopC
 simp only [Option.getD_some,List.append_toArray,List.cons_append,List.nil_append]
 refine goesI_seq (dt_idle _ _) ?_
 refine goesI_region (dt_idle _ _) ?_
 simp only [List.size_toArray,List.length_cons,List.length_nil,Nat.reduceAdd,Nat.zero_add,List.range,List.range.loop]
 (refine goesI_oper rfl rfl (by decide) (fun d K hK=>?_)
  go_simp
  refine hK _ _ ⟨dt_reads (fun e he=>?_),GoesI.at ?_ d⟩
  ·have hm:=mem_listed he
   simp [go_sem, *] at hm
  clear hK K)
 refine goesI_regionEnd (dt_idle _ _) ?_
 refine goesI_seq (dt_idle _ _) ?_
 refine goesI_cond (dt_idle _ _) (t:=true) (by simp [Act.eval,hi]) ?_
 simp only [if_true,if_false,Bool.false_eq_true]
 refine goesI_skip (dt_idle _ _) ?_
 refine goesI_seq (dt_idle _ _) ?_
 refine goesI_block (dt_idle _ _) ?_
 refine goesI_seq (dt_idle _ _) ?_
 refine goesI_region (dt_idle _ _) ?_
 simp only [List.size_toArray,List.length_cons,List.length_nil,Nat.reduceAdd,Nat.zero_add,List.range,List.range.loop]
 iterate 2
  (refine goesI_oper rfl rfl (by decide) (fun d K hK=>?_)
   go_simp
   refine hK _ _ ⟨dt_reads (fun e he=>?_),GoesI.at ?_ d⟩
   ·have hm:=mem_listed he
    simp [go_sem, *] at hm
    try exact ⟨_,_,hm⟩
    try (rcases hm with rfl|rfl|rfl|rfl<;>exact ⟨_,_,rfl⟩)
   clear hK K)
 refine goesI_opZ (L:=LT) rfl rfl (by decide) (fineOp_ask callT extT (by kernel_rfl)) hvw hn (x:=.agg #[I po,I ca,I cb,I cc]) (v':=v) (by go_simp) rfl (fun w1 hvw1 _=>?_)
 refine goesI_opZ (L:=LT) rfl rfl (by decide) (fineOp_ask callT extT (by kernel_rfl)) hvw1 hn (x:=Pt v.heap.size 0) (v':={ v with heap:=v.heap.push (.cells #[I 0,I 0,I 0,I 0] 35) }) (by go_simp) rfl (fun w2 hvw2 hn2=>?_)
 walk_nrm
 (refine goesI_oper rfl rfl (by decide) (fun d K hK=>?_)
  go_simp
  refine hK _ _ ⟨dt_reads (fun e he=>?_),GoesI.at ?_ d⟩
  ·have hm:=mem_listed he
   simp [go_sem, *] at hm
  clear hK K)
 have hB:({ v with heap:=v.heap.push (.cells #[I 0,I 0,I 0,I 0] 35) }:World).heap[v.heap.size]? = some (.cells #[I 0,I 0,I 0,I 0] 35):=Array.getElem?_push_size
 generalize hV:({ v with heap:=v.heap.push (.cells #[I 0,I 0,I 0,I 0] 35) }:World)=V at hvw2 hn2 hB
 generalize hN:v.heap.size=N at hk hB ⊢
 have g0:V.cell? ⟨N,0,none⟩=some (I 0):=by simp [World.cell?,hB]
 have g1:V.cell? ⟨N,1,none⟩=some (I 0):=by simp [World.cell?,hB]
 have g2:V.cell? ⟨N,2,none⟩=some (I 0):=by simp [World.cell?,hB]
 have g3:V.cell? ⟨N,3,none⟩=some (I 0):=by simp [World.cell?,hB]
 have p0:V.frozen? ⟨N,0,none⟩=false:=by simp [World.frozen?,hB]
 have p1:V.frozen? ⟨N,1,none⟩=false:=by simp [World.frozen?,hB]
 have p2:V.frozen? ⟨N,2,none⟩=false:=by simp [World.frozen?,hB]
 have p3:V.frozen? ⟨N,3,none⟩=false:=by simp [World.frozen?,hB]
 refine goesI_doZ (L:=LT) rfl rfl (by decide) (fineOp_ask callT extT (by kernel_rfl)) hvw2 hn2 (v':=(((V.setCell ⟨N,0,none⟩ (I po)).setCell ⟨N,1,none⟩ (I ca)).setCell ⟨N,2,none⟩ (I cb)).setCell ⟨N,3,none⟩ (I cc)) (by go_simp) rfl (fun w3 hvw3 hn3=>?_)
 have hrow:((((V.setCell ⟨N,0,none⟩ (I po)).setCell ⟨N,1,none⟩ (I ca)).setCell ⟨N,2,none⟩ (I cb)).setCell ⟨N,3,none⟩ (I cc)).heap[N]? = some (.cells #[I po,I ca,I cb,I cc] 35 (0,0)):=by
  have:=heap_setCell_same (o:=3) (heap_setCell_same (o:=2) (heap_setCell_same (o:=1) (heap_setCell_same (o:=0) hB (I po)) (I ca)) (I cb)) (I cc)
  simpa using this
 have hg:Grows v ((((V.setCell ⟨N,0,none⟩ (I po)).setCell ⟨N,1,none⟩ (I ca)).setCell ⟨N,2,none⟩ (I cb)).setCell ⟨N,3,none⟩ (I cc)):=by
  refine ⟨by rw [←hV];simp [World.setCell],fun b hb=>?_,by rw [←hV];rfl,by rw [←hV];rfl⟩
  have hbN:b≠N:=by omega
  rw [Below.heap_setCell _ _ _ _ hbN,Below.heap_setCell _ _ _ _ hbN,Below.heap_setCell _ _ _ _ hbN,Below.heap_setCell _ _ _ _ hbN,←hV]
  show (v.heap.push _)[b]? = _
  rw [Array.getElem?_push,if_neg (by omega)]
 generalize ((((V.setCell ⟨N,0,none⟩ (I po)).setCell ⟨N,1,none⟩ (I ca)).setCell ⟨N,2,none⟩ (I cb)).setCell ⟨N,3,none⟩ (I cc))=V3 at hvw3 hn3 hrow hg
 have HE:Hid (Evo z S K v S K V3):=⟨HM.out.grows hg⟩
 clear hV hB g0 g1 g2 g3 p0 p1 p2 p3 hvw2 hn2 hvw1 hvw
 refine goesI_regionEnd (dt_idle _ _) ?_
 refine goesI_seq (dt_idle _ _) ?_
 refine goesI_seq (dt_idle _ _) ?_
 refine goesI_region (dt_idle _ _) ?_
 simp only [List.size_toArray,List.length_cons,List.length_nil,Nat.reduceAdd,Nat.zero_add,List.range,List.range.loop]
 (refine goesI_oper rfl rfl (by decide) (fun d K hK=>?_)
  go_simp
  refine hK _ _ ⟨dt_reads (fun e he=>?_),GoesI.at ?_ d⟩
  ·have hm:=mem_listed he
   simp [go_sem, *] at hm
  clear hK K)
 refine goesI_regionEnd (dt_idle _ _) ?_
 refine goesI_cond (dt_idle _ _) (t:=false) rfl ?_
 simp only [if_true,if_false,Bool.false_eq_true]
 refine goesI_skip (dt_idle _ _) ?_
 refine goesI_seq (dt_idle _ _) ?_
 refine goesI_region (dt_idle _ _) ?_
 simp only [List.size_toArray,List.length_cons,List.length_nil,Nat.reduceAdd,Nat.zero_add,List.range,List.range.loop]
 iterate 2
  (refine goesI_oper rfl rfl (by decide) (fun d K hK=>?_)
   go_simp
   refine hK _ _ ⟨dt_reads (fun e he=>?_),GoesI.at ?_ d⟩
   ·have hm:=mem_listed he
    simp [go_sem, *] at hm
    try exact ⟨_,_,hm⟩
    try (rcases hm with rfl|rfl|rfl|rfl<;>exact ⟨_,_,rfl⟩)
   clear hK K)
 refine goesI_call (f:=118) (fn:=Tryd.f118) (args:=#[Pt t.tb 0,I 9,I ii,I 0]) hE fineT rfl rfl (by decide) rfl (by simp [Act.eval]) Tryd.func118 (by kernel_rfl) rfl (fineFn_body fineT (by simp [LT,plainFs]) Tryd.func118 rfl) (fun tmps=>⟨_,fun w=>results_none rfl _ _ _,fun w=>by simp [results,go_sem]⟩) hvw3 hn3
  (R:=fun r v4=>r=.tuple #[]∧∃ tv,Ev z S V3 (noted S tv i 9 (-1) ii 0) v4) (fun τ=>?_) (fun r v4 w4 hR hvw4 hn4=>?_)
 ·exact wp_mono (body43 (v:=onTape V3 τ 0) (HE.out.mem.rep.same rfl) ht 9 ii 0 hl _ rfl) (bp_mono fun r x hq=>⟨hq.1,hq.2.choose,hq.2.choose_spec.base rfl rfl rfl⟩)
 obtain ⟨rfl,tv,hev⟩:=hR
 have HE4:Hid (Evo z S K v (noted S tv i 9 (-1) ii 0) K v4):=⟨HE.out.trans (Evo.of_ev HE.out.mem hev rfl)⟩
 have hNo:¬ Own S K N:=fun hO=>by have:=HM.out.lt hO;omega
 have hrow4:v4.heap[N]? = some (.cells #[I po,I ca,I cb,I cc] 35 (0,0)):=by
  rw [hev.fr.block N (Array.getElem?_eq_some_iff.1 hrow).1 (fun hI=>hNo (.inl hI))]
  exact hrow
 clear hev hrow hg HE hvw3 hn3
 have k0:w4.cell? ⟨N,0,none⟩=some (I po):=by rw [hvw4.cell?];simp [World.cell?,hrow4]
 have k1:w4.cell? ⟨N,1,none⟩=some (I ca):=by rw [hvw4.cell?];simp [World.cell?,hrow4]
 have k2:w4.cell? ⟨N,2,none⟩=some (I cb):=by rw [hvw4.cell?];simp [World.cell?,hrow4]
 have k3:w4.cell? ⟨N,3,none⟩=some (I cc):=by rw [hvw4.cell?];simp [World.cell?,hrow4]
 have hk:=hk v4 w4 tv hvw4 hn4 HE4.out hrow4
 walk_nrm
 refine goesI_regionEnd (dt_idle _ _) ?_
 refine goesI_seq (dt_idle _ _) ?_
 refine goesI_region (dt_idle _ _) ?_
 simp only [List.size_toArray,List.length_cons,List.length_nil,Nat.reduceAdd,Nat.zero_add,List.range,List.range.loop]
 iterate 5
  (refine goesI_oper rfl rfl (by decide) (fun d K hK=>?_)
   go_simp
   refine hK _ _ ⟨dt_reads (fun e he=>?_),GoesI.at ?_ d⟩
   ·have hm:=mem_listed he
    simp [go_sem, *] at hm
    try exact ⟨_,_,hm⟩
    try (rcases hm with rfl|rfl|rfl|rfl<;>exact ⟨_,_,rfl⟩)
   clear hK K)
 refine goesI_enter (f:=f) (args:=bn++#[Pt t.tb 0,.agg #[I po,I ca,I cb,I cc]]++cp) rfl rfl (by decide) (fun w=>?_) (fun w=>?_) (dt_idle _ _) hf hcf ?_
 ·simp [execOp,resolve,Deferred.ofValue,Act.eval,invoke,callFunc,hf,hq,hcf]
 ·refine listed_none ?_
  simp [go_sem,execOp,resolve,Deferred.ofValue,Act.eval,invoke,callFunc,hf,hq,hcf]
 exact hk
theorem carry_back {z:Nat→Option Nat} {Ch:Nat→Prop} {Stop:Goroutine→World→Prop} {main:Bool} {S:TS} {K:List (Nat×Int)} {v w:World} {i:Nat} {t:Thr} (csl F:Value) (rb ro ab n cap2 ii N:Nat) (X:Value) (e x y0 y1:Int) (u:Nat→Value) (cs:List Frame) (hi:ii<n) (hb:(n:Int)<9223372036854775808)
 (a0:v.cell? ⟨ab,ii*2,none⟩=some (I y0)) (a1:v.cell? ⟨ab,ii*2+1,none⟩=some (I y1)) (f0:v.frozen? ⟨ab,ii*2,none⟩=false) (f1:v.frozen? ⟨ab,ii*2+1,none⟩=false) (hbo:¬ Own S K ab)
 (hvw:Rel z v w) (hn:NoRow Ch v) (hm:Mem z S K v) (ht:S.thr[i]? = some t) (hl:(S.n+1)*40≤140737488355328)
 (hk:∀ v' w' tv u',Rel z v' w'→NoRow Ch v'→EvoP (· = ab) z S K v (noted S tv i 10 (-1) ii e) K v'→v'.heap[ab]? = ((v.setCell ⟨ab,ii*2,none⟩ (I e)).setCell ⟨ab,ii*2+1,none⟩ (I x)).heap[ab]? →
   GoesI Tryd.prog main (DT (ScZ z) Ch) Stop (G (cFr t.tb csl F (.slice (some ⟨ab,0,none⟩) n cap2) n (ii+1) (e==4) u') cs) w') :
 GoesI Tryd.prog main (DT (ScZ z) Ch) Stop (G ((base 94).at ((cAct t.tb csl F (.slice (some ⟨ab,0,none⟩) n cap2) rb ro n ii N X u).put (some 31) (.agg #[I e,I x])) [.inRegion ops347 [6,7],.code R89,.inBlock 1,.code R10,.inLoop L34,.inBlock 0]) cs) w:=by
 have hi':(ii:Int)<(n:Int):=by omega
 have hlt:ab<v.heap.size:=World.block_lt_of_cell? _ _ a0
 have HM:Hid (Mem z S K v):=⟨hm⟩
 have HW:Hid (IntKind.i64.wrap ((ii:Int)+1)=((ii+1:Nat):Int)):=⟨by rw [IntKind.wrap_i64];omega⟩
 clear hm hb
 unfold cAct ops347 R89 R10 L34 Tryd.f94 seq2 seq1 blockC loopC opsOf
 simp only [Option.getD_some,List.append_toArray,List.cons_append,List.nil_append]
 walk_nrm
 (refine goesI_oper rfl rfl (by decide) (fun d K hK=>?_)
  go_simp
  refine hK _ _ ⟨dt_reads (fun e he=>?_),GoesI.at ?_ d⟩
  ·have hm:=mem_listed he
   simp [go_sem, *] at hm
  clear hK K)
 refine goesI_doZ (L:=LT) rfl rfl (by decide) (fineOp_ask callT extT (by kernel_rfl)) hvw hn (v':=(v.setCell ⟨ab,ii*2,none⟩ (I e)).setCell ⟨ab,ii*2+1,none⟩ (I x)) (by go_simp) rfl (fun w2 hvw2 hn2=>?_)
 have HE:Hid (EvoP (· = ab) z S K v S K ((v.setCell ⟨ab,ii*2,none⟩ (I e)).setCell ⟨ab,ii*2+1,none⟩ (I x))):=⟨HM.out.other hbo (fun b hb=>by rw [Below.heap_setCell _ _ _ _ hb,Below.heap_setCell _ _ _ _ hb]) (by simp [World.setCell]) rfl rfl⟩
 have e0:((v.setCell ⟨ab,ii*2,none⟩ (I e)).setCell ⟨ab,ii*2+1,none⟩ (I x)).cell? ⟨ab,ii*2,none⟩=some (I e):=by
  rw [World.cell?_setCell_other _ _ _ _ (by simp)]
  exact World.cell?_setCell_same _ _ _ (by rw [a0])
 have hs2:ab<((v.setCell ⟨ab,ii*2,none⟩ (I e)).setCell ⟨ab,ii*2+1,none⟩ (I x)).heap.size:=by simpa [World.setCell] using hlt
 generalize ((v.setCell ⟨ab,ii*2,none⟩ (I e)).setCell ⟨ab,ii*2+1,none⟩ (I x))=V at hvw2 hn2 HE e0 hs2 hk
 have q0:w2.cell? ⟨ab,ii*2,none⟩=some (I e):=by rw [hvw2.cell?];exact e0
 clear a0 a1 f0 f1 hvw
 refine goesI_regionEnd (dt_idle _ _) ?_
 refine goesI_seq (dt_idle _ _) ?_
 refine goesI_region (dt_idle _ _) ?_
 simp only [List.size_toArray,List.length_cons,List.length_nil,Nat.reduceAdd,Nat.zero_add,List.range,List.range.loop]
 iterate 7
  (refine goesI_oper rfl rfl (by decide) (fun d K hK=>?_)
   go_simp
   refine hK _ _ ⟨dt_reads (fun e he=>?_),GoesI.at ?_ d⟩
   ·have hm:=mem_listed he
    simp [go_sem, *] at hm
    try exact ⟨_,_,hm⟩
    try (rcases hm with rfl|rfl|rfl|rfl<;>exact ⟨_,_,rfl⟩)
   clear hK K)
 refine goesI_call (f:=118) (fn:=Tryd.f118) (args:=#[Pt t.tb 0,I 10,I ii,I e]) hE fineT rfl rfl (by decide) rfl (by simp [Act.eval]) Tryd.func118 (by kernel_rfl) rfl (fineFn_body fineT (by simp [LT,plainFs]) Tryd.func118 rfl) (fun tmps=>⟨_,fun w=>results_none rfl _ _ _,fun w=>by simp [results,go_sem]⟩) hvw2 hn2
  (R:=fun r v4=>r=.tuple #[]∧∃ tv,Ev z S V (noted S tv i 10 (-1) ii e) v4) (fun τ=>?_) (fun r v4 w4 hR hvw4 hn4=>?_)
 ·exact wp_mono (body43 (v:=onTape V τ 0) (HE.out.mem.rep.same rfl) ht 10 ii e hl _ rfl) (bp_mono fun r x hq=>⟨hq.1,hq.2.choose,hq.2.choose_spec.base rfl rfl rfl⟩)
 obtain ⟨rfl,tv,hev⟩:=hR
 have HE4:Hid (EvoP (· = ab) z S K v (noted S tv i 10 (-1) ii e) K v4):=⟨HE.out.trans (Evo.of_ev HE.out.mem hev rfl).toP⟩
 have hsame:v4.heap[ab]? = V.heap[ab]?:=hev.fr.block ab hs2 (fun hI=>hbo (.inl hI))
 have k0:w4.cell? ⟨ab,ii*2,none⟩=some (I e):=by
  rw [hvw4.cell?,World.cell?_of_block hsame]
  exact e0
 clear hev HE hvw2 hn2 q0 e0 hs2
 have hk:=hk v4 w4 tv (fun m=>match m with
  |9=>I ii|10=>Pt N 0|14=>.bool true|15=>I ii|16=>Pt rb (ro+ii*4)|17=>X|18=>.bool false|23=>Pt t.tb 0|24=>I ii|25=>.tuple #[]|26=>.slice (some ⟨ab,0,none⟩) n cap2|27=>I ii|28=>F|29=>Pt t.tb 0|30=>X|31=>.agg #[I e,I x]|32=>Pt ab (ii*2)
  |33=>Pt t.tb 0|34=>I ii|35=>.slice (some ⟨ab,0,none⟩) n cap2|36=>I ii|37=>Pt ab (ii*2)|38=>Pt ab (ii*2)|39=>I e|40=>.tuple #[]|41=>.slice (some ⟨ab,0,none⟩) n cap2|42=>I ii|43=>Pt ab (ii*2)|44=>Pt ab (ii*2)|45=>I e|46=>.bool (e==4)|47=>I ((ii+1:Nat):Int)|m=>u m) hvw4 hn4 HE4.out hsame
 unfold cFr L34 Tryd.f94 seq2 blockC loopC at hk
 simp only [Option.getD_some,List.append_toArray,List.cons_append,List.nil_append] at hk
 rw [←HW.out] at hk
 clear HE4 hvw4 hn4
 walk_nrm
 refine goesI_regionEnd (dt_idle _ _) ?_
 refine goesI_region (dt_idle _ _) ?_
 simp only [List.size_toArray,List.length_cons,List.length_nil,Nat.reduceAdd,Nat.zero_add,List.range,List.range.loop]
 iterate 7
  (refine goesI_oper rfl rfl (by decide) (fun d K hK=>?_)
   go_simp
   refine hK _ _ ⟨dt_reads (fun e he=>?_),GoesI.at ?_ d⟩
   ·have hm:=mem_listed he
    simp [go_sem, *] at hm
    try exact ⟨_,_,hm⟩
    try (rcases hm with rfl|rfl|rfl|rfl<;>exact ⟨_,_,rfl⟩)
   clear hK K)
 refine goesI_regionEnd (dt_idle _ _) ?_
 refine goesI_inBlock (dt_idle _ _) ?_
 refine goesI_region (dt_idle _ _) ?_
 simp only [List.size_toArray,List.length_cons,List.length_nil,Nat.reduceAdd,Nat.zero_add,List.range,List.range.loop]
 iterate 2
  (refine goesI_oper rfl rfl (by decide) (fun d K hK=>?_)
   go_simp
   refine hK _ _ ⟨dt_reads (fun e he=>?_),GoesI.at ?_ d⟩
   ·have hm:=mem_listed he
    simp [go_sem, *] at hm
    try exact ⟨_,_,hm⟩
    try (rcases hm with rfl|rfl|rfl|rfl<;>exact ⟨_,_,rfl⟩)
   clear hK K)
 refine goesI_regionEnd (dt_idle _ _) ?_
 refine goesI_inLoop (dt_idle _ _) ?_
 exact hk
theorem carry_skip {z:Nat→Option Nat} {Ch:Nat→Prop} {Stop:Goroutine→World→Prop} {main:Bool} {S:TS} {K:List (Nat×Int)} {v w:World} {tb:Nat} (F:Value) (rb ro ab n cap cap2 ii:Nat) (po ca cb cc y0 y1:Int) (u:Nat→Value) (cs:List Frame) (hi:ii<n) (hb:(n:Int)<9223372036854775808)
 (h0:v.cell? ⟨rb,ro+ii*4,none⟩=some (I po)) (h1:v.cell? ⟨rb,ro+ii*4+1,none⟩=some (I ca)) (h2:v.cell? ⟨rb,ro+ii*4+2,none⟩=some (I cb)) (h3:v.cell? ⟨rb,ro+ii*4+3,none⟩=some (I cc))
 (a0:v.cell? ⟨ab,ii*2,none⟩=some (I y0)) (a1:v.cell? ⟨ab,ii*2+1,none⟩=some (I y1)) (f0:v.frozen? ⟨ab,ii*2,none⟩=false) (f1:v.frozen? ⟨ab,ii*2+1,none⟩=false) (hbo:¬ Own S K ab)
 (hvw:Rel z v w) (hn:NoRow Ch v) (hm:Mem z S K v)
 (hk:∀ v' w' u',Rel z v' w'→NoRow Ch v'→EvoP (· = ab) z S K v S K v'→v'.heap[ab]? = ((v.setCell ⟨ab,ii*2,none⟩ (I 4)).setCell ⟨ab,ii*2+1,none⟩ (I 0)).heap[ab]? →
   GoesI Tryd.prog main (DT (ScZ z) Ch) Stop (G (cFr tb (.slice (some ⟨rb,ro,none⟩) n cap) F (.slice (some ⟨ab,0,none⟩) n cap2) n (ii+1) true u') cs) w') :
 GoesI Tryd.prog main (DT (ScZ z) Ch) Stop (G (cFr tb (.slice (some ⟨rb,ro,none⟩) n cap) F (.slice (some ⟨ab,0,none⟩) n cap2) n ii true u) cs) w:=by
 have hi':(ii:Int)<(n:Int):=by omega
 have HM:Hid (Mem z S K v):=⟨hm⟩
 have HW:Hid (IntKind.i64.wrap ((ii:Int)+1)=((ii+1:Nat):Int)):=⟨by rw [IntKind.wrap_i64];omega⟩
 have hNa:ab<v.heap.size:=World.block_lt_of_cell? _ _ a0
 clear hm hb
 unfold cFr L34 Tryd.f94 seq2 blockC loopC
 simp only [Option.getD_some,List.append_toArray,List.cons_append,List.nil_append]
 refine goesI_seq (dt_idle _ _) ?_
 refine goesI_region (dt_idle _ _) ?_
 simp only [List.size_toArray,List.length_cons,List.length_nil,Nat.reduceAdd,Nat.zero_add,List.range,List.range.loop]
 (refine goesI_oper rfl rfl (by decide) (fun d K hK=>?_)
  go_simp
  refine hK _ _ ⟨dt_reads (fun e he=>?_),GoesI.at ?_ d⟩
  ·have hm:=mem_listed he
   simp [go_sem, *] at hm
  clear hK K)
 refine goesI_regionEnd (dt_idle _ _) ?_
 refine goesI_seq (dt_idle _ _) ?_
 refine goesI_cond (dt_idle _ _) (t:=true) (by simp [Act.eval,hi]) ?_
 simp only [if_true,if_false,Bool.false_eq_true]
 refine goesI_skip (dt_idle _ _) ?_
 refine goesI_seq (dt_idle _ _) ?_
 refine goesI_block (dt_idle _ _) ?_
 refine goesI_seq (dt_idle _ _) ?_
 refine goesI_region (dt_idle _ _) ?_
 simp only [List.size_toArray,List.length_cons,List.length_nil,Nat.reduceAdd,Nat.zero_add,List.range,List.range.loop]
 iterate 2
  (refine goesI_oper rfl rfl (by decide) (fun d K hK=>?_)
   go_simp
   refine hK _ _ ⟨dt_reads (fun e he=>?_),GoesI.at ?_ d⟩
   ·have hm:=mem_listed he
    simp [go_sem, *] at hm
    try exact ⟨_,_,hm⟩
    try (rcases hm with rfl|rfl|rfl|rfl<;>exact ⟨_,_,rfl⟩)
   clear hK K)
 refine goesI_opZ (L:=LT) rfl rfl (by decide) (fineOp_ask callT extT (by kernel_rfl)) hvw hn (x:=.agg #[I po,I ca,I cb,I cc]) (v':=v) (by go_simp) rfl (fun w1 hvw1 _=>?_)
 refine goesI_opZ (L:=LT) rfl rfl (by decide) (fineOp_ask callT extT (by kernel_rfl)) hvw1 hn (x:=Pt v.heap.size 0) (v':={ v with heap:=v.heap.push (.cells #[I 0,I 0,I 0,I 0] 35) }) (by go_simp) rfl (fun w2 hvw2 hn2=>?_)
 walk_nrm
 (refine goesI_oper rfl rfl (by decide) (fun d K hK=>?_)
  go_simp
  refine hK _ _ ⟨dt_reads (fun e he=>?_),GoesI.at ?_ d⟩
  ·have hm:=mem_listed he
   simp [go_sem, *] at hm
  clear hK K)
 have hB:({ v with heap:=v.heap.push (.cells #[I 0,I 0,I 0,I 0] 35) }:World).heap[v.heap.size]? = some (.cells #[I 0,I 0,I 0,I 0] 35):=Array.getElem?_push_size
 generalize hV:({ v with heap:=v.heap.push (.cells #[I 0,I 0,I 0,I 0] 35) }:World)=V at hvw2 hn2 hB
 generalize hN:v.heap.size=N at hB hNa ⊢
 have g0:V.cell? ⟨N,0,none⟩=some (I 0):=by simp [World.cell?,hB]
 have g1:V.cell? ⟨N,1,none⟩=some (I 0):=by simp [World.cell?,hB]
 have g2:V.cell? ⟨N,2,none⟩=some (I 0):=by simp [World.cell?,hB]
 have g3:V.cell? ⟨N,3,none⟩=some (I 0):=by simp [World.cell?,hB]
 have p0:V.frozen? ⟨N,0,none⟩=false:=by simp [World.frozen?,hB]
 have p1:V.frozen? ⟨N,1,none⟩=false:=by simp [World.frozen?,hB]
 have p2:V.frozen? ⟨N,2,none⟩=false:=by simp [World.frozen?,hB]
 have p3:V.frozen? ⟨N,3,none⟩=false:=by simp [World.frozen?,hB]
 refine goesI_doZ (L:=LT) rfl rfl (by decide) (fineOp_ask callT extT (by kernel_rfl)) hvw2 hn2 (v':=(((V.setCell ⟨N,0,none⟩ (I po)).setCell ⟨N,1,none⟩ (I ca)).setCell ⟨N,2,none⟩ (I cb)).setCell ⟨N,3,none⟩ (I cc)) (by go_simp) rfl (fun w3 hvw3 hn3=>?_)
 have hrow:((((V.setCell ⟨N,0,none⟩ (I po)).setCell ⟨N,1,none⟩ (I ca)).setCell ⟨N,2,none⟩ (I cb)).setCell ⟨N,3,none⟩ (I cc)).heap[N]? = some (.cells #[I po,I ca,I cb,I cc] 35 (0,0)):=by
  have:=heap_setCell_same (o:=3) (heap_setCell_same (o:=2) (heap_setCell_same (o:=1) (heap_setCell_same (o:=0) hB (I po)) (I ca)) (I cb)) (I cc)
  simpa using this
 have hg:Grows v ((((V.setCell ⟨N,0,none⟩ (I po)).setCell ⟨N,1,none⟩ (I ca)).setCell ⟨N,2,none⟩ (I cb)).setCell ⟨N,3,none⟩ (I cc)):=by
  refine ⟨by rw [←hV];simp [World.setCell],fun b hb=>?_,by rw [←hV];rfl,by rw [←hV];rfl⟩
  have hbN:b≠N:=by omega
  rw [Below.heap_setCell _ _ _ _ hbN,Below.heap_setCell _ _ _ _ hbN,Below.heap_setCell _ _ _ _ hbN,Below.heap_setCell _ _ _ _ hbN,←hV]
  show (v.heap.push _)[b]? = _
  rw [Array.getElem?_push,if_neg (by omega)]
 generalize ((((V.setCell ⟨N,0,none⟩ (I po)).setCell ⟨N,1,none⟩ (I ca)).setCell ⟨N,2,none⟩ (I cb)).setCell ⟨N,3,none⟩ (I cc))=V3 at hvw3 hn3 hrow hg
 have HE:Hid (Evo z S K v S K V3):=⟨HM.out.grows hg⟩
 have b0:V3.cell? ⟨ab,ii*2,none⟩=some (I y0):=hg.cell a0
 have b1:V3.cell? ⟨ab,ii*2+1,none⟩=some (I y1):=hg.cell a1
 have hold:V3.heap[ab]? = v.heap[ab]?:=hg.old ab (by omega)
 have g0:V3.frozen? ⟨ab,ii*2,none⟩=false:=by rw [←f0];unfold World.frozen?;rw [hold]
 have g1:V3.frozen? ⟨ab,ii*2+1,none⟩=false:=by rw [←f1];unfold World.frozen?;rw [hold]
 clear hV hB hvw2 hn2 hvw1 hvw h0 h1 h2 h3 a0 a1 f0 f1
 refine goesI_regionEnd (dt_idle _ _) ?_
 refine goesI_seq (dt_idle _ _) ?_
 refine goesI_seq (dt_idle _ _) ?_
 refine goesI_region (dt_idle _ _) ?_
 simp only [List.size_toArray,List.length_cons,List.length_nil,Nat.reduceAdd,Nat.zero_add,List.range,List.range.loop]
 (refine goesI_oper rfl rfl (by decide) (fun d K hK=>?_)
  go_simp
  refine hK _ _ ⟨dt_reads (fun e he=>?_),GoesI.at ?_ d⟩
  ·have hm:=mem_listed he
   simp [go_sem, *] at hm
  clear hK K)
 refine goesI_regionEnd (dt_idle _ _) ?_
 refine goesI_cond (dt_idle _ _) (t:=true) rfl ?_
 simp only [if_true,if_false,Bool.false_eq_true]
 refine goesI_seq (dt_idle _ _) ?_
 refine goesI_region (dt_idle _ _) ?_
 simp only [List.size_toArray,List.length_cons,List.length_nil,Nat.reduceAdd,Nat.zero_add,List.range,List.range.loop]
 iterate 4
  (refine goesI_oper rfl rfl (by decide) (fun d K hK=>?_)
   go_simp
   refine hK _ _ ⟨dt_reads (fun e he=>?_),GoesI.at ?_ d⟩
   ·have hm:=mem_listed he
    simp [go_sem, *] at hm
    try exact ⟨_,_,hm⟩
    try (rcases hm with rfl|rfl|rfl|rfl<;>exact ⟨_,_,rfl⟩)
   clear hK K)
 refine goesI_doZ (L:=LT) rfl rfl (by decide) (fineOp_ask callT extT (by kernel_rfl)) hvw3 hn3 (v':=(V3.setCell ⟨ab,ii*2,none⟩ (I 4)).setCell ⟨ab,ii*2+1,none⟩ (I 0)) (by go_simp) rfl (fun w4 hvw4 hn4=>?_)
 have HE4:EvoP (· = ab) z S K v S K ((V3.setCell ⟨ab,ii*2,none⟩ (I 4)).setCell ⟨ab,ii*2+1,none⟩ (I 0)):=HE.out.toP.trans (HE.out.mem.other hbo (fun b hb=>by rw [Below.heap_setCell _ _ _ _ hb,Below.heap_setCell _ _ _ _ hb]) (by simp [World.setCell]) rfl rfl)
 have hsame:((V3.setCell ⟨ab,ii*2,none⟩ (I 4)).setCell ⟨ab,ii*2+1,none⟩ (I 0)).heap[ab]? = ((v.setCell ⟨ab,ii*2,none⟩ (I 4)).setCell ⟨ab,ii*2+1,none⟩ (I 0)).heap[ab]?:=by
  simp only [World.setCell,Array.getElem?_modify]
  simp [hold]
 have hk:=hk _ w4 (fun m=>match m with
  |9=>I ii|10=>Pt N 0|14=>.bool true|15=>I ii|16=>Pt rb (ro+ii*4)|17=>.agg #[I po,I ca,I cb,I cc]|18=>.bool true|19=>.slice (some ⟨ab,0,none⟩) n cap2|20=>I ii|21=>.agg #[I 4,I 0]|22=>Pt ab (ii*2)|47=>I ((ii+1:Nat):Int)|m=>u m) hvw4 hn4 HE4 hsame
 unfold cFr L34 Tryd.f94 seq2 blockC loopC at hk
 simp only [Option.getD_some,List.append_toArray,List.cons_append,List.nil_append] at hk
 rw [←HW.out] at hk
 clear HE4 hsame
 walk_nrm
 refine goesI_regionEnd (dt_idle _ _) ?_
 refine goesI_exit (dt_idle _ _) rfl ?_
 refine goesI_region (dt_idle _ _) ?_
 simp only [List.size_toArray,List.length_cons,List.length_nil,Nat.reduceAdd,Nat.zero_add,List.range,List.range.loop]
 iterate 2
  (refine goesI_oper rfl rfl (by decide) (fun d K hK=>?_)
   go_simp
   refine hK _ _ ⟨dt_reads (fun e he=>?_),GoesI.at ?_ d⟩
   ·have hm:=mem_listed he
    simp [go_sem, *] at hm
    try exact ⟨_,_,hm⟩
    try (rcases hm with rfl|rfl|rfl|rfl<;>exact ⟨_,_,rfl⟩)
   clear hK K)
 refine goesI_regionEnd (dt_idle _ _) ?_
 refine goesI_inLoop (dt_idle _ _) ?_
 exact hk
noncomputable def ops33:Array Oper:=opsOf (Tryd.f93.body.getD .skip)
def val33 (csl F rsl asl:Value) (tb rb ix:Nat):Nat→Value
 |0=>Pt tb 0
 |1=>csl
 |2=>F
 |3=>rsl
 |4=>I ix
 |5=>Pt rb ix
 |6=>asl
 |_=>undef
theorem lead33:leadsOn .any ops33 7=true:=by kernel_rfl
theorem text33:inText .any ops33 7=true:=by kernel_rfl
theorem fineOps33 (i:Nat) (hi:i<7) (o:Oper) (ho:ops33[i]? = some o):fineOp Tryd.prog true LT o:=by
 have h:((ops33.extract 0 7).all fun o=>plainOp Tryd.prog true o.op||askCall plainFs plainXs o.op)=true:=by kernel_rfl
 refine fineOp_ask callT extT ((Array.all_eq_true_iff_forall_mem.1 h) o ?_)
 have:(ops33.extract 0 7)[i]? = some o:=by
  have hs:=(Array.getElem?_eq_some_iff.1 ho).1
  rw [Array.getElem?_extract,if_pos (by omega)]
  simpa using ho
 exact Array.mem_of_getElem? this
theorem rest33 (t:Nat):Region.linearise.go .any ops33 (ops33.size - 7) t (listedN ops33.size 7) []=[7]:=by
 have e1:((List.range ops33.size).filter fun i=>!(listedN ops33.size 7).getD i true&&((ops33[i]?).map (·.after.all fun e=>!Region.binds .any e||(listedN ops33.size 7).getD e.on false)).getD false)=[7]:=by kernel_rfl
 have e0:ops33.size - 7=1:=by kernel_rfl
 rw [e0]
 unfold Region.linearise.go
 simp only [e1,List.length_cons,List.length_nil,Nat.zero_add,Nat.mod_one,List.getElem?_cons_zero]
 rfl
theorem dst33 (i:Nat) (hi:i<7) (o:Oper) (ho:ops33[i]? = some o):o.dst=some (6+i):=by
 have h:((List.range 7).all fun i=>(ops33[i]?).map (·.dst)==some (some (6+i)))=true:=by kernel_rfl
 have:=(List.all_eq_true.1 h) i (by simpa using hi)
 rw [ho] at this
 simpa using this
theorem guard33 (i:Nat) (hi:i<8) (o:Oper) (ho:ops33[i]? = some o):o.guard=none:=by
 have h:((List.range 8).all fun i=>((ops33[i]?).map (·.guard.isNone))==some true)=true:=by kernel_rfl
 have:=(List.all_eq_true.1 h) i (by simpa using hi)
 rw [ho] at this
 simpa using this
theorem op33 {i:Nat} {o:Oper} {p:Op} (h:(ops33[i]?).map (·.op)=some p) (ho:ops33[i]? = some o):o.op=p:=by
 rw [ho] at h
 exact Option.some.inj h
theorem after33 {i j:Nat} {o:Oper} (h:((ops33[i]?).map (fun o=>o.after.toList.any fun e=>e.on==j&&Region.binds .any e))=some true) (ho:ops33[i]? = some o) {l:Array Bool} (hd:∀ e∈o.after.toList,Region.binds .any e=true→l.getD e.on false=true):l.getD j false=true:=by
 rw [ho] at h
 simp only [Option.map_some,Option.some.injEq,List.any_eq_true,Bool.and_eq_true,beq_iff_eq] at h
 obtain ⟨e,he,rfl,hb⟩:=h
 exact hd e he hb
theorem body33_goes {z:Nat→Option Nat} {Ch:Nat→Prop} {Stop:Goroutine→World→Prop} {main:Bool} {v w:World} {tb p1 p2 p3 p4:Nat} (csl F asl:Value) (rb m cap ix:Nat) (hix:ix<m)
 (h1:v.cell? ⟨p1,0,none⟩=some csl) (h2:v.cell? ⟨p2,0,none⟩=some F) (h3:v.cell? ⟨p3,0,none⟩=some (.slice (some ⟨rb,0,none⟩) m cap)) (h4:v.cell? ⟨p4,0,none⟩=some (I ix)) (h5:v.cell? ⟨rb,ix,none⟩=some asl) (cs:List Frame) {bc:Frame} {ac:Act} {ops:Array Oper} {q:Nat} {rest:List Nat} {oc:Oper} {k:List Item} (hoc:ops[q]? = some oc)
 (hvw:Rel z v w) (hn:NoRow Ch v)
 (hk:∀ w' (bd:Frame) (ad:Act) (od:Array Oper) (qd:Nat) (rd:List Nat) (oe:Oper) (kd:List Item),Rel z v w'→od[qd]? = some oe →
   (∀ (z:Nat→Option Nat) (Ch:Nat→Prop) (Stop:Goroutine→World→Prop) (w:World),GoesI Tryd.prog main (DT (ScZ z) Ch) Stop (G (bc.at (ac.put oc.dst (.tuple #[])) (.inRegion ops rest :: k)) cs) w→GoesI Tryd.prog main (DT (ScZ z) Ch) Stop (G (bd.at (ad.put oe.dst (.tuple #[])) (.inRegion od rd :: kd)) (bc.at ac (.inRegion ops (q :: rest) :: k) :: cs)) w)→∀ code,Tryd.f94.body=some code →
   GoesI Tryd.prog main (DT (ScZ z) Ch) Stop (G ((base 94).at { tmps:=#[Pt tb 0,csl,F,asl]++Array.replicate 44 undef,defers:=[] } [.code code]) (bd.at ad (.inRegion od (qd :: rd) :: kd) :: bc.at ac (.inRegion ops (q :: rest) :: k) :: cs)) w') (code:Code) (hc:Tryd.f93.body=some code) :
 GoesI Tryd.prog main (DT (ScZ z) Ch) Stop (G ((base 93).at { tmps:=#[Pt tb 0,Pt p1 0,Pt p2 0,Pt p3 0,Pt p4 0]++Array.replicate 9 undef,defers:=[] } [.code code]) (bc.at ac (.inRegion ops (q :: rest) :: k) :: cs)) w:=by
 have hc0:code=.region 0 ops33 true:=by
  have:Tryd.f93.body=some (.region 0 ops33 true):=rfl
  rw [this] at hc
  exact (Option.some.inj hc).symm
 subst hc0
 clear hc
 simp only [Array.replicate_succ,Array.replicate_zero,List.push_toArray,List.append_toArray,List.nil_append,List.cons_append]
 refine goesI_region_quiet (n:=7) (val:=val33 csl F (.slice (some ⟨rb,0,none⟩) m cap) asl tb rb ix) (J:=fun w=>Rel z v w) mix21 (fun w d hJ=>hJ.re rfl rfl rfl rfl rfl rfl) (fun w=>dt_draw _ _ w) lead33 text33 (on:=ops33[7]'(by decide)) rfl ?_ ?_ ?_
  { tmps:=#[Pt tb 0,Pt p1 0,Pt p2 0,Pt p3 0,Pt p4 0,undef,Pt tb 0,csl,F,.slice (some ⟨rb,0,none⟩) m cap,I ix,Pt rb ix,asl,undef],defers:=[] } ?_ ?_ hvw
 ·intro i1 j1 oi oj t1 h1 h2 h3 h4 h5 h6
  rw [dst33 i1 h1 oi h3] at h5
  rw [dst33 j1 h2 oj h4] at h6
  have:=Option.some.inj (h5.trans h6.symm)
  omega
 ·intro i1 o1 t1 h1 h2 h3
  rw [dst33 i1 h1 o1 h2] at h3
  have:=Option.some.inj h3
  subst this
  show (6+i1:Nat)<14
  omega
 ·intro i' o rest' listed a w1 hi ho hdep hagr hJ hgo
  have ev:∀ j,j<7→listed.getD j false=true→a.eval (.tmp (6+j))=val33 csl F (.slice (some ⟨rb,0,none⟩) m cap) asl tb rb ix j:=fun j hj hl =>
   hagr.eval hj (o:=ops33[j]'(by have:ops33.size=8:=rfl;omega)) (Array.getElem?_eq_getElem _) hl (dst33 j hj _ (Array.getElem?_eq_getElem _))
  have ev0:∀ t':Nat,t'<6→a.eval (.tmp t')=_:=fun t' ht'=>hagr.eval0 (t:=t') (fun j o hj ho e=>by
   rw [dst33 j hj o ho] at e
   have:(6+j:Nat)=t':=Option.some.inj e
   omega)
  have e0:a.eval (.tmp 0)=Pt tb 0:=ev0 0 (by omega)
  have e1:a.eval (.tmp 1)=Pt p1 0:=ev0 1 (by omega)
  have e2:a.eval (.tmp 2)=Pt p2 0:=ev0 2 (by omega)
  have e3:a.eval (.tmp 3)=Pt p3 0:=ev0 3 (by omega)
  have e4:a.eval (.tmp 4)=Pt p4 0:=ev0 4 (by omega)
  have hw:Region.wanted o (yielded ops33 a.tmps)=true:=by simp [Region.wanted,guard33 i' (by omega) o ho]
  have hrun:(execOp a.eval o).run Tryd.prog v=.ok (.value (val33 csl F (.slice (some ⟨rb,0,none⟩) m cap) asl tb rb ix i')) v:=by
   have hjl:(ix:Int)<(m:Int):=by omega
   match i',hi,ho with
   |0,_,ho=>have hop:=op33 (p:=.move (.tmp 0)) rfl ho;unfold execOp;rw [hop];simp only [e0];simp [go_sem,val33]
   |1,_,ho=>have hop:=op33 (p:=.load 33 (.tmp 1)) rfl ho;unfold execOp;rw [hop];simp only [e1];simp [go_sem,h1,val33]
   |2,_,ho=>have hop:=op33 (p:=.load 101 (.tmp 2)) rfl ho;unfold execOp;rw [hop];simp only [e2];simp [go_sem,h2,val33]
   |3,_,ho=>have hop:=op33 (p:=.load 27 (.tmp 3)) rfl ho;unfold execOp;rw [hop];simp only [e3];simp [go_sem,h3,val33]
   |4,_,ho=>have hop:=op33 (p:=.load 3 (.tmp 4)) rfl ho;unfold execOp;rw [hop];simp only [e4];simp [go_sem,h4,val33]
   |5,_,ho=>have hop:=op33 (p:=.indexAddr 27 (.tmp 9) (.tmp 10)) rfl ho;have l:a.eval (.tmp 9)=.slice (some ⟨rb,0,none⟩) m cap:=ev 3 (by omega) (after33 (by kernel_rfl) ho hdep);have l':a.eval (.tmp 10)=I ix:=ev 4 (by omega) (after33 (by kernel_rfl) ho hdep);unfold execOp;rw [hop];simp only [l,l'];simp [go_sem,val33,hjl]
   |6,_,ho=>have hop:=op33 (p:=.load 31 (.tmp 11)) rfl ho;have l:a.eval (.tmp 11)=Pt rb ix:=ev 5 (by omega) (after33 (by kernel_rfl) ho hdep);unfold execOp;rw [hop];simp only [l];simp [go_sem,h5,val33]
  exact goesI_opZ ho hw (by simp [base]) (fineOps33 i' hi o ho) hJ hn hrun rfl (fun w2 hr2 _=>hgo w2 hr2)
 ·refine ⟨rfl,rfl,fun j o t' hj ho _ hd=>?_,fun t' hne=>?_⟩
  ·rw [dst33 j hj o ho] at hd
   have:(6+j:Nat)=t':=Option.some.inj hd
   subst this
   match j,hj with
   |0,_=>rfl
   |1,_=>rfl
   |2,_=>rfl
   |3,_=>rfl
   |4,_=>rfl
   |5,_=>rfl
   |6,_=>rfl
  ·have hcase:∀ m:Nat,m<7→t'≠6+m:=fun m hm e=>by
    have hs:m<ops33.size:=by have:ops33.size=8:=rfl;omega
    refine hne m (ops33[m]'hs) hm (Array.getElem?_eq_getElem hs) ?_ ((dst33 m hm _ (Array.getElem?_eq_getElem hs)).trans (by rw [e]))
    rw [Array.getD_eq_getD_getElem?,listedN_get hs]
    simp [hm]
   match t',hcase with
   |0,_=>rfl
   |1,_=>rfl
   |2,_=>rfl
   |3,_=>rfl
   |4,_=>rfl
   |5,_=>rfl
   |6,h=>exact absurd rfl (h 0 (by omega))
   |7,h=>exact absurd rfl (h 1 (by omega))
   |8,h=>exact absurd rfl (h 2 (by omega))
   |9,h=>exact absurd rfl (h 3 (by omega))
   |10,h=>exact absurd rfl (h 4 (by omega))
   |11,h=>exact absurd rfl (h 5 (by omega))
   |12,h=>exact absurd rfl (h 6 (by omega))
   |13,_=>rfl
   |m+14,_=>rfl
 ·intro tt w1 hJ
  rw [rest33]
  refine goesI_into (f:=94) (fn:=Tryd.f94) (args:=#[Pt tb 0,csl,F,asl]) (dt_idle _ _) (o:=ops33[7]'(by decide)) rfl rfl (by decide) rfl (by simp [Act.eval]) Tryd.func94 (by decide) rfl ?_
  refine hk w1 _ _ _ _ _ _ _ hJ rfl (fun z Ch Stop w hg=>?_) _ rfl
  refine goesI_regionEnd (dt_idle _ _) ?_
  refine goesI_end (dt_idle _ _) ?_
  refine goesI_leave (b:=base 93) (fn:=Tryd.f93) rfl ?_ Tryd.func93 (fun w=>results_none rfl _ _ _) (fun w=>by simp [results,go_sem]) hoc (dt_idle _ _) hg
  show (Act.put _ _ _).defers=[]
  unfold Act.put
  split<;>rfl
theorem turn50_stuck {z:Nat→Option Nat} {Ch:Nat→Prop} {Stop:Goroutine→World→Prop} {S:TS} {K:List (Nat×Int)} {v w:World} (cs:List Frame) {bc:Frame} {ac:Act} {ops:Array Oper} {q:Nat} {rest:List Nat} {oc:Oper} {k:List Item} (hoc:ops[q]? = some oc)
 (hvw:Rel z v w) (hn:NoRow Ch v) (hm:Mem z S K v) (h8:S.thr.length≤8) (h0:rdyIds S S.thr.length=[]) (hw:waits2 S S.thr.length=true) (hnn:(S.n+1)*40≤140737488355328)
 (hk:∀ v' w' tv,Rel z v' w'→NoRow Ch v'→Evo z S K v (stuckS S tv) K v'→GoesI Tryd.prog true (DT (ScZ z) Ch) Stop (G (bc.at (ac.put oc.dst (.bool true)) (.inRegion ops rest :: k)) cs) w') (code:Code) (hc:Tryd.f125.body=some code) :
 GoesI Tryd.prog true (DT (ScZ z) Ch) Stop (G ((base 125).at { tmps:=#[Pt S.wb 0]++Array.replicate 72 undef,defers:=[] } [.code code]) (bc.at ac (.inRegion ops (q :: rest) :: k) :: cs)) w:=by
 have hw0:code=.seq c500 (.seq c501 (.seq c502 (.seq scan c504))):=by
  obtain rfl:=Option.some.inj hc;rfl
 subst hw0
 clear hc
 simp only [Array.replicate_succ,Array.replicate_zero,List.push_toArray,List.append_toArray,List.nil_append,List.cons_append]
 refine goesI_seq (dt_idle _ _) ?_
 refine goesI_look hE fineM hvw hn fine500 rfl (by simp [base]) (a':={ tmps:=#[Pt S.wb 0,undef,.bool false]++Array.replicate 70 undef,defers:=[] }) (fun τ=>?_) (fun w hvw=>?_)
 ·show Code.wp Tryd.prog (c500) _ _ _
  unfold c500 Tryd.f125 seq1
  simp only [Option.getD_some,Array.replicate_succ,Array.replicate_zero,List.push_toArray,List.append_toArray,List.nil_append,List.cons_append]
  go_wp2_with fail
  exact ⟨rfl,rfl,rfl⟩
 simp only [Array.replicate_succ,Array.replicate_zero,List.push_toArray,List.append_toArray,List.nil_append,List.cons_append]
 refine goesI_seq (dt_idle _ _) ?_
 refine goesI_look hE fineM hvw hn fine501 rfl (by simp [base]) (a':={ tmps:=#[Pt S.wb 0,undef,.bool false,.slice none 0 0]++Array.replicate 69 undef,defers:=[] }) (fun τ=>?_) (fun w hvw=>?_)
 ·show Code.wp Tryd.prog (c501) _ _ _
  unfold c501 Tryd.f125 seq1 seq2
  simp only [Option.getD_some,Array.replicate_succ,Array.replicate_zero,List.push_toArray,List.append_toArray,List.nil_append,List.cons_append]
  go_wp2_with fail
  exact ⟨rfl,rfl,rfl⟩
 simp only [Array.replicate_succ,Array.replicate_zero,List.push_toArray,List.append_toArray,List.nil_append,List.cons_append]
 refine goesI_seq (dt_idle _ _) ?_
 refine goesI_look hE fineM hvw hn fine502 rfl (by simp [base]) (a':={ tmps:=#[Pt S.wb 0,undef,.bool false,.slice none 0 0,.bool false]++Array.replicate 68 undef,defers:=[] }) (fun τ=>?_) (fun w hvw=>?_)
 ·show Code.wp Tryd.prog (c502) _ _ _
  unfold c502 Tryd.f125 seq1 seq2
  simp only [Option.getD_some,Array.replicate_succ,Array.replicate_zero,List.push_toArray,List.append_toArray,List.nil_append,List.cons_append]
  go_wp2_with fail
  exact ⟨rfl,rfl,rfl⟩
 simp only [Array.replicate_succ,Array.replicate_zero,List.push_toArray,List.append_toArray,List.nil_append,List.cons_append]
 refine goesI_seq (dt_idle _ _) ?_
 have hscan:∀ τ,scan.wp Tryd.prog (fun e a w'=>e=.normal∧ScanQ S v a w') { tmps:=#[Pt S.wb 0,undef,.bool false,.slice none 0 0,.bool false]++Array.replicate 68 undef,defers:=[] } (onTape v τ 0):=fun τ=>scan_wp (hm.rep.same (v':=onTape v τ 0) rfl) h8
 simp only [Array.replicate_succ,Array.replicate_zero,List.push_toArray,List.append_toArray,List.nil_append,List.cons_append] at hscan
 refine goesI_plain (c:=scan) (z:=z) (wr:=true) (L:=LM) (I:=NoRow Ch) hE fineM noRow_keeps (fun v v' w w' es hi hr ho he=>dt_of_z v v' w w' es hi hr ho he) hvw fineScan rfl (by simp [base]) hn hscan ?_
 rintro a' v1 w1 ⟨⟨lv,⟨u6,u8,u9,u10,u11,u12,u13,u14,u15,u16,u17,u18,u19,u20,u21,u22,u23,u24,u25,u26,u27,u28,u29,u30,u31,rfl⟩,hown⟩,hsz,hbl,hos,hou⟩ hr1 hn1 -
 have hg:Grows v v1:=⟨hsz,hbl,hos,hou⟩
 have he1:=hm.grows hg
 obtain ⟨p,cap,rfl⟩:=own_form hown
 have hc504:c504=.seq c510 (.seq pick15 (.seq last16 (.seq state17 c518))):=rfl
 rw [hc504]
 clear hscan
 rw [h0,hw]
 simp only [List.length_nil]
 refine goesI_seq (dt_idle _ _) ?_
 have hst:=fun τ=>stuck_wp (he1.mem.rep.same (v':=onTape v1 τ 0) rfl) hnn p cap u6 u8 u9 u10 u11 u12 u13 u14 u15 u16 u17 u18 u19 u20 u21 u22 u23 u24 u25 u26 u27 u28 u29 u30 u31
 refine goesI_outZ (f:=125) (fn:=Tryd.f125) (c:=c510) hE fineM hr1 hn1 Tryd.func125 fine510 rfl hoc (R:=fun x w'=>x=.bool true∧∃ tv,Ev z S v1 (stuckS S tv) w') (fun τ=>wp_mono (hst τ) (fun e a w' hq=>by obtain ⟨h1,x,h2,h3,tv,h4⟩:=hq;exact ⟨h1,x,h2,h3,tv,h4.base rfl rfl rfl⟩)) ?_
 rintro x v2 w2 ⟨rfl,tv,hev⟩ hr2 hn2
 exact hk v2 w2 tv hr2 hn2 (he1.trans (Evo.of_ev he1.mem hev rfl))
theorem turn50_end {z:Nat→Option Nat} {Ch:Nat→Prop} {Stop:Goroutine→World→Prop} {S:TS} {K:List (Nat×Int)} {v w:World} (cs:List Frame) {bc:Frame} {ac:Act} {ops:Array Oper} {q:Nat} {rest:List Nat} {oc:Oper} {k:List Item} (hoc:ops[q]? = some oc)
 (hvw:Rel z v w) (hn:NoRow Ch v) (hm:Mem z S K v) (h8:S.thr.length≤8) (h0:rdyIds S S.thr.length=[]) (hw:waits2 S S.thr.length=false)
 (hk:∀ v' w',Rel z v' w'→NoRow Ch v'→Evo z S K v S K v'→GoesI Tryd.prog true (DT (ScZ z) Ch) Stop (G (bc.at (ac.put oc.dst (.bool false)) (.inRegion ops rest :: k)) cs) w') (code:Code) (hc:Tryd.f125.body=some code) :
 GoesI Tryd.prog true (DT (ScZ z) Ch) Stop (G ((base 125).at { tmps:=#[Pt S.wb 0]++Array.replicate 72 undef,defers:=[] } [.code code]) (bc.at ac (.inRegion ops (q :: rest) :: k) :: cs)) w:=by
 have hw0:code=.seq c500 (.seq c501 (.seq c502 (.seq scan c504))):=by
  obtain rfl:=Option.some.inj hc;rfl
 subst hw0
 clear hc
 simp only [Array.replicate_succ,Array.replicate_zero,List.push_toArray,List.append_toArray,List.nil_append,List.cons_append]
 refine goesI_seq (dt_idle _ _) ?_
 refine goesI_look hE fineM hvw hn fine500 rfl (by simp [base]) (a':={ tmps:=#[Pt S.wb 0,undef,.bool false]++Array.replicate 70 undef,defers:=[] }) (fun τ=>?_) (fun w hvw=>?_)
 ·show Code.wp Tryd.prog (c500) _ _ _
  unfold c500 Tryd.f125 seq1
  simp only [Option.getD_some,Array.replicate_succ,Array.replicate_zero,List.push_toArray,List.append_toArray,List.nil_append,List.cons_append]
  go_wp2_with fail
  exact ⟨rfl,rfl,rfl⟩
 simp only [Array.replicate_succ,Array.replicate_zero,List.push_toArray,List.append_toArray,List.nil_append,List.cons_append]
 refine goesI_seq (dt_idle _ _) ?_
 refine goesI_look hE fineM hvw hn fine501 rfl (by simp [base]) (a':={ tmps:=#[Pt S.wb 0,undef,.bool false,.slice none 0 0]++Array.replicate 69 undef,defers:=[] }) (fun τ=>?_) (fun w hvw=>?_)
 ·show Code.wp Tryd.prog (c501) _ _ _
  unfold c501 Tryd.f125 seq1 seq2
  simp only [Option.getD_some,Array.replicate_succ,Array.replicate_zero,List.push_toArray,List.append_toArray,List.nil_append,List.cons_append]
  go_wp2_with fail
  exact ⟨rfl,rfl,rfl⟩
 simp only [Array.replicate_succ,Array.replicate_zero,List.push_toArray,List.append_toArray,List.nil_append,List.cons_append]
 refine goesI_seq (dt_idle _ _) ?_
 refine goesI_look hE fineM hvw hn fine502 rfl (by simp [base]) (a':={ tmps:=#[Pt S.wb 0,undef,.bool false,.slice none 0 0,.bool false]++Array.replicate 68 undef,defers:=[] }) (fun τ=>?_) (fun w hvw=>?_)
 ·show Code.wp Tryd.prog (c502) _ _ _
  unfold c502 Tryd.f125 seq1 seq2
  simp only [Option.getD_some,Array.replicate_succ,Array.replicate_zero,List.push_toArray,List.append_toArray,List.nil_append,List.cons_append]
  go_wp2_with fail
  exact ⟨rfl,rfl,rfl⟩
 simp only [Array.replicate_succ,Array.replicate_zero,List.push_toArray,List.append_toArray,List.nil_append,List.cons_append]
 refine goesI_seq (dt_idle _ _) ?_
 have hscan:∀ τ,scan.wp Tryd.prog (fun e a w'=>e=.normal∧ScanQ S v a w') { tmps:=#[Pt S.wb 0,undef,.bool false,.slice none 0 0,.bool false]++Array.replicate 68 undef,defers:=[] } (onTape v τ 0):=fun τ=>scan_wp (hm.rep.same (v':=onTape v τ 0) rfl) h8
 simp only [Array.replicate_succ,Array.replicate_zero,List.push_toArray,List.append_toArray,List.nil_append,List.cons_append] at hscan
 refine goesI_plain (c:=scan) (z:=z) (wr:=true) (L:=LM) (I:=NoRow Ch) hE fineM noRow_keeps (fun v v' w w' es hi hr ho he=>dt_of_z v v' w w' es hi hr ho he) hvw fineScan rfl (by simp [base]) hn hscan ?_
 rintro a' v1 w1 ⟨⟨lv,⟨u6,u8,u9,u10,u11,u12,u13,u14,u15,u16,u17,u18,u19,u20,u21,u22,u23,u24,u25,u26,u27,u28,u29,u30,u31,rfl⟩,hown⟩,hsz,hbl,hos,hou⟩ hr1 hn1 -
 have hg:Grows v v1:=⟨hsz,hbl,hos,hou⟩
 have he1:=hm.grows hg
 obtain ⟨p,cap,rfl⟩:=own_form hown
 have hc504:c504=.seq c510 (.seq pick15 (.seq last16 (.seq state17 c518))):=rfl
 rw [hc504]
 clear hscan
 rw [h0,hw]
 simp only [List.length_nil]
 refine goesI_seq (dt_idle _ _) ?_
 have hst:=fun τ=>end_wp (S:=S) (v:=onTape v1 τ 0) p cap u6 u8 u9 u10 u11 u12 u13 u14 u15 u16 u17 u18 u19 u20 u21 u22 u23 u24 u25 u26 u27 u28 u29 u30 u31
 refine goesI_outZ (f:=125) (fn:=Tryd.f125) (c:=c510) hE fineM hr1 hn1 Tryd.func125 fine510 rfl hoc (R:=fun x w'=>x=.bool false∧w'.heap=v1.heap∧w'.os=v1.os∧w'.output=v1.output) (fun τ=>wp_mono (hst τ) (fun e a w' hq=>by obtain ⟨h1,x,h2,h3,h4⟩:=hq;subst h4;exact ⟨h1,x,h2,h3,rfl,rfl,rfl⟩)) ?_
 rintro x v2 w2 ⟨rfl,q1,q2,q3⟩ hr2 hn2
 exact hk v2 w2 hr2 hn2 (he1.same q1 q2 q3)
end Go.Proofs.YtfjjoohflcchnaaDoor
