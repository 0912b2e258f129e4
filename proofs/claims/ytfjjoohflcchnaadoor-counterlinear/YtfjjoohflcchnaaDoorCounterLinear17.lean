/- CounterLinear, part 17 of 24: GLinE, La13a, GWb, GFree, CtF, CtG, CtH, La15a, La15b, La15c, La15d, La15e, GMeasF, GViewF, GMetC, CtV. -/
import Derived.Test.YtfjjoohflcchnaaDoorCounterLinear01
import Derived.Test.YtfjjoohflcchnaaDoorCounterLinear04
import Derived.Test.YtfjjoohflcchnaaDoorCounterLinear05
import Derived.Test.YtfjjoohflcchnaaDoorCounterLinear09
import Derived.Test.YtfjjoohflcchnaaDoorCounterLinear10
import Derived.Test.YtfjjoohflcchnaaDoorCounterLinear12
import Derived.Test.YtfjjoohflcchnaaDoorCounterLinear13
import Derived.Test.YtfjjoohflcchnaaDoorCounterLinear14
import Derived.Test.YtfjjoohflcchnaaDoorCounterLinear15
import Derived.Test.YtfjjoohflcchnaaDoorCounterLinear16
import Derived.BigQuiet
import Derived.Deep.RegionHeld3
import Derived.BigRegion
import Derived.Deep.RegionLaw
import Derived.Deep.RegionWith
set_option linter.unusedSimpArgs false
set_option linter.unusedVariables false
set_option maxHeartbeats 4000000
set_option maxRecDepth 100000
noncomputable section
namespace Go.Proofs.YtfjjoohflcchnaaDoor.Gen
open Go Go.Lift Go.Conc Go.RowKit
open Go.Proofs.YtfjjoohflcchnaaDoor.His
open Go.ConcN (upd upd_same upd_ne)
variable {N n:Nat} {cl:Nat->List Cl} {an:Nat->List (Int×Int)} {L:List Stp} {W:World}
theorem flat_inj:∀ {L L':List Stp},flat L=flat L'->L=L'
 | [],[],_=>rfl
 | [],_ :: _,h=>by simp[flat] at h
 |_ :: _,[],h=>by simp[flat] at h
 |⟨a1,a2,a3,a4,a5⟩ :: l,⟨b1,b2,b3,b4,b5⟩ :: l',h=>by simp only[flat,List.flatMap_cons,List.cons_append,List.nil_append,List.cons.injEq,Value.int.injEq,true_and] at h;obtain ⟨rfl,rfl,rfl,rfl,rfl,h⟩:=h;rw[flat_inj (L:=l) (L':=l') h]
def sumG (f:Nat->Nat):Nat->Nat
 |0=>0
 |n+1=>sumG f n+f n
theorem sumG_same {f g:Nat->Nat}:∀ (n:Nat),(∀ i,i<n->f i=g i)->sumG f n=sumG g n
 |0,_=>rfl
 |n+1,h=>by rw[sumG,sumG,sumG_same n (λi hi=>h i (by omega)),h n (by omega)]
theorem sumG_one {f g:Nat->Nat}{j d:Nat}(hj:g j=f j+d) (ho:∀ i,i≠j->g i=f i):∀ (n:Nat),j<n->sumG g n=sumG f n+d
 |0,h=>absurd h (Nat.not_lt_zero _)
 |n+1,h=>by
  rw[sumG,sumG];by_cases e:j=n
  .subst e
   rw[sumG_same (f:=g) (g:=f) j (λi hi=>ho i (by omega)),hj];omega
  rw[sumG_one hj ho n (by omega),ho n (λx=>e x.symm)];omega
theorem sumG_le {f g:Nat->Nat}:∀ (n:Nat),(∀ i,i<n->f i<=g i)->sumG f n<=sumG g n
 |0,_=>Qi _
 |n+1,h=>by have:=sumG_le n (λi hi=>h i (by omega));have:=h n (by omega);show sumG f n+f n<=sumG g n+g n;omega
theorem ev_len {E:List His.Ev}{id:Nat->Nat}(h:Ev9 cl an L E id):Fit9 N cl an L->E.length=sumG (λi=>(nt L i+1) / 2) N:=by
 have one:∀ {L:List Stp} {i k:Nat} {a:Int},i<N->nt L i=2*k+1->sumG (λj=>(nt (L++[⟨i,-1,10,k,a⟩]) j+1) / 2) N=sumG (λj=>(nt L j+1) / 2) N:=λ{L i k a} hi hn=>sumG_same N λj _=>by by_cases e:j=i;subst e;rw[nt_own _ _ _ _ (.inr rfl)];omega;rw[nt_oth _ e]
 induction h with
 |nil =>
  intro _;rw[sumG_same (g:=λ_=>0) N (λi _=>by simp[nt])];have:∀ n,sumG (λ_=>0) n=0:=λn=>by induction n with|zero=>rfl|succ n ih=>rw[sumG,ih]
  rw[this];rfl
 |@other L x E id h h9 h10 ih =>intro hF;rw[ih (fit_last hF _ _ rfl).1];exact sumG_same N λi _=>by rw[nt_no h9 h10]
 |@beg L E id i k c h hn hc ih =>
  intro hF;obtain ⟨hF,hi⟩:=fit_last hF _ _ rfl;obtain ⟨j,hj,hi⟩:=hi (.inl rfl);have hj:(i:Int)=j:=hj;obtain rfl:i=j:=by omega
  rw[Qj,List.length_singleton,ih hF];exact (sumG_one (j:=i) (d:=1) (by rw[nt_own _ _ _ _ (.inl rfl),hn];omega) (λj hj=>by rw[nt_oth _ hj]) N hi).symm
 |@stuck L E id i k a h hn ha h4 ih =>
  intro hF;obtain ⟨hF,hi⟩:=fit_last hF _ _ rfl;obtain ⟨j,hj,hi⟩:=hi (.inr rfl);have hj:(i:Int)=j:=hj;obtain rfl:i=j:=by omega
  rw[ih hF,one hi hn]
 |@fin L E id i k a e h hn ha h4 he ih =>
  intro hF;obtain ⟨hF,hi⟩:=fit_last hF _ _ rfl;obtain ⟨j,hj,hi⟩:=hi (.inr rfl);have hj:(i:Int)=j:=hj;obtain rfl:i=j:=by omega
  rw[List.length_set,ih hF,one hi hn]
theorem fit_nt (h:Fit9 N cl an L):∀ i,nt L i<=2*(cl i).length:=by
 induction h with
 |nil=>intro i;simp[nt]
 |other h h9 h10 ih=>intro i;rw[nt_no h9 h10];exact ih i
 |@beg L i k h hi hn hk h4 ih =>intro j;by_cases e:j=i;subst e;rw[nt_own _ _ _ _ (.inl rfl)];omega;rw[nt_oth _ e];exact ih j
 |@fin L i k a h hi hn hk ha ih =>intro j;by_cases e:j=i;subst e;rw[nt_own _ _ _ _ (.inr rfl)];omega;rw[nt_oth _ e];exact ih j
theorem sumL_sc (N:Nat) (cl:Nat->List Cl):∀ k,k<=N->R3.sumL (scL N cl) k=sumG (λi=>(cl i).length) k
 |0,_=>rfl
 |k+1,h=>by rw[R3.sumL,sumG,sumL_sc N cl k (by omega),scL_get cl (by omega),List.length_map]
theorem ev_le {E:List His.Ev}{id:Nat->Nat}(h:Ev9 cl an L E id) (hF:Fit9 N cl an L):E.length<=R3.sumL (scL N cl) (scL N cl).length:=by rw[scL_len,sumL_sc N cl N (Qi _),ev_len h hF];exact sumG_le N λi _=>by have:=fit_nt hF i;omega
theorem SLw_grows {α:Type}{enc:α->List Value}{w w':World}{v:Value}{l:List α}(hg:Grows w w') (h:R3.SLw n enc w v l):R3.SLw n enc w' v l:=by obtain ⟨p,cap,rfl,h1,h2,h3⟩:=h;refine ⟨p,cap,rfl,h1,h2,λi a hi=>?_⟩;obtain ⟨blk,off,e,hlt,hr⟩:=h3 i a hi;exact ⟨blk,off,e,Qp hlt hg.size,λj u hj=>hg.cell (hr j u hj)⟩
theorem SSw_grows {α:Type}{enc:α->List Value}{w w':World}{v:Value}{ll:List (List α)}(hg:Grows w w') (h:R3.SSw n enc w v ll):R3.SSw n enc w' v ll:=by obtain ⟨p,cap,rfl,h1,h2,h3⟩:=h;refine ⟨p,cap,rfl,h1,h2,λi l hi=>?_⟩;obtain ⟨blk,off,vi,e,hc,hs⟩:=h3 i l hi;exact ⟨blk,off,vi,e,hg.cell hc,SLw_grows hg hs⟩
theorem ss_scripts {p:Option Addr}{b o cap:Nat}{pc:Nat->Option Addr}{ln cp rb:Nat->Nat}(h:InS W p b o n pc ln cp rb cl) (h64:∀ j,j<n->ln j<=64) (hn:n<=8):R3.SSw 4 R3.callL W (.slice p n cap) (scL n cl):=by
 refine ⟨p,cap,by rw[scL_len],by rw[scL_len];omega,Qi _,λi l hi=>?_⟩;have hin:i<n:=by have:=(Qc hi).1;rwa [scL_len] at this
 obtain rfl:l=(cl i).map toCall:=by simpa [scL,hin] using hi.symm
 refine ⟨b,o,_,h.at_ (by omega),h.row i hin,pc i,cp i,by rw[List.length_map,h.len i hin],by rw[List.length_map,h.len i hin];have:=h64 i hin;omega,Qi _,λk a hk=>?_⟩;rw[List.getElem?_map] at hk;cases hc:(cl i)[k]? with
 |none=>rw[hc] at hk;cases hk
 |some c =>
  rw[hc] at hk;obtain rfl:toCall c=a:=by simpa using hk
  have hl:0<ln i:=by have:=(Qc hc).1;rw[h.len i hin] at this;omega
  obtain ⟨c0,c1,c2,c3⟩:=h.call i hin k c hc;refine ⟨rb i,roOf (pc i),h.pq i hin hl,World.block_lt_of_cell? _ _ c0,λj u hj=>?_⟩
  match j,hj with
  |0,hj=>cases hj;exact c0
  |1,hj=>cases hj;exact c1
  |2,hj=>cases hj;exact c2
  |3,hj=>cases hj;exact c3
  |j+4,hj=>simp[R3.callL] at hj
theorem ss_answers {M:Nat}{A ln:Nat->Nat}{l:Nat->Ph}{t:TypeId}(h64:∀ j,j<n->ln j<=64) (hn:n<=8) (hrow:∀ j,j<n->W.cell? ⟨M,j,none⟩=some (.slice (some ⟨A j,0,none⟩) (ln j) (ln j))) (hans:∀ j,j<n->(l j).ans.length=ln j∧(0<ln j->W.heap[A j]? = some (.cells (arow (l j).ans).toArray t (0,0)))):
 R3.SSw 2 R3.ansL W (.slice (some ⟨M,0,none⟩) n n) (anL n λi=>(l i).ans):=by
 refine ⟨some ⟨M,0,none⟩,n,by rw[anL_len],by rw[anL_len];omega,Qi _,λi a hi=>?_⟩;have hin:i<n:=by have:=(Qc hi).1;rwa [anL_len] at this
 obtain rfl:a=(l i).ans:=by simpa [anL,hin] using hi.symm
 refine ⟨M,0,_,rfl,by rw[Nat.zero_add];exact hrow i hin,some ⟨A i,0,none⟩,ln i,by rw[(hans i hin).1],by rw[(hans i hin).1];have:=h64 i hin;omega,Qi _,λk q hk=>?_⟩;have hl:0<ln i:=by have:=(Qc hk).1;rw[(hans i hin).1] at this;omega
 have hb:=(hans i hin).2 hl;obtain ⟨a0,a1⟩:=arow_get _ _ _ hk;have c0:W.cell? ⟨A i,k*2,none⟩=some (I q.1):=cell_of hb (by rw[List.getElem?_toArray];exact a0);have c1:W.cell? ⟨A i,k*2+1,none⟩=some (I q.2):=cell_of hb (by rw[List.getElem?_toArray];exact a1);refine ⟨A i,0,rfl,World.block_lt_of_cell? _ _ c0,λj u hj=>?_⟩;rw[Nat.zero_add]
 match j,hj with
 |0,hj=>cases hj;exact c0
 |1,hj=>cases hj;exact c1
 |j+2,hj=>simp[R3.ansL] at hj
theorem sl_trace {p:Option Addr}{g cap m:Nat}(hm:m=L.length) (hs:m<=400000) (hp:0<m->p=some ⟨g,0,none⟩) (hc:∀ j u,(flat L)[j]? = some u->W.cell? ⟨g,j,none⟩=some u):R3.SLw 5 R3.stepL W (.slice p m cap) (L.map toStep):=by
 subst hm;refine ⟨p,cap,by rw[List.length_map],by rw[List.length_map];omega,Qi _,λi a hi=>?_⟩;rw[List.getElem?_map] at hi;cases hs:L[i]? with
 |none=>rw[hs] at hi;cases hi
 |some s =>
  rw[hs] at hi;obtain rfl:toStep s=a:=by simpa using hi
  have hl:=(Qc hs).1;obtain ⟨f0,f1,f2,f3,f4⟩:=flat_get L i s hs;refine ⟨g,0,hp (by omega),World.block_lt_of_cell? _ _ (hc _ _ f0),λj u hj=>?_⟩;rw[Nat.zero_add]
  match j,hj with
  |0,hj=>cases hj;exact hc _ _ f0
  |1,hj=>cases hj;exact hc _ _ f1
  |2,hj=>cases hj;exact hc _ _ f2
  |3,hj=>cases hj;exact hc _ _ f3
  |4,hj=>cases hj;exact hc _ _ f4
  |j+5,hj=>simp[R3.stepL] at hj
end Go.Proofs.YtfjjoohflcchnaaDoor.Gen
namespace Go.Proofs.YtfjjoohflcchnaaDoor.Gen
open Go Go.Lift Go.Conc Go.RowKit
variable {u v v' w:World} {a:Act} {E n0:Int} {j k s wb:Nat} {an sc:Value} {S:TS} {mc:Mc} {xs:List Int}
def LB13:Code:=Tryd.f13.body.getD .skip
def l13a:Code:=seq1 (seq2 (seq2 LB13))
def l13b:Code:=seq1 (seq2 (seq2 (seq2 LB13)))
def l13c:Code:=seq1 (seq2 (seq2 (seq2 (seq2 LB13))))
def l13d:Code:=seq1 (seq2 (seq2 (seq2 (seq2 (seq2 LB13)))))
def l13e:Code:=(seq2 (seq2 (seq2 (seq2 (seq2 (seq2 LB13))))))
def P13:Code:=.seq l13a (.seq l13b (.seq l13c (.seq l13d l13e)))
theorem eLB13:LB13=.seq (seq1 LB13) (.seq (seq1 (seq2 LB13)) P13):=by kernel_rfl
theorem l13c_wp  (hA:Fl 43 [(1,I n0),(2,sc),(8,Pt wb 0),(9,an),(7,.bool true),(10,I 0)] a):l13c.wp Tryd.prog (λe a' w'=>e=.normal∧Fl 43 [(1,I n0),(2,sc),(8,Pt wb 0),(9,an)] a'∧w'.heap=v.heap∧w'.os=v.os∧w'.output=v.output) a v:=by
 obtain ⟨hsz,hd,hp⟩:=hA;obtain ⟨u,rfl,hg⟩:=litN hsz hd;simp only[List.forall_mem_cons,hg] at hp;obtain ⟨u1,u2,u8,u9,u7,u10,-⟩:=hp;clear hg hsz hd;unfold l13c LB13 Tryd.f13 seq2 seq1;simp only[Qa,lits,Nat.reduceAdd,u1,u2,u8,u9,u7,u10];clear u1 u2 u8 u9 u7 u10;go_wp2_with fail;first
  |exact ⟨rfl,rfl,by
    intro p hp;simp only[Sm,or_false] at hp;rcases hp with rfl|rfl|rfl|rfl<;>rfl⟩
  |exact ⟨⟨rfl,rfl,by
    intro p hp;simp only[Sm,or_false] at hp;rcases hp with rfl|rfl|rfl|rfl<;>rfl⟩,rfl⟩
  |exact ⟨⟨rfl,rfl,by
    intro p hp;simp only[Sm,or_false] at hp;rcases hp with rfl|rfl|rfl|rfl<;>rfl⟩,rfl,rfl⟩
  |exact ⟨⟨rfl,rfl,by
    intro p hp;simp only[Sm,or_false] at hp;rcases hp with rfl|rfl|rfl|rfl<;>rfl⟩,rfl,rfl,rfl⟩
  |exact ⟨⟨rfl,rfl,by
    intro p hp;simp only[Sm,or_false] at hp;rcases hp with rfl|rfl|rfl|rfl<;>rfl⟩,rfl,rfl,rfl,rfl⟩
  |exact ⟨⟨rfl,rfl,by
    intro p hp;simp only[Sm,or_false] at hp;rcases hp with rfl|rfl|rfl|rfl<;>rfl⟩,rfl,rfl,rfl,rfl,rfl⟩
theorem l13c_wpa (h1:E=1) (hA:Fl 43 [(1,I n0),(2,sc),(8,Pt wb 0),(9,an),(7,.bool true),(10,I E)] a):l13c.wp Tryd.prog (λe a' w'=>e=.ret∧Fl 43 [(6,.bool true)] a'∧w'.heap=v.heap∧w'.os=v.os∧w'.output=v.output) a v:=by
 obtain ⟨hsz,hd,hp⟩:=hA;obtain ⟨u,rfl,hg⟩:=litN hsz hd;simp only[List.forall_mem_cons,hg] at hp;obtain ⟨u1,u2,u8,u9,u7,u10,-⟩:=hp;clear hg hsz hd;subst h1;unfold l13c LB13 Tryd.f13 seq2 seq1;simp only[Qa,lits,Nat.reduceAdd,u1,u2,u8,u9,u7,u10];clear u1 u2 u8 u9 u7 u10;go_wp2_with fail;first
  |exact ⟨rfl,rfl,by
    intro p hp;simp only[Sm,or_false] at hp;rcases hp with rfl<;>rfl⟩
  |exact ⟨⟨rfl,rfl,by
    intro p hp;simp only[Sm,or_false] at hp;rcases hp with rfl<;>rfl⟩,rfl⟩
  |exact ⟨⟨rfl,rfl,by
    intro p hp;simp only[Sm,or_false] at hp;rcases hp with rfl<;>rfl⟩,rfl,rfl⟩
  |exact ⟨⟨rfl,rfl,by
    intro p hp;simp only[Sm,or_false] at hp;rcases hp with rfl<;>rfl⟩,rfl,rfl,rfl⟩
  |exact ⟨⟨rfl,rfl,by
    intro p hp;simp only[Sm,or_false] at hp;rcases hp with rfl<;>rfl⟩,rfl,rfl,rfl,rfl⟩
  |exact ⟨⟨rfl,rfl,by
    intro p hp;simp only[Sm,or_false] at hp;rcases hp with rfl<;>rfl⟩,rfl,rfl,rfl,rfl,rfl⟩
theorem l13c_wpb (h1:E=2) (hA:Fl 43 [(1,I n0),(2,sc),(8,Pt wb 0),(9,an),(7,.bool true),(10,I E)] a):l13c.wp Tryd.prog (λe a' w'=>e=.ret∧Fl 43 [(6,.bool true)] a'∧w'.heap=v.heap∧w'.os=v.os∧w'.output=v.output) a v:=by
 obtain ⟨hsz,hd,hp⟩:=hA;obtain ⟨u,rfl,hg⟩:=litN hsz hd;simp only[List.forall_mem_cons,hg] at hp;obtain ⟨u1,u2,u8,u9,u7,u10,-⟩:=hp;clear hg hsz hd;subst h1;unfold l13c LB13 Tryd.f13 seq2 seq1;simp only[Qa,lits,Nat.reduceAdd,u1,u2,u8,u9,u7,u10];clear u1 u2 u8 u9 u7 u10;go_wp2_with fail;first
  |exact ⟨rfl,rfl,by
    intro p hp;simp only[Sm,or_false] at hp;rcases hp with rfl<;>rfl⟩
  |exact ⟨⟨rfl,rfl,by
    intro p hp;simp only[Sm,or_false] at hp;rcases hp with rfl<;>rfl⟩,rfl⟩
  |exact ⟨⟨rfl,rfl,by
    intro p hp;simp only[Sm,or_false] at hp;rcases hp with rfl<;>rfl⟩,rfl,rfl⟩
  |exact ⟨⟨rfl,rfl,by
    intro p hp;simp only[Sm,or_false] at hp;rcases hp with rfl<;>rfl⟩,rfl,rfl,rfl⟩
  |exact ⟨⟨rfl,rfl,by
    intro p hp;simp only[Sm,or_false] at hp;rcases hp with rfl<;>rfl⟩,rfl,rfl,rfl,rfl⟩
  |exact ⟨⟨rfl,rfl,by
    intro p hp;simp only[Sm,or_false] at hp;rcases hp with rfl<;>rfl⟩,rfl,rfl,rfl,rfl,rfl⟩
theorem l13c_no (h1:E=1∨E=2) (hA:Fl 43 [(1,I n0),(2,sc),(8,Pt wb 0),(9,an),(7,.bool true),(10,I E)] a):l13c.wp Tryd.prog (λe a' w'=>e=.ret∧Fl 43 [(6,.bool true)] a'∧w'.heap=v.heap∧w'.os=v.os∧w'.output=v.output) a v:=h1.elim (λh=>l13c_wpa h hA) (λh=>l13c_wpb h hA)
theorem l13a_wp {s1 s2:Value}(p:Option Addr) (cap vb vo:Nat) (xs:List Int) (hp:0<xs.length->p=some ⟨vb,vo,none⟩) (hx1:xs.length<=17592186043904) (hv:∀ k x,xs[k]? = some x->v.cell? ⟨vb,vo+k,none⟩=some (I x)) (hA:Fl 43 [(0,.slice p xs.length cap),(1,s1),(2,s2),(7,.bool true)] a):
 l13a.wp Tryd.prog (λe a w'=>e=.normal∧∃ wb bk sc,Fl 43 [(1,s1),(2,s2),(7,.bool true),(8,Pt wb 0)] a∧IsNew v xs wb bk sc w') a v:=by
 have H7:Hid (Calls Tryd.prog 17 #[.slice p xs.length cap] v _):=⟨(body7A p vb vo cap xs hp hx1 hv).calls Tryd.func17 rfl⟩
 clear hp hx1 hv;obtain ⟨hsz,hd,hp⟩:=hA;obtain ⟨u,rfl,hg⟩:=litN hsz hd;have u0:=(hg 0).symm.trans (hp (0,.slice p xs.length cap) (by simp));have u1:=(hg 1).symm.trans (hp (1,s1) (by simp));have u2:=(hg 2).symm.trans (hp (2,s2) (by simp));have u7:=(hg 7).symm.trans (hp (7,.bool true) (by simp));clear hg hp hsz hd;unfold l13a LB13 Tryd.f13 seq2 seq1;simp only[Qa,lits,Nat.reduceAdd,u0,u1,u2,u7];clear u0 u1 u2 u7
 go_wp2_with (first
  |(go_at_call 17;refine H7.out.mono ?_;rintro e w1 ⟨_,rfl,wb,bk,sc,rfl,hnew⟩))
 first
  |exact ⟨wb,bk,sc,⟨rfl,rfl,by
    intro p hp;simp only[Sm,or_false] at hp;rcases hp with rfl|rfl|rfl|rfl<;>rfl⟩,hnew⟩
  |exact ⟨wb,⟨rfl,rfl,by
    intro p hp;simp only[Sm,or_false] at hp;rcases hp with rfl|rfl|rfl|rfl<;>rfl⟩,bk,sc,hnew⟩
theorem l13d_wp {z:Nat->Option Nat}(hR:Rep z S v) (hn:S.n*40<=140737488355328) (h1:∀ u∈S.tr,u.oneCell'=true) (hA:Fl 43 [(1,I n0),(2,sc),(8,Pt S.wb 0),(9,an)] a):
 l13d.wp Tryd.prog (λe a w'=>e=.normal∧∃ p g cap,Fl 43 [(1,I n0),(2,sc),(8,Pt S.wb 0),(9,an),(11,.slice p S.n cap)] a∧(0<S.n->p=some ⟨g,0,none⟩∧v.heap.size<=g)∧(∀ j u,S.tr[j]? = some u->w'.cell? ⟨g,j,none⟩=some u)∧Grows v w') a v:=by
 have H9:Hid (Calls Tryd.prog 23 #[Pt S.wb 0] v _):=⟨(body9A hR hn h1).calls Tryd.func23 rfl⟩
 clear hR hn h1;obtain ⟨hsz,hd,hp⟩:=hA;obtain ⟨u,rfl,hg⟩:=litN hsz hd;have u1:=(hg 1).symm.trans (hp (1,I n0) (by simp));have u2:=(hg 2).symm.trans (hp (2,sc) (by simp));have u8:=(hg 8).symm.trans (hp (8,Pt S.wb 0) (by simp));have u9:=(hg 9).symm.trans (hp (9,an) (by simp));clear hg hp hsz hd;unfold l13d LB13 Tryd.f13 seq2 seq1;simp only[Qa,lits,Nat.reduceAdd,u1,u2,u8,u9];clear u1 u2 u8 u9
 go_wp2_with (first
  |(go_at_call 23;refine H9.out.mono ?_;rintro e w1 ⟨_,rfl,p,g,cap,rfl,k1,k2,k3⟩))
 first
  |exact ⟨p,g,cap,⟨rfl,rfl,by
    intro p hp;simp only[Sm,or_false] at hp;rcases hp with rfl|rfl|rfl|rfl|rfl<;>rfl⟩,k1,k2,k3⟩
  |exact ⟨p,⟨cap,⟨rfl,rfl,by
    intro p hp;simp only[Sm,or_false] at hp;rcases hp with rfl|rfl|rfl|rfl|rfl<;>rfl⟩⟩,g,k1,k2⟩
  |exact ⟨p,⟨cap,⟨rfl,rfl,by
    intro p hp;simp only[Sm,or_false] at hp;rcases hp with rfl|rfl|rfl|rfl|rfl<;>rfl⟩⟩,g,k1,k2,k3⟩
theorem l13e_wp {tv:Value}(H:Calls Tryd.prog 24 #[I 3,I 0,I 2,sc,an,tv] v λe w'=>e=.returned (.bool true)∧Below v.heap.size v w') (hA:Fl 43 [(1,I n0),(2,sc),(9,an),(11,tv)] a):
 l13e.wp Tryd.prog (λe a w'=>e=.ret∧Fl 43 [(6,.bool true)] a∧Below v.heap.size v w') a v:=by
 have H9:Hid (Calls Tryd.prog 24 #[I 3,I 0,I 2,sc,an,tv] v _):=⟨H⟩
 clear H;obtain ⟨hsz,hd,hp⟩:=hA;obtain ⟨u,rfl,hg⟩:=litN hsz hd;have u1:=(hg 1).symm.trans (hp (1,I n0) (by simp));have u2:=(hg 2).symm.trans (hp (2,sc) (by simp));have u9:=(hg 9).symm.trans (hp (9,an) (by simp));have u11:=(hg 11).symm.trans (hp (11,tv) (by simp));clear hg hp hsz hd;unfold l13e LB13 Tryd.f13 seq2;simp only[Qa,lits,Nat.reduceAdd,u1,u2,u9,u11];clear u1 u2 u9 u11
 go_wp2_with (first
  |(go_at_call 24;refine H9.out.mono ?_;rintro e w1 ⟨rfl,k3⟩))
 exact ⟨rfl,rfl,by
  intro p hp;simp only[Sm,or_false] at hp;rcases hp with rfl<;>rfl⟩
theorem fine_l13c:fineCode Tryd.prog true LV l13c:=fineCode_askS callV extT (by kernel_rfl)
theorem fine_l13a:fineCode Tryd.prog true LV l13a:=fineCode_askS callV extT (by kernel_rfl)
theorem fine_l13d:fineCode Tryd.prog true LV l13d:=fineCode_askS callV extT (by kernel_rfl)
theorem fine_l13e:fineCode Tryd.prog true LX3 l13e:=fineCode_askS callX3 extT (by kernel_rfl)
theorem gx_same (e:v'.heap=v.heap) (e1:v'.os=v.os) (e2:v'.output=v.output):Grows v v':=⟨by rw[e];exact Qi _,λb _=>by rw[e],e1,e2⟩
def P13s:Code:=.seq l13d l13e
theorem eP13:P13=.seq l13a (.seq l13b (.seq l13c P13s)):=rfl
theorem law13_in {Ch:Nat->Prop}{Stop:Goroutine->World->Prop}{main:Bool}(x0:Value) (x1:Value) (x2:Value)
 (hk:∀ (w':World) (bd:Frame) (ad:Act) (od:Array Oper) (qd:Nat) (rd:List Nat) (oe:Oper) (kd:List Item),(∃ d,w'=w.at d)->od[qd]? = some oe ->
   (∀ (Ch:Nat->Prop) (Stop:Goroutine->World->Prop) (w1:World),(∀ a,Fl 43 [(0,x0),(1,x1),(2,x2),(7,.bool true)] a->GoesI Tryd.prog main (DT (ScZ zn) Ch) Stop (G ((base 13).at a [.code P13]) []) w1)->GoesI Tryd.prog main (DT (ScZ zn) Ch) Stop (G (bd.at (ad.put oe.dst (.bool true)) (.inRegion od rd :: kd)) []) w1) ->
   GoesI Tryd.prog main (DT (ScZ zn) Ch) Stop (G ((base 51).at { tmps:=Array.replicate 28 undef,defers:=[] } [.code B51]) [bd.at ad (.inRegion od (qd :: rd):: kd)]) w'):
 GoesI Tryd.prog main (DT (ScZ zn) Ch) Stop (G ((base 13).at { tmps:=#[x0,x1,x2]++Array.replicate 40 undef,defers:=[] } [.code LB13]) []) w:=by
 rw[eLB13];simp only[Sy];refine goesI_seq (dt_idle _ _) ?_;generalize hR:P13=R9 at hk ⊢;unfold LB13 Tryd.f13 seq1 seq2;simp only[Qa];refine goesI_region (dt_idle _ _) ?_;simp only[Sz,Sr,Nat.reduceAdd];iterate 1
  (refine goesI_oper rfl rfl (by decide) (λd K hK=>?_)
   go_simp;refine hK _ _ ⟨dt_reads (λe he=>?_),GoesI.at ?_ d⟩
   .have hm:=mem_listed he
    simp[go_sem, *] at hm
    try exact ⟨_,_,hm⟩
   clear hK K)
 refine goesI_regionEnd (dt_idle _ _) ?_;refine goesI_seq (dt_idle _ _) ?_;refine goesI_region (dt_idle _ _) ?_;simp only[Sz,Sr,Nat.reduceAdd];refine goesI_into (f:=51) (fn:=Tryd.f51) (args:=#[]) (dt_idle _ _) rfl rfl (by decide) rfl (by simp[Act.eval]) Tryd.func51 (by decide) rfl ?_;refine hk w _ _ _ _ _ _ _ ⟨w.drawn,rfl⟩ rfl (λCh Stop w1 hg=>?_);clear hk;iterate 1
  (refine goesI_oper rfl rfl (by decide) (λd K hK=>?_)
   go_simp;refine hK _ _ ⟨dt_reads (λe he=>?_),GoesI.at ?_ d⟩
   .have hm:=mem_listed he
    simp[go_sem, *] at hm
    try exact ⟨_,_,hm⟩
   clear hK K)
 refine goesI_regionEnd (dt_idle _ _) ?_;exact hg _ ⟨rfl,rfl,by
  intro p hp;simp only[Sm,or_false] at hp;rcases hp with rfl|rfl|rfl|rfl<;>rfl⟩
theorem end13 {todo:List Item}(hd:a.defers=[]) (h4:a.tmps.getD 6 undef=.bool true):stepG Tryd.prog true (G { (base 13).at a todo with mode:=.returning } []) w=.ended (.done (.bool true)) w #[]:=by
 have hr:(results Tryd.f13 a.tmps).run Tryd.prog w=.ok (.bool true) w:=by rw[results_tmp (t:=6) rfl,h4]
 have he:(results Tryd.f13 a.tmps).events Tryd.prog w #[]=#[]:=by simp[results,go_sem,Tryd.f13]
 simp[G,stepG,unwind,Frame.at,hd,Tryd.func13,base,hr,he,doReturn,GStep.after,seen]
theorem law13_b {Ch:Nat->Prop}{Stop:Goroutine->World->Prop}{main:Bool}(p:Option Addr) (cap vb vo:Nat) (xs:List Int) (hp:0<xs.length->p=some ⟨vb,vo,none⟩) (hx1:xs.length<=17592186043904) (hv:∀ k x,xs[k]? = some x->v.cell? ⟨vb,vo+k,none⟩=some (I x)) (s1 s2:Value) (hvw:Rel zn v w) (hn:NoRow Ch v)
 (hk:∀ (v' w':World) (wb bk:Nat) (sc:Value) (bd:Frame) (ad:Act) (od:Array Oper) (qd:Nat) (rd:List Nat) (oe:Oper) (kd:List Item),Rel zn v' w'->NoRow Ch v'->IsNew v xs wb bk sc v'->od[qd]? = some oe ->
   (∀ (Ch:Nat->Prop) (Stop:Goroutine->World->Prop) (w2:World) (A:Value) (E:Int),(∀ a,Fl 43 [(1,s1),(2,s2),(7,.bool true),(8,Pt wb 0),(9,A),(10,I E)] a->GoesI Tryd.prog main (DT (ScZ zn) Ch) Stop (G ((base 13).at a [.code (.seq l13c P13s)]) []) w2) ->
     GoesI Tryd.prog main (DT (ScZ zn) Ch) Stop (G (bd.at (ad.put oe.dst (.tuple #[A,I E])) (.inRegion od rd :: kd)) []) w2) ->
   GoesI Tryd.prog main (DT (ScZ zn) Ch) Stop (G ((base 52).at { tmps:=#[Pt wb 0,s1,s2]++Array.replicate 25 undef,defers:=[] } [.code B52]) [bd.at ad (.inRegion od (qd :: rd):: kd)]) w'):
 ∀ a,Fl 43 [(0,.slice p xs.length cap),(1,s1),(2,s2),(7,.bool true)] a->GoesI Tryd.prog main (DT (ScZ zn) Ch) Stop (G ((base 13).at a [.code P13]) []) w:=by
 intro a0 hA0;rw[eP13];refine goesI_seq (dt_idle _ _) ?_;refine goesI_plain (z:=zn) (wr:=true) (L:=LV) (I:=NoRow Ch) hE fineV noRow_keeps (λv v' w w' es hi hr ho he=>dt_of_z v v' w w' es hi hr ho he) hvw fine_l13a hA0.2.1 (by simp[base]) hn
  (Q:=λa w'=>∃ wb bk sc,Fl 43 [(1,s1),(2,s2),(7,.bool true),(8,Pt wb 0)] a∧IsNew v xs wb bk sc w') (λτ=>wp_mono (l13a_wp (v:=onTape v τ 0) p cap vb vo xs hp hx1 hv hA0) (λe a w' hq=>⟨hq.1,by
    obtain ⟨_,wb,bk,sc,h1,h2⟩:=hq;exact ⟨wb,bk,sc,h1,h2.mem,h2.opn,h2.new,⟨h2.old.size,h2.old.old,h2.old.os,h2.old.output⟩⟩⟩)) ?_
 rintro a1 v1 w1 ⟨wb,bk,sc,hB,hnew⟩ hr1 hn1 -;obtain ⟨hsz,hd,hpp⟩:=hB;obtain ⟨u,rfl,hg⟩:=litN hsz hd;have u1:=(hg 1).symm.trans (hpp (1,s1) (by simp));have u2:=(hg 2).symm.trans (hpp (2,s2) (by simp));have u7:=(hg 7).symm.trans (hpp (7,.bool true) (by simp));have u8:=(hg 8).symm.trans (hpp (8,Pt wb 0) (by simp));clear hg hpp hsz hd hA0;refine goesI_seq (dt_idle _ _) ?_;clear hvw hn hp hx1 hv;generalize hT:Code.seq l13c P13s=T at hk ⊢;unfold l13b LB13 Tryd.f13 seq1 seq2;simp only[Qa,lits,Nat.reduceAdd,u1,u2,u7,u8];clear u1 u2 u7 u8;refine goesI_region (dt_idle _ _) ?_;simp only[Sz,Sr,Nat.reduceAdd];iterate 3
  (refine goesI_oper rfl rfl (by decide) (λd K hK=>?_)
   go_simp;refine hK _ _ ⟨dt_reads (λe he=>?_),GoesI.at ?_ d⟩
   .have hm:=mem_listed he
    simp[go_sem, *] at hm
    try exact ⟨_,_,hm⟩
   clear hK K)
 refine goesI_into (f:=52) (fn:=Tryd.f52) (args:=#[Pt wb 0,s1,s2]) (dt_idle _ _) rfl rfl (by decide) rfl (by simp[Act.eval]) Tryd.func52 (by decide) rfl ?_;refine hk v1 w1 wb bk sc _ _ _ _ _ _ _ hr1 hn1 hnew rfl (λCh Stop w2 A E hwp=>?_);clear hk hnew hr1 hn1;iterate 5
  (refine goesI_oper rfl rfl (by decide) (λd K hK=>?_)
   go_simp;refine hK _ _ ⟨dt_reads (λe he=>?_),GoesI.at ?_ d⟩
   .have hm:=mem_listed he
    simp[go_sem, *] at hm
    try exact ⟨_,_,hm⟩
   clear hK K)
 refine goesI_regionEnd (dt_idle _ _) ?_;subst hT;exact hwp _ ⟨rfl,rfl,by
  intro p hp;simp only[Sm,or_false] at hp;rcases hp with rfl|rfl|rfl|rfl|rfl|rfl<;>rfl⟩
theorem law13_no {Ch:Nat->Prop}{Stop:Goroutine->World->Prop}{main:Bool}(hE1:E=1∨E=2) (hvw:Rel zn v w) (hn:NoRow Ch v) (hA:Fl 43 [(1,I n0),(2,sc),(8,Pt wb 0),(9,an),(7,.bool true),(10,I E)] a)
 (hend:∀ a' v' w' todo,Rel zn v' w'->Grows v v'->a'.defers=[]->a'.tmps.getD 6 undef=.bool true->GoesI Tryd.prog main (DT (ScZ zn) Ch) Stop (G { (base 13).at a' todo with mode:=.returning } []) w'):
 GoesI Tryd.prog main (DT (ScZ zn) Ch) Stop (G ((base 13).at a [.code (.seq l13c P13s)]) []) w:=by
 refine goesI_seq (dt_idle _ _) ?_;refine goesI_retZ (Q:=λa w'=>Fl 43 [(6,.bool true)] a∧w'.heap=v.heap∧w'.os=v.os∧w'.output=v.output) hvw hn fine_l13c hA.2.1 (λτ=>l13c_no (v:=onTape v τ 0) hE1 hA) (λa' v' w' todo hQ hd hr hn'=>hend a' v' w' todo hr (gx_same hQ.2.1 hQ.2.2.1 hQ.2.2.2) hd (hQ.1.at 6 (.bool true) (by simp)))
theorem law13_yes {Ch:Nat->Prop}{Stop:Goroutine->World->Prop}{main:Bool}{L:List Stp}{sv av:Value}
 (hS:Rep zn S v) (htr:S.tr=flat L) (hSn:S.n=L.length) (hs4:S.n<=400000)
 (hX:∀ (u:World) (tv:Value),Grows v u->R3.SLw 5 R3.stepL u tv (L.map toStep)->Calls Tryd.prog 24 #[I 3,I 0,I 2,sv,av,tv] u λe w'=>e=.returned (.bool true)∧Below u.heap.size u w')
 (hvw:Rel zn v w) (hn:NoRow Ch v) (hA:Fl 43 [(1,I n0),(2,sv),(8,Pt S.wb 0),(9,av),(7,.bool true),(10,I 0)] a)
 (hend:∀ a' v' w' todo,Rel zn v' w'->Grows v v'->a'.defers=[]->a'.tmps.getD 6 undef=.bool true->GoesI Tryd.prog main (DT (ScZ zn) Ch) Stop (G { (base 13).at a' todo with mode:=.returning } []) w'):
 GoesI Tryd.prog main (DT (ScZ zn) Ch) Stop (G ((base 13).at a [.code (.seq l13c P13s)]) []) w:=by
 refine goesI_seq (dt_idle _ _) ?_;refine goesI_plain (z:=zn) (wr:=true) (L:=LV) (I:=NoRow Ch) hE fineV noRow_keeps (λv v' w w' es hi hr ho he=>dt_of_z v v' w w' es hi hr ho he) hvw fine_l13c hA.2.1 (by simp[base]) hn (Q:=λa w'=>Fl 43 [(1,I n0),(2,sv),(8,Pt S.wb 0),(9,av)] a∧w'.heap=v.heap∧w'.os=v.os∧w'.output=v.output) (λτ=>l13c_wp (v:=onTape v τ 0) hA) ?_;rintro a1 v1 w1 ⟨hA1,q1,o1,u1⟩ hr1 hn1 -;unfold P13s;refine goesI_seq (dt_idle _ _) ?_;refine goesI_plain (z:=zn) (wr:=true) (L:=LV) (I:=NoRow Ch) hE fineV noRow_keeps (λv v' w w' es hi hr ho he=>dt_of_z v v' w w' es hi hr ho he) hr1 fine_l13d hA1.2.1 (by simp[base]) hn1 (Q:=λa w'=>∃ p g ct,Fl 43 [(1,I n0),(2,sv),(8,Pt S.wb 0),(9,av),(11,.slice p S.n ct)] a∧(0<S.n->p=some ⟨g,0,none⟩∧v1.heap.size<=g)∧(∀ j u,S.tr[j]? = some u->w'.cell? ⟨g,j,none⟩=some u)∧Grows v1 w') (λτ=>wp_mono (l13d_wp (v:=onTape v1 τ 0) (S:=S) (hS.same (v':=onTape v1 τ 0) q1) (by omega) (by rw[htr];exact flat_one L) hA1) (λe a w' hq=>⟨hq.1,by
  obtain ⟨_,p,g,ct,k1,k2,k3,k4⟩:=hq;exact ⟨p,g,ct,k1,k2,k3,⟨k4.size,k4.old,k4.os,k4.output⟩⟩⟩)) ?_
 rintro a2 v2 w2 ⟨p,g,ct,hA2,hp,htc,g2⟩ hr2 hn2 -;have gv:Grows v v2:=gx_trans (gx_same q1 o1 u1) g2;have hT2:R3.SLw 5 R3.stepL v2 (.slice p S.n ct) (L.map toStep):=sl_trace hSn hs4 (λh=>(hp h).1) (λj u hj=>htc j u (by rw[htr];exact hj));refine goesI_retX (Q:=λa w'=>Fl 43 [(6,.bool true)] a∧Grows v2 w') hr2 hn2 fine_l13e hA2.2.1 (λτ=>wp_mono (l13e_wp (n0:=n0) (v:=onTape v2 τ 0) (hX (onTape v2 τ 0) (.slice p S.n ct) ⟨gv.size,gv.old,gv.os,gv.output⟩ (SLw_grows ⟨Qi _,λ_ _=>rfl,rfl,rfl⟩ hT2)) (hA2.sub (by simp))) (λe a w' hq=>⟨hq.1,hq.2.1,⟨hq.2.2.size,λb hb=>hq.2.2.block b hb,hq.2.2.os,hq.2.2.output⟩⟩)) (λa' v' w' todo hQ hd hr hn'=>hend a' v' w' todo hr (gx_trans gv hQ.2) hd (hQ.1.at 6 (.bool true) (by simp)))
theorem going_wb (S:TS) (i:Nat) (t:Thr):(going S i t).wb=S.wb:=by
 unfold going;first
  |rfl
  |(unfold picked;split<;>rfl)
  |(split<;>rfl)
theorem pturn_wb {p p':PSt}(h:pturn mc p=some p'):p'.S.wb=p.S.wb:=by
 unfold pturn at h;split at h
 .split at h
  cases h;rfl;cases h
 .cases h
  exact (resume_sta _ _ _ _ _).wb.trans (going_wb _ _ _)
theorem turns_wb {m:Nat}{p p':PSt}(h:Turns mc m p p'):p'.S.wb=p.S.wb:=by
 induction h with
 |stop _=>rfl
 |step h1 _ ih=>exact ih.trans (pturn_wb h1)
theorem hires_wb {ss:List (Scr mc)}{S':TS}{l l':Nat->Ph}(h:Hires mc k ss S l S' l'):S'.wb=S.wb:=by
 induction h with
 |nil=>rfl
 |cons tv tb gc _ ih=>exact ih.trans (flow_sta _ _ _ _ _ _ _).wb
structure Fm (tb cb:Nat) (x:Int) (v:World):Prop where
 thr:v.cell? ⟨tb,0,none⟩=some (.pointer none)
 ne:tb≠cb
 cel:v.heap[cb]? = some (.cells #[I 0,I x] 158 (0,0))
structure Fto (tb cb:Nat) (x:Int) (v v':World):Prop where
 fm:Fm tb cb x v'
 old:∀ b,b≠cb->v'.heap[b]? = v.heap[b]?
 size:v'.heap.size=v.heap.size
 os:v'.os=v.os
 out:v'.output=v.output
section
variable {tb cb:Nat}{x y:Int}{v v' v'':World}
theorem Fm.cells (h:Fm tb cb x v):v.cell? ⟨tb,0,none⟩=some (.pointer none)∧v.cell? ⟨cb,0,none⟩=some (I 0)∧v.cell? ⟨cb,1,none⟩=some (I x)∧v.frozen? ⟨cb,1,none⟩=false:=by refine ⟨h.thr,?_,?_,?_⟩;unfold World.cell?;rw[show v.heap[cb]? = _ from h.cel];rfl;unfold World.cell?;rw[show v.heap[cb]? = _ from h.cel];rfl;unfold World.frozen?;rw[show v.heap[cb]? = _ from h.cel];rfl
theorem Fm.same (h:Fm tb cb x v) (e:v'.heap=v.heap):Fm tb cb x v':=⟨by rw[World.cell?_of_block (w:=v) (by rw[e])];exact h.thr,h.ne,by rw[e];exact h.cel⟩
theorem Fto.refl (h:Fm tb cb x v):Fto tb cb x v v:=⟨h,λ_ _=>rfl,rfl,rfl,rfl⟩
theorem Fto.same (h:Fto tb cb x v v') (e1:v''.heap=v'.heap) (e2:v''.os=v'.os) (e3:v''.output=v'.output):Fto tb cb x v v'' :=
 ⟨h.fm.same e1,λb hb=>by rw[e1];exact h.old b hb,by rw[e1];exact h.size,e2.trans h.os,e3.trans h.out⟩
theorem Fto.set (h:Fm tb cb x v) (y:Int):Fto tb cb y v (v.setCell ⟨cb,1,none⟩ (I y)) :=
 ⟨⟨by rw[World.cell?_of_block (Below.heap_setCell _ _ _ _ h.ne)];exact h.thr,h.ne,heap_setCell_same h.cel _⟩,λb hb=>Below.heap_setCell _ _ _ _ hb,by simp[World.setCell],rfl,rfl⟩
theorem Fto.base (h:Fto tb cb x v v') (e1:v.heap=v''.heap) (e2:v.os=v''.os) (e3:v.output=v''.output):Fto tb cb x v'' v' :=
 ⟨h.fm,λb hb=>by rw[<-e1];exact h.old b hb,by rw[<-e1];exact h.size,h.os.trans e2,h.out.trans e3⟩
end
section
variable {tb c c':Nat}{x y:Int}{v v' v'':World}
theorem Fto.stay (h:Fto tb c x v v') (m:Fm tb c x v):v'.heap=v.heap:=by apply Array.ext_getElem?;intro b;by_cases e:b=c;rw[e,h.fm.cel,m.cel];exact h.old b e
theorem Fto.other (h:Fto tb c x v v') (m:Fm tb c' y v) (hne:c'≠c):Fm tb c' y v':=⟨h.fm.thr,m.ne,by rw[h.old c' hne];exact m.cel⟩
theorem Fto.cell (h:Fto tb c x v v') {b:Nat}{u:Value}(hb:b≠c) (hc:v.cell? ⟨b,j,none⟩=some u):v'.cell? ⟨b,j,none⟩=some u:=by rw[World.cell?_of_block (w:=v) (w':=v') (h.old b hb)];exact hc
theorem Fto.then (h:Fto tb c x v v') (k:Fto tb c' y v' v'') (m:Fm tb c' y v'):Fto tb c x v v'':=h.same (k.stay m) k.os k.out
end
structure Ftg (cb:Nat) (y:Int) (v v':World):Prop where
 cel:v'.heap[cb]? = some (.cells #[I 0,I y] 158 (0,0))
 old:∀ b,b<v.heap.size->b≠cb->v'.heap[b]? = v.heap[b]?
 size:v.heap.size<=v'.heap.size
 os:v'.os=v.os
 out:v'.output=v.output
section
variable {Ch:Nat->Prop}{Stop:Goroutine->World->Prop}{main:Bool}{v w:World}{tb c cb sb s i:Nat}{kb:List Nat}{x:Int}
theorem Fm.grows (m:Fm tb cb x v) (g:Grows v v'):Fm tb cb x v':=⟨gx_cell g m.thr,m.ne,by
 have hlt:cb<v.heap.size:=(Qb m.cel).1;rw[g.old cb hlt];exact m.cel⟩
end
structure Fcs (v:World) (c sb s:Nat) (kb:List Nat) (xs:List Int):Prop where
 ctr:Ctr v c sb s kb
 len:xs.length=s
 klen:kb.length=s
 cel:∀ (j cb:Nat) (x:Int),kb[j]? = some cb->xs[j]? = some x->v.heap[cb]? = some (.cells #[I 0,I x] 158 (0,0))
 nd:kb.Nodup
 csb:c≠sb
 ckb:∀ cb∈kb,cb≠c∧cb≠sb
structure Bl (B:Nat) (v v':World):Prop where
 old:∀ b,b<B->v'.heap[b]? = v.heap[b]?
 size:v.heap.size<=v'.heap.size
 os:v'.os=v.os
 out:v'.output=v.output
section
variable {B c sb s tb:Nat}{kb:List Nat}{xs:List Int}{v v' v'':World}
theorem Bl.trans (h:Bl B v v') (g:Bl B v' v''):Bl B v v'':=⟨λb hb=>by rw[g.old b hb,h.old b hb],Qk h.size g.size,g.os.trans h.os,g.out.trans h.out⟩
theorem Bl.refl:Bl B v v:=⟨λ_ _=>rfl,Qi _,rfl,rfl⟩
theorem Bl.same (h:Bl B v v') (e1:v''.heap=v'.heap) (e2:v''.os=v'.os) (e3:v''.output=v'.output):Bl B v v'':=⟨λb hb=>by rw[e1];exact h.old b hb,by rw[e1];exact h.size,e2.trans h.os,e3.trans h.out⟩
theorem Bl.grows (h:Bl v.heap.size v v'):Grows v v':=⟨h.size,h.old,h.os,h.out⟩
theorem Bl.cell (h:Bl B v v') {b:Nat}{x:Value}(hb:b<B) (hx:v.cell? ⟨b,j,none⟩=some x):v'.cell? ⟨b,j,none⟩=some x:=by rw[World.cell?_of_block (w:=v) (w':=v') (h.old b hb)];exact hx
theorem Grows.bl (h:Grows v v') (hB:B<=v.heap.size):Bl B v v':=⟨λb hb=>h.old b (by omega),h.size,h.os,h.output⟩
theorem Fcs.lt (h:Fcs v c sb s kb xs):c<v.heap.size∧sb<v.heap.size∧∀ cb∈kb,cb<v.heap.size:=by
 refine ⟨World.block_lt_of_cell? _ _ h.ctr.row,?_,λcb hcb=>?_⟩
 .obtain ⟨cb,_,e⟩:=h.ctr.cel 0 h.ctr.s0
  exact World.block_lt_of_cell? _ _ e
 .obtain ⟨j,hj,e⟩:=List.getElem_of_mem hcb
  obtain ⟨x,hx⟩:∃ x,xs[j]? = some x:=⟨_,Qf (by rw[h.len,<-h.klen];exact hj)⟩
  exact (Qb (h.cel j cb x (by rw[Qf hj,e]) hx)).1
theorem Fcs.bl (h:Fcs v c sb s kb xs) (g:Bl v.heap.size v v'):Fcs v' c sb s kb xs:=by
 obtain ⟨l1,l2,l3⟩:=h.lt;refine ⟨⟨g.cell l1 h.ctr.row,λj hj=>?_,h.ctr.s0,h.ctr.s1⟩,h.len,h.klen,λj cb x hc hx=>?_,h.nd,h.csb,h.ckb⟩
 .obtain ⟨cb,e1,e2⟩:=h.ctr.cel j hj
  exact ⟨cb,e1,g.cell l2 e2⟩
 rw[g.old cb (l3 cb (List.mem_of_getElem? hc))];exact h.cel j cb x hc hx
theorem Fcs.fm (h:Fcs v c sb s kb xs) {cb:Nat}{x:Int}(h1:kb[j]? = some cb) (h2:xs[j]? = some x) (ht:v.cell? ⟨tb,0,none⟩=some (.pointer none)):Fm tb cb x v:=⟨ht,λe=>by have:=h.cel j cb x h1 h2;rw[e,World.cell?,this] at ht;simp at ht,h.cel j cb x h1 h2⟩
end
section
variable {Ch:Nat->Prop}{Stop:Goroutine->World->Prop}{main:Bool}{v w:World}{tb c cb sb s i nb fb k:Nat}{kb:List Nat}{xs:List Int}{x:Int}
end
def kbN (N k:Nat):List (Nat×Int):=(List.range k).map λj=>(N+2+j,0)
theorem kbN_len (N k:Nat):(kbN N k).length=k:=by simp[kbN]
theorem kbN_succ (N k:Nat):kbN N (k+1)=kbN N k++[(N+2+k,0)]:=by simp[kbN,List.range_succ]
structure NwC (v:World) (s N k:Nat) (u:World):Prop where
 row:u.heap[N]? = some (objP s (kbN N k))
 ctr:u.heap[N+1]? = some (.cells #[.slice (some ⟨N,0,none⟩) s s] 138 (0,0))
 cel:∀ j,j<k->u.heap[N+2+j]? = some (.cells #[I 0,I 0] 158 (0,0))
 size:u.heap.size=N+2+k
 old:∀ b,b<N->u.heap[b]? = v.heap[b]?
 os:u.os=v.os
 out:u.output=v.output
theorem NwC.same {u':World}{N:Nat}(h:NwC v s N k u) (e1:u'.heap=u.heap) (e2:u'.os=u.os) (e3:u'.output=u.output):NwC v s N k u' :=
 ⟨by rw[e1];exact h.row,by rw[e1];exact h.ctr,λj hj=>by rw[e1];exact h.cel j hj,by rw[e1];exact h.size,λb hb=>by rw[e1];exact h.old b hb,e2.trans h.os,e3.trans h.out⟩
theorem NwC.next {u':World}{N:Nat}(h:NwC v s N k u) (hk:k<s) (e1:u'.heap=u.heap.push (.cells #[I 0,I 0] 158 (0,0))) (e2:u'.os=u.os) (e3:u'.output=u.output):NwC v s N (k+1) (u'.setCell ⟨N,k,none⟩ (Pt u.heap.size 0)):=by
 have oth:∀ b,b≠N->(u'.setCell ⟨N,k,none⟩ (Pt u.heap.size 0)).heap[b]? = u'.heap[b]?:=λb hb=>Below.heap_setCell _ _ _ _ hb;have at_:∀ b,b<u.heap.size->u'.heap[b]? = u.heap[b]?:=λb hb=>by rw[e1,Qg,if_neg (by omega)]
 have hs:=h.size;refine ⟨?_,?_,λj hj=>?_,?_,λb hb=>?_,?_,?_⟩
 .have h0:u'.heap[N]? = some (.cells (rowP s (kbN N k)).toArray 116 (0,0)):=by rw[at_ N (by omega)];exact h.row
  have:=heap_setCell_same (o:=k) h0 (Pt u.heap.size 0);rw[this];have h1:=rowP_next (s:=s) (K:=kbN N k) (N+2+k,0) (by rw[kbN_len];exact hk);rw[kbN_len] at h1;rw[hs,h1,<-kbN_succ];rfl
 rw[oth _ (by omega),at_ _ (by omega)];exact h.ctr
 .rw[oth _ (by omega)]
  by_cases e:j=k
  .subst e
   rw[e1,<-hs,Qo]
  rw[at_ _ (by omega)];exact h.cel j (by omega)
 .have:(u'.setCell ⟨N,k,none⟩ (Pt u.heap.size 0)).heap.size=u'.heap.size:=by simp[World.setCell]
  rw[this,e1,Array.size_push];omega
 rw[oth _ (by omega),at_ _ (by omega)];exact h.old b hb;exact e2.trans h.os;exact e3.trans h.out
theorem NwC.fcs (h:NwC v s v.heap.size s u) (h0:0<s) (h1:s<=16):Fcs u (v.heap.size+1) v.heap.size s ((List.range s).map λj=>v.heap.size+2+j) (List.replicate s 0):=by
 refine ⟨⟨cell_of h.ctr rfl,λj hj=>⟨v.heap.size+2+j,by simp[hj],cell_of h.row ?_⟩,h0,h1⟩,by simp,by simp,λj cb x e1 e2=>?_,?_,by omega,λcb hcb=>?_⟩
 .unfold rowP kbN
  simp[hj]
 .by_cases hj:j<s
  .simp[hj] at e1 e2
   rw[<-e1,<-e2];exact h.cel j hj
  simp[hj] at e1
 .refine List.pairwise_map.2 (List.Pairwise.imp ?_ List.nodup_range)
  intro a b hab;omega
 .obtain ⟨j,_,rfl⟩:=List.mem_map.1 hcb
  omega
def LB15:Code:=Tryd.f15.body.getD .skip
def y1:Code:=seq1 (seq2 LB15)
def y2:Code:=seq1 (seq2 (seq2 LB15))
def y3:Code:=seq1 (seq2 (seq2 (seq2 LB15)))
theorem Fcs.keep {c sb:Nat}{kb:List Nat}(h:Fcs v c sb s kb xs) (hs:∀ b,b=c∨b=sb∨b∈kb->v'.heap[b]? = v.heap[b]?):Fcs v' c sb s kb xs:=by
 refine ⟨⟨?_,λj hj=>?_,h.ctr.s0,h.ctr.s1⟩,h.len,h.klen,λj cb x hc hx=>?_,h.nd,h.csb,h.ckb⟩;rw[World.cell?_of_block (w:=v) (w':=v') (hs c (.inl rfl))];exact h.ctr.row
 .obtain ⟨cb,e1,e2⟩:=h.ctr.cel j hj
  exact ⟨cb,e1,by rw[World.cell?_of_block (w:=v) (w':=v') (hs sb (.inr (.inl rfl)))];exact e2⟩
 rw[hs cb (.inr (.inr (List.mem_of_getElem? hc)))];exact h.cel j cb x hc hx
theorem Fcs.ftg {c sb cb:Nat}{kb:List Nat}{y:Int}(h:Fcs v c sb s kb xs) (hj:kb[j]? = some cb) (f:Ftg cb y v v'):Fcs v' c sb s kb (xs.set j y):=by
 obtain ⟨l1,l2,l3⟩:=h.lt;obtain ⟨n1,n2⟩:=h.ckb cb (List.mem_of_getElem? hj);refine ⟨⟨?_,λj hj=>?_,h.ctr.s0,h.ctr.s1⟩,by rw[List.length_set];exact h.len,h.klen,λj' cb' x hc hx=>?_,h.nd,h.csb,h.ckb⟩;rw[World.cell?_of_block (w:=v) (w':=v') (f.old c l1 (Ne.symm n1))];exact h.ctr.row
 .obtain ⟨cb,e1,e2⟩:=h.ctr.cel j hj
  exact ⟨cb,e1,by rw[World.cell?_of_block (w:=v) (w':=v') (f.old sb l2 (Ne.symm n2))];exact e2⟩
 .rw[Qq] at hx
  by_cases e:j=j'
  .subst e
   rw[if_pos rfl] at hx;split at hx
   .cases hx
    rw[hj] at hc;cases hc;exact f.cel
   cases hx
  .rw[if_neg e] at hx
   have hne:cb'≠cb:=λe2=>by subst e2;exact e ((List.getElem?_inj (Qc hj).1 h.nd).1 (hj.trans hc.symm))
   rw[f.old cb' (l3 cb' (List.mem_of_getElem? hc)) hne];exact h.cel j' cb' x hc hx
structure M15 (u0:World) (c sb s ab:Nat) (kb:List Nat) (xs:List Int) (v:World):Prop where
 fcs:Fcs v c sb s kb xs
 am:v.heap[ab]? = some (rowI (xs.map R1.amtS))
 abn:ab≠c∧ab≠sb∧ab ∉ kb
 bl:Bl u0.heap.size u0 v
 lo:u0.heap.size<=c∧u0.heap.size<=sb∧u0.heap.size<=ab∧∀ cb∈kb,u0.heap.size<=cb
section
variable {u0 v v' v3 v4 v5:World}{c sb s ab cb j:Nat}{kb:List Nat}{xs:List Int}{x y:Int}
theorem M15.ablt (h:M15 u0 c sb s ab kb xs v):ab<v.heap.size:=(Qb h.am).1
theorem M15.grows (h:M15 u0 c sb s ab kb xs v) (g:Grows v v'):M15 u0 c sb s ab kb xs v' :=
 ⟨h.fcs.bl ⟨g.old,g.size,g.os,g.output⟩,by rw[g.old ab h.ablt];exact h.am,h.abn,h.bl.trans (Grows.bl g h.bl.size),h.lo⟩
theorem M15.same (h:M15 u0 c sb s ab kb xs v) (e:v'.heap=v.heap) (e1:v'.os=v.os) (e2:v'.output=v.output):M15 u0 c sb s ab kb xs v' :=
 h.grows ⟨by rw[e];exact Qi _,λb _=>by rw[e],e1,e2⟩
theorem M15.am4 (h:M15 u0 c sb s ab kb xs v3) (hj:kb[j]? = some cb) (f:Ftg cb (R1.addI y x) v3 v4):v4.heap[ab]? = some (rowI (xs.map R1.amtS)):=by rw[f.old ab h.ablt (λe=>h.abn.2.2 (e▸List.mem_of_getElem? hj))];exact h.am
theorem M15.bl4 (h:M15 u0 c sb s ab kb xs v3) (hj:kb[j]? = some cb) (f:Ftg cb (R1.addI y x) v3 v4):Bl u0.heap.size u0 v4 :=
 h.bl.trans ⟨λb hb=>f.old b (by have:=h.bl.size;omega) (λe=>by have:=h.lo.2.2.2 cb (List.mem_of_getElem? hj);omega),f.size,f.os,f.out⟩
theorem M15.next (h:M15 u0 c sb s ab kb xs v3) (hj:kb[j]? = some cb) (hy:xs[j]? = some y) (f:Ftg cb (R1.addI y x) v3 v4) (e5:v5.heap=(v4.setCell ⟨ab,j,none⟩ (I (R1.wr56 (wrap64 (R1.amtS y+x.tmod 4294967296))))).heap) (o5:v5.os=v4.os) (u5:v5.output=v4.output):M15 u0 c sb s ab kb (xs.set j (R1.addI y x)) v5:=by
 have oth:∀ b,b≠ab->v5.heap[b]? = v4.heap[b]?:=λb hb=>by rw[e5];exact Below.heap_setCell _ _ _ _ hb
 refine ⟨(h.fcs.ftg hj f).keep (λb hb=>oth b (λe=>?_)),?_,h.abn,(h.bl4 hj f).trans ⟨λb hb=>oth b (by have:=h.lo.2.2.1;omega),by rw[e5];simp[World.setCell],o5,u5⟩,h.lo⟩
 .subst e
  rcases hb with e|e|e;exact h.abn.1 e;exact h.abn.2.1 e;exact h.abn.2.2 e
 rw[e5,R1.amtS_add,rowI_set (h.am4 hj f) j,List.map_set]
end
def InN (w:World) (lb lo:Nat) (xs:List Int):Prop:=∀ (k:Nat) (c:Int),xs[k]? = some c->w.cell? ⟨lb,lo+k,none⟩=some (I c)
theorem InN.bl {lb lo:Nat}(h:InN v lb lo xs) (g:Bl v.heap.size v v'):InN v' lb lo xs:=λk c hc=>g.cell (World.block_lt_of_cell? _ _ (h k c hc)) (h k c hc)
section
variable {Ch:Nat->Prop}{Stop:Goroutine->World->Prop}{main:Bool}{v w:World}{a:Act}{u0:World}{c sb s ab i:Nat}{kb:List Nat}{xs:List Int}{b1 o1 n1 cap1 b2 o2 n2 cap2:Nat}{p2:Option Addr}{ad wh:List Int}
end
section
variable {Ch:Nat->Prop}{Stop:Goroutine->World->Prop}{main:Bool}{u0:World}{c sb s ab:Nat}{kb:List Nat}{b1 o1 n1 cap1 b2 o2 n2 cap2:Nat}{p1 p2:Option Addr}{ad wh:List Int}
end
theorem alone_ends {gs:Array Goroutine}{T:Trace}{q:Nat->Nat}(A:Alone gs w T q) {a:Goroutine}(hg:gs[0]? = some a) (sl:Option (Nat×Nat)) {Post:Value->World->Prop}(hE:∀ B,∀ d,AtEnd Tryd.prog (λ_=>False) B Post a (w.at d)):
 ∃ N last o w' t',runNT Tryd.prog (N+1) (crowd gs w sl) T=(.ended o w',t')∧runN Tryd.prog N (crowd gs w sl)=.next last∧step Tryd.prog last=.ended o w'∧Go.Conc.Good Tryd.prog Post last o w' t':=by
 obtain ⟨B,hB,hP⟩:=A.past;refine beside_ends (D:=λ_ _ es=>es=#[]) (Shun:=λ_=>False) (B:=B) (n:=0) (λ_ _ es h e he=>by subst h;simp at he) hg A.left hP ?_;rintro w1 ⟨d,rfl⟩;exact hE B d
end Go.Proofs.YtfjjoohflcchnaaDoor.Gen
namespace Go.Proofs.YtfjjoohflcchnaaDoor.Gen.Mf
open Go Go.Lift Go.Conc Go.RowKit
open Go.ConcN (upd upd_same upd_ne)
variable {S:TS} {i m:Nat} {t:Thr} {p p':PSt}
def seatOk (L:Nat) (lev:Q->Nat) (cl:Q->Nat) (wq:Q->Prop):Nx->Prop
 |.ans _ _=>True
 |.turn _ j q=>1<=lev q∧lev q<=L∧j=cl q
 |.wait _ q=>1<=lev q∧lev q<=L∧wq q
def nlev (lev:Q->Nat):Nx->Nat
 |.ans _ _=>0
 |.turn _ _ q=>lev q
 |.wait _ q=>lev q
structure Met (mc:Mc) where
 L:Nat
 hL:1<=L
 lev:Q->Nat
 ws:Q->(Nat->Int)->Nat
 cl:Q->Nat
 wq:Q->Prop
 ws_le:∀ q f,ws q f<=65
 start:∀ i c,seatOk L lev cl wq (mc.start i c)
 turn:∀ q (f:Nat->Int) x,f (cl q)=x->1<=lev q->lev q<=L->seatOk L lev cl wq (mc.turn q x).2.2∧(nlev lev (mc.turn q x).2.2<lev q∨((mc.turn q x).1.1=(mc.turn q x).1.2∧(mc.turn q x).2.1=x∧nlev lev (mc.turn q x).2.2=lev q ∧
  match (mc.turn q x).2.2 with
  |.ans _ _=>False
  |.turn _ _ q'=>ws q' f+1<=ws q f
  |.wait _ _=>1<=ws q f))
 woke:∀ q,1<=lev q->lev q<=L->wq q->seatOk L lev cl wq (mc.woke q)∧(nlev lev (mc.woke q)<lev q∨(nlev lev (mc.woke q)=lev q ∧
  match mc.woke q with
  |.ans _ _=>False
  |.turn _ _ q'=>∀ y,ws q' y<=1
  |.wait _ _=>True))
section
variable {mc:Mc}(M:Met mc)
def tot:Ph->Nat
 |.turn _ _ q rest _ _=>M.L*rest.length+M.lev q
 |.wait _ q rest _ _=>M.L*rest.length+M.lev q
 |.done _=>0
def sw (S:TS) (K:List (Nat×Int)) (t:Thr):Ph->Nat
 |.turn _ _ q _ _ _=>M.ws q (λk=>(cellAt K k).2)
 |.wait _ _ _ _ _=>if chgOf S.chg t.ce=t.se then 0 else 2
 |.done _=>0
def sits:Ph->Prop
 |.turn _ j q _ _ _=>1<=M.lev q∧M.lev q<=M.L∧j=M.cl q
 |.wait _ q _ _ _=>1<=M.lev q∧M.lev q<=M.L∧M.wq q
 |.done _=>True
theorem sw_le (S:TS) (K:List (Nat×Int)) (t:Thr) (l:Ph):sw M S K t l<=65:=by
 cases l with
 |turn op j q r i a=>exact M.ws_le _ _
 |wait j q r i a=>show (if _ then 0 else 2)<=65;split<;>omega
 |done a=>exact Nat.zero_le _
def wtI (p:PSt) (i:Nat):Nat:=600*tot M (p.l i)+sw M p.S p.K (thrI p.S i) (p.l i)
def mu (p:PSt):Nat:=(if p.S.stk then 0 else 1)+((List.range p.S.thr.length).map (wtI M p)).sum
structure Gd (p:PSt):Prop where
 len:p.S.thr.length<=8
 sit:∀ i t,p.S.thr[i]? = some t->FitsN (p.l i) t∧StN (p.l i) t∧sits M (p.l i)
theorem sum_le (f g:Nat->Nat) (e:Nat):∀ k,(∀ j,j<k->g j<=f j+e)->((List.range k).map g).sum<=((List.range k).map f).sum+e*k
 |0,_=>by simp
 |k+1,h=>by have:=sum_le f g e k (λj hj=>h j (by omega));have h1:=h k (by omega);rw[List.range_succ,List.map_append,List.map_append,List.sum_append,List.sum_append,Nat.mul_succ];simp only[List.map_cons,List.map_nil,List.sum_cons,List.sum_nil];omega
theorem sum_drop (f g:Nat->Nat) (e d i:Nat):∀ k,i<k->(∀ j,j<k->j≠i->g j<=f j+e)->g i+d<=f i->((List.range k).map g).sum+d<=((List.range k).map f).sum+e*k
 |k+1,hi,h,hd=>by
  rw[List.range_succ,List.map_append,List.map_append,List.sum_append,List.sum_append,Nat.mul_succ];simp only[List.map_cons,List.map_nil,List.sum_cons,List.sum_nil];by_cases hk:i=k
  .subst hk
   have:=sum_le f g e i (λj hj=>h j (by omega) (by omega));omega
  .have:=sum_drop f g e d i k (by omega) (λj hj hn=>h j (by omega) hn) hd
   have h1:=h k (by omega) (λe=>hk e.symm);omega
theorem flow_tot (i:Nat):∀ (rest:List Cl) (ii:Nat) (sk:Bool) (ans:List (Int×Int)) (S:TS),tot M (flow i mc rest ii sk ans S).2<=M.L*rest.length∧(flow i mc rest ii sk ans S).1.n+2*tot M (flow i mc rest ii sk ans S).2<=S.n+2*(M.L*rest.length)+1∧(flow i mc rest ii sk ans S).1.chg=S.chg∧sits M (flow i mc rest ii sk ans S).2
 | [],ii,sk,ans,S=>by cases sk<;>exact ⟨Nat.zero_le _,by show S.n+2*0<=_;omega,rfl,trivial⟩
 |c :: rest,ii,true,ans,S=>by have:=flow_tot i rest (ii+1) true (ans.set ii (4,0)) S;have e:flow i mc (c :: rest) ii true ans S=flow i mc rest (ii+1) true (ans.set ii (4,0)) S:=rfl;have hL:=M.hL;rw[e,List.length_cons,Nat.mul_succ];exact ⟨by omega,by omega,this.2.2⟩
 |c :: rest,ii,false,ans,S=>by
  have hs:=M.start i c;have hL:=M.hL;rw[List.length_cons,Nat.mul_succ];unfold flow;cases h:mc.start i c with
  |ans e x =>have:=flow_tot i rest (ii+1) (e==4) (ans.set ii (e,x)) (noted (noted S undef i 9 (-1) ii 0) undef i 10 (-1) ii e);have en:(noted (noted S undef i 9 (-1) ii 0) undef i 10 (-1) ii e).n=S.n+2:=rfl;rw[en] at this;simp only;exact ⟨by omega,by omega,this.2.2⟩
  |turn op j q =>
   rw[h] at hs;obtain ⟨h1,h2,h3⟩:=hs;refine ⟨?_,?_,rfl,h1,h2,h3⟩
   .show M.L*rest.length+M.lev q<=_
    omega
   .show S.n+1+2*(M.L*rest.length+M.lev q)<=_
    omega
  |wait j q =>
   rw[h] at hs;obtain ⟨h1,h2,h3⟩:=hs;simp only;split
   .have:=flow_tot i rest (ii+1) ((mc.stuck q).1==4) (ans.set ii (mc.stuck q)) (noted (noted S undef i 9 (-1) ii 0) undef i 10 (-1) ii (mc.stuck q).1)
    have en:(noted (noted S undef i 9 (-1) ii 0) undef i 10 (-1) ii (mc.stuck q).1).n=S.n+2:=rfl;rw[en] at this;exact ⟨by omega,by omega,this.2.2⟩
   .refine ⟨?_,?_,rfl,h1,h2,h3⟩
    .show M.L*rest.length+M.lev q<=_
     omega
    .show S.n+1+2*(M.L*rest.length+M.lev q)<=_
     omega
theorem did_n (S:TS) (tv:Value) (i:Nat) (t:Thr) (b a:Int):(didS S tv i t b a).n=S.n+1:=by unfold didS;split<;>rfl
theorem did_same (S:TS) (tv:Value) (i:Nat) (t:Thr) (b:Int):didS S tv i t b b=noted S tv i t.op t.ce b b:=by unfold didS;rw[if_neg (λh=>h.1 rfl)]
theorem set_cell (K:List (Nat×Int)) (j:Nat):K.set j ((cellAt K j).1,(cellAt K j).2)=K:=by
 apply List.ext_getElem?;intro k;rw[Qq];split
 .rename_i e
  subst e;split
  .rename_i h
   unfold cellAt;rw[Qf h];rfl
  .rename_i h
   rw[List.getElem?_eq_none (by omega)]
 rfl
def Pro (i:Nat) (l:Ph) (S:TS) (K:List (Nat×Int)) (w:Nat) (R:TS×List (Nat×Int)×Ph):Prop :=
 sits M R.2.2∧((R.1.chg=S.chg∧R.2.1=K∧R.1.n<=S.n+1∧tot M R.2.2=tot M l∧sw M R.1 K (thrI R.1 i) R.2.2+1<=w) ∨
  (tot M R.2.2+1<=tot M l∧R.1.n+2*tot M R.2.2<=S.n+2*tot M l+1))
theorem back_pro (i:Nat) (l:Ph) (S S1:TS) (K K1:List (Nat×Int)) (w:Nat) (rest:List Cl) (ii:Nat) (ans:List (Int×Int)) (a:Int×Int) (hl:M.L*rest.length+1<=tot M l) (hn:S1.n<=S.n+1):Pro M i l S K w (back i mc rest ii ans a S1 K1):=by have:=flow_tot M i rest (ii+1) (a.1==4) (ans.set ii a) (noted S1 undef i 10 (-1) ii a.1);have en:(noted S1 undef i 10 (-1) ii a.1).n=S1.n+1:=rfl;rw[en] at this;obtain ⟨h1,h2,h3,h4⟩:=this;exact ⟨h4,.inr ⟨by show tot M (flow i mc rest (ii+1) (a.1==4) (ans.set ii a) (noted S1 undef i 10 (-1) ii a.1)).2+1<=_;omega,by show (flow i mc rest (ii+1) (a.1==4) (ans.set ii a) (noted S1 undef i 10 (-1) ii a.1)).1.n+2*tot M (flow i mc rest (ii+1) (a.1==4) (ans.set ii a) (noted S1 undef i 10 (-1) ii a.1)).2<=_;omega⟩⟩
theorem resume_pro (i:Nat) (l:Ph) (S:TS) (K:List (Nat×Int)) (t:Thr) (ht:S.thr[i]? = some t) (hl:∀ a,l≠.done a) (hs:sits M l) (hr:∀ j q r k a,l=.wait j q r k a->S.stk=true∨chgOf S.chg t.ce≠t.se):Pro M i l S K (sw M S K t l) (resume i mc l S K):=by
 have eth:thrI S i=t:=thrI_of ht
 match l,hl,hs,hr with
 |.done a,hl,_,_=>exact absurd rfl (hl a)
 |.turn op j q rest ii ans,_,hs,_ =>
  obtain ⟨s1,s2,s3⟩:=hs;rw[resume_turn];have hx:(cellAt K j).2=(cellAt K j).2:=rfl;generalize hxx:(cellAt K j).2=x at *;obtain ⟨hok,hp⟩:=M.turn q (λk=>(cellAt K k).2) x (by show (cellAt K (M.cl q)).2=x;rw[<-s3];exact hxx) s1 s2;have hsw:sw M S K t (.turn op j q rest ii ans)=M.ws q (λk=>(cellAt K k).2):=rfl;rw[hsw];cases hnx:(mc.turn q x).2.2 with
  |ans e y =>exact back_pro M i _ S _ K _ _ rest ii ans (e,y) (by show _<=M.L*rest.length+M.lev q;omega) (by rw[did_n];exact Qi _)
  |turn op' j' q' =>
   rw[hnx] at hok hp;obtain ⟨k1,k2,k3⟩:=hok;refine ⟨⟨k1,k2,k3⟩,?_⟩;rcases hp with hp|⟨e1,e2,e3,e5⟩
   .right
    have hp:M.lev q'<M.lev q:=hp;refine ⟨?_,?_⟩
    .show M.L*rest.length+M.lev q'+1<=M.L*rest.length+M.lev q
     omega
    .show (didS S undef i (thrI S i) (mc.turn q x).1.1 (mc.turn q x).1.2).n+2*(M.L*rest.length+M.lev q')<=S.n+2*(M.L*rest.length+M.lev q)+1
     rw[did_n];omega
   .left
    have ek:K.set j ((cellAt K j).1,(mc.turn q x).2.1)=K:=by rw[e2,<-hxx];exact set_cell K j
    have e3:M.lev q'=M.lev q:=e3;refine ⟨?_,ek,?_,?_,?_⟩
    .show (didS S undef i (thrI S i) (mc.turn q x).1.1 (mc.turn q x).1.2).chg=_
     rw[e1,did_same];rfl
    .show (didS S undef i (thrI S i) (mc.turn q x).1.1 (mc.turn q x).1.2).n<=_
     rw[did_n];exact Qi _
    .show M.L*rest.length+M.lev q'=M.L*rest.length+M.lev q
     rw[e3]
    .show M.ws q' (λk=>(cellAt K k).2)+1<=_
     exact e5
  |wait j' q' =>
   rw[hnx] at hok hp;obtain ⟨k1,k2,kq⟩:=hok;rw[on_wait];split;refine back_pro M i _ S _ K _ _ rest ii ans _ (by show _<=M.L*rest.length+M.lev q;omega) (by rw[did_n];exact Qi _)
   .refine ⟨⟨k1,k2,kq⟩,?_⟩
    rcases hp with hp|⟨e1,e2,e3,e5⟩
    .right
     have hp:M.lev q'<M.lev q:=hp;refine ⟨?_,?_⟩
     .show M.L*rest.length+M.lev q'+1<=M.L*rest.length+M.lev q
      omega
     .show (didS S undef i (thrI S i) (mc.turn q x).1.1 (mc.turn q x).1.2).n+2*(M.L*rest.length+M.lev q')<=S.n+2*(M.L*rest.length+M.lev q)+1
      rw[did_n];omega
    .left
     have ek:K.set j ((cellAt K j).1,(mc.turn q x).2.1)=K:=by rw[e2,<-hxx];exact set_cell K j
     have e3:M.lev q'=M.lev q:=e3;refine ⟨?_,ek,?_,?_,?_⟩
     .show (didS S undef i (thrI S i) (mc.turn q x).1.1 (mc.turn q x).1.2).chg=_
      rw[e1,did_same];rfl
     .show (didS S undef i (thrI S i) (mc.turn q x).1.1 (mc.turn q x).1.2).n<=_
      rw[did_n];exact Qi _
     .show M.L*rest.length+M.lev q'=M.L*rest.length+M.lev q
      rw[e3]
     .have e6:∀ S':TS,S'.thr[i]? = some t->sw M (waiting S' i (thrI S' i) 2 6 j') K (thrI (waiting S' i (thrI S' i) 2 6 j') i) (.wait j' q' rest ii ans)=0:=λS' h'=>by
       have e7:thrI (waiting S' i (thrI S' i) 2 6 j') i={ t with st:=2,ce:=j',op:=6,se:=chgOf S'.chg j' }:=by rw[thrI_of h'];exact thrI_of (set_get h')
       rw[e7];exact if_pos rfl
      rw[e6 _ (did_thr ht)];omega
 |.wait j q rest ii ans,_,hs,hr =>
  obtain ⟨s1,s2,sq⟩:=hs;rw[resume_wait];split;exact back_pro M i _ S _ K _ _ rest ii ans _ (by show _<=M.L*rest.length+M.lev q;omega) (Nat.le_succ _)
  .rename_i hst
   have h2:sw M S K t (.wait j q rest ii ans)=2:=if_neg ((hr _ _ _ _ _ rfl).resolve_left (by simpa using hst));rw[h2];obtain ⟨hok,hp⟩:=M.woke q s1 s2 sq;cases hnx:mc.woke q with
   |ans e y =>exact back_pro M i _ S _ K _ _ rest ii ans (e,y) (by show _<=M.L*rest.length+M.lev q;omega) (Qi _)
   |turn op' j' q' =>
    rw[hnx] at hok hp;obtain ⟨k1,k2,k3⟩:=hok;refine ⟨⟨k1,k2,k3⟩,?_⟩;rcases hp with hp|⟨e3,e5⟩
    .right
     have hp:M.lev q'<M.lev q:=hp;refine ⟨?_,?_⟩
     .show M.L*rest.length+M.lev q'+1<=M.L*rest.length+M.lev q
      omega
     .show S.n+1+2*(M.L*rest.length+M.lev q')<=S.n+2*(M.L*rest.length+M.lev q)+1
      omega
    .left
     have e3:M.lev q'=M.lev q:=e3;refine ⟨rfl,rfl,Qi _,?_,?_⟩
     .show M.L*rest.length+M.lev q'=M.L*rest.length+M.lev q
      rw[e3]
     .show M.ws q' (λk=>(cellAt K k).2)+1<=2
      have:=e5 (λk=>(cellAt K k).2);omega
   |wait j' q' =>
    rw[hnx] at hok hp;obtain ⟨k1,k2,kq⟩:=hok;rw[on_wait];split;exact back_pro M i _ S _ K _ _ rest ii ans _ (by show _<=M.L*rest.length+M.lev q;omega) (Qi _)
    .refine ⟨⟨k1,k2,kq⟩,?_⟩
     rcases hp with hp|⟨e3,_⟩
     .right
      have hp:M.lev q'<M.lev q:=hp;refine ⟨?_,?_⟩
      .show M.L*rest.length+M.lev q'+1<=M.L*rest.length+M.lev q
       omega
      .show S.n+1+2*(M.L*rest.length+M.lev q')<=S.n+2*(M.L*rest.length+M.lev q)+1
       omega
     .left
      have e3:M.lev q'=M.lev q:=e3;refine ⟨rfl,rfl,Qi _,?_,?_⟩
      .show M.L*rest.length+M.lev q'=M.L*rest.length+M.lev q
       rw[e3]
      .have e7:thrI (waiting (noted S undef i 6 j 0 0) i (thrI (noted S undef i 6 j 0 0) i) 2 6 j') i={ t with st:=2,ce:=j',op:=6,se:=chgOf S.chg j' }:=by rw[show thrI (noted S undef i 6 j 0 0) i=t from thrI_of ht];exact thrI_of (set_get (S:=noted S undef i 6 j 0 0) ht)
       show (if chgOf S.chg (thrI (waiting (noted S undef i 6 j 0 0) i (thrI (noted S undef i 6 j 0 0) i) 2 6 j') i).ce=(thrI (waiting (noted S undef i 6 j 0 0) i (thrI (noted S undef i 6 j 0 0) i) 2 6 j') i).se then 0 else 2)+1<=2;rw[e7,if_pos rfl]
       decide
theorem nextI_in (h:rdyIds S S.thr.length≠[]):∃ t,S.thr[nextI S]? = some t∧rdy S t=true:=by
 have h0:0<(rdyIds S S.thr.length).length:=List.length_pos_iff.2 h;have h1:=pickAt_lt S h0;have h2:nextI S∈rdyIds S S.thr.length:=by unfold nextI;rw[Qf h1];exact List.getElem_mem h1
 unfold rdyIds at h2;rw[List.mem_filter] at h2;cases h3:S.thr[nextI S]? with
 |none=>rw[h3] at h2;cases h2.2
 |some t=>rw[h3] at h2;exact ⟨t,rfl,h2.2⟩
theorem going_thr (ht:S.thr[i]? = some t):(going S i t).thr[i]? = some { t with st:=0 }:=by
 have e:(picked S).thr=S.thr:=by unfold picked;split<;>rfl
 show ((picked S).thr.set i _)[i]? = _;rw[e];exact set_get ht
theorem going_oth {j:Nat}(hj:j≠i):(going S i t).thr[j]? = S.thr[j]?:=by
 have e:(picked S).thr=S.thr:=by unfold picked;split<;>rfl
 show ((picked S).thr.set i _)[j]? = _;rw[e,Qq,if_neg (λe=>hj e.symm)]
theorem going_len :(going S i t).thr.length=S.thr.length:=by
 have e:(picked S).thr=S.thr:=by unfold picked;split<;>rfl
 show ((picked S).thr.set i _).length=_;rw[e,List.length_set]
theorem going_keeps :(going S i t).chg=S.chg∧(going S i t).stk=S.stk∧(going S i t).n=S.n∧(going S i t).tr=S.tr:=by
 have e:(picked S).chg=S.chg∧(picked S).stk=S.stk∧(picked S).n=S.n∧(picked S).tr=S.tr:=by unfold picked;split<;>exact ⟨rfl,rfl,rfl,rfl⟩
 exact e
theorem pturn_mu {p1:PSt}(g:Gd M p) (e:pturn mc p=some p1):Gd M p1∧mu M p1<mu M p∧p1.S.n+mu M p1<=p.S.n+mu M p:=by
 unfold pturn at e;split at e
 .rename_i h0
  split at e
  .rename_i hw
   cases e;unfold waits2 at hw;rw[List.any_eq_true] at hw;obtain ⟨i,hi,hst⟩:=hw;cases ht:p.S.thr[i]? with
   |none=>rw[ht] at hst;cases hst
   |some t =>
    rw[ht] at hst;have hst:t.st=2:=by simpa using hst
    have hs:p.S.stk=false:=by
     cases hs:p.S.stk with
     |false=>rfl
     |true =>
      have:i∈rdyIds p.S p.S.thr.length:=by unfold rdyIds;rw[List.mem_filter];exact ⟨hi,by rw[ht];simp[rdy,hst,hs]⟩
      rw[h0] at this;cases this
    have hmu:mu M ⟨stuckS p.S undef,p.K,p.l⟩+1=mu M p:=by unfold mu;rw[hs];show 0+((List.range p.S.thr.length).map (wtI M ⟨stuckS p.S undef,p.K,p.l⟩)).sum+1=1+_;have:wtI M ⟨stuckS p.S undef,p.K,p.l⟩=wtI M p:=rfl;rw[this];omega
    refine ⟨⟨g.len,g.sit⟩,by omega,?_⟩;show p.S.n+1+_<=_;omega
  cases e
 .rename_i h0
  obtain ⟨t,ht,hrd⟩:=nextI_in h0;generalize hi:nextI p.S=i at ht e;have eth:thrI p.S i=t:=thrI_of ht;rw[eth] at e;obtain ⟨hfit,hst,hsi⟩:=g.sit i t ht;have hl:∀ a,p.l i≠.done a:=λa ha=>by rw[ha] at hst;have:t.st=3:=hst;simp[rdy,this] at hrd
  have hk:=going_keeps (S:=p.S) (i:=i) (t:=t);have hgt:=going_thr ht;have hw:∀ j q r k a,p.l i=.wait j q r k a->(going p.S i t).stk=true∨chgOf (going p.S i t).chg ({ t with st:=0 }:Thr).ce≠({ t with st:=0 }:Thr).se:=λj q r k a hpl=>by
   rw[hpl] at hst;have hst:t.st=2:=hst;rw[hk.1,hk.2.1];have:p.S.stk=true∨¬ chgOf p.S.chg t.ce=t.se:=by simpa [rdy,hst] using hrd
   exact this
  have hm:=resume_pro M i (p.l i) (going p.S i t) p.K { t with st:=0 } hgt hl hsi hw;have hg:=resume_fs i mc (going p.S i t) p.K { t with st:=0 } hgt (p.l i) hl;have sta:=resume_sta i mc (p.l i) (going p.S i t) p.K;generalize resume i mc (p.l i) (going p.S i t) p.K=R at e hm hg sta;cases e;have hilt:i<p.S.thr.length:=(Qc ht).1;have hlen:R.1.thr.length=p.S.thr.length:=by rw[sta.len,going_len]
  have hoth:∀ j,j≠i->R.1.thr[j]? = p.S.thr[j]?:=λj hj=>by rw[sta.oth j hj,going_oth hj]
  have hstk:R.1.stk=p.S.stk:=by rw[sta.stk,hk.2.1]
  have hwi:wtI M ⟨R.1,R.2.1,upd p.l i R.2.2⟩ i=600*tot M R.2.2+sw M R.1 R.2.1 (thrI R.1 i) R.2.2:=by show 600*tot M (upd p.l i R.2.2 i)+sw M R.1 R.2.1 (thrI R.1 i) (upd p.l i R.2.2 i)=_;rw[upd_same]
  have hwi0:wtI M p i=600*tot M (p.l i)+sw M p.S p.K t (p.l i):=by unfold wtI;rw[eth]
  have hwt:sw M (going p.S i t) p.K { t with st:=0 } (p.l i)=sw M p.S p.K t (p.l i):=by
   cases p.l i with
   |turn _ _ _ _ _ _=>rfl
   |done _=>rfl
   |wait _ _ _ _ _=>show (if chgOf (going p.S i t).chg t.ce=t.se then 0 else 2)=if _ then 0 else 2;rw[hk.1]
  rw[hwt] at hm;obtain ⟨hsit,hm⟩:=hm;have hj:∀ j,j≠i->thrI R.1 j=thrI p.S j:=λj hne=>by unfold thrI;rw[hoth j hne]
  have key:∃ d,1<=d∧R.1.n<=p.S.n+d∧((List.range R.1.thr.length).map (wtI M ⟨R.1,R.2.1,upd p.l i R.2.2⟩)).sum+d<=((List.range p.S.thr.length).map (wtI M p)).sum:=by
   rw[hlen];rcases hm with ⟨m1,m2,m3,m4,m5⟩|⟨m1,m3⟩
   .refine ⟨1,Qi _,by rw[hk.2.2.1] at m3;exact m3,?_⟩
    have:=sum_drop (wtI M p) (wtI M ⟨R.1,R.2.1,upd p.l i R.2.2⟩) 0 1 i p.S.thr.length hilt (λj _ hne=>by
     show 600*tot M (upd p.l i R.2.2 j)+sw M R.1 R.2.1 (thrI R.1 j) (upd p.l i R.2.2 j)<=_;rw[upd_ne _ _ hne,hj j hne,m2];have e3:sw M R.1 p.K (thrI p.S j) (p.l j)=sw M p.S p.K (thrI p.S j) (p.l j):=by
      cases p.l j with
      |turn _ _ _ _ _ _=>rfl
      |done _=>rfl
      |wait _ _ _ _ _=>show (if chgOf R.1.chg _=_ then 0 else 2)=if _ then 0 else 2;rw[m1,hk.1]
     rw[e3];exact Qi _) (by rw[hwi,hwi0,m2,m4];omega)
    omega
   .have h8:=g.len
    have s3:=sw_le M R.1 R.2.1 (thrI R.1 i) R.2.2;rw[hk.2.2.1] at m3;generalize hD:tot M (p.l i) - tot M R.2.2=D;have hD':tot M (p.l i)=tot M R.2.2+D:=by omega
    refine ⟨1+2*D,by omega,by omega,?_⟩;have:=sum_drop (wtI M p) (wtI M ⟨R.1,R.2.1,upd p.l i R.2.2⟩) 65 (600*D - 65) i p.S.thr.length hilt (λj _ hne=>by show 600*tot M (upd p.l i R.2.2 j)+sw M R.1 R.2.1 (thrI R.1 j) (upd p.l i R.2.2 j)<=_;rw[upd_ne _ _ hne];have:=sw_le M R.1 R.2.1 (thrI R.1 j) (p.l j);unfold wtI;omega) (by rw[hwi,hwi0,hD'];omega)
    omega
  obtain ⟨d,d1,d2,d3⟩:=key;refine ⟨⟨by rw[hlen];exact g.len,λj tj htj=>?_⟩,?_,?_⟩
  .by_cases hne:j=i
   .subst hne
    obtain ⟨t',g1,g2,g3⟩:=hg;have htj:R.1.thr[j]? = some tj:=htj;rw[g1] at htj;obtain rfl:=Qd htj;show FitsN (upd p.l j R.2.2 j) _∧StN (upd p.l j R.2.2 j) _∧sits M (upd p.l j R.2.2 j);rw[upd_same];exact ⟨g2,g3,hsit⟩
   .show FitsN (upd p.l i R.2.2 j) tj∧StN (upd p.l i R.2.2 j) tj∧sits M (upd p.l i R.2.2 j)
    rw[upd_ne _ _ hne];have htj:R.1.thr[j]? = some tj:=htj;exact g.sit j tj (by rw[<-hoth j hne];exact htj)
  .unfold mu
   show (if R.1.stk then 0 else 1)+((List.range R.1.thr.length).map (wtI M ⟨R.1,R.2.1,upd p.l i R.2.2⟩)).sum<_;rw[hstk];omega
  .unfold mu
   show R.1.n+((if R.1.stk then 0 else 1)+((List.range R.1.thr.length).map (wtI M ⟨R.1,R.2.1,upd p.l i R.2.2⟩)).sum)<=_;rw[hstk];omega
theorem turns_end:∀ (m:Nat) (p:PSt),mu M p<=m->Gd M p->∃ n p',n<=m∧Turns mc n p p'∧p'.S.n<=p.S.n+mu M p:=by
 intro m;induction m with
 |zero =>
  intro p hm g;cases e:pturn mc p with
  |none=>exact ⟨0,p,Qi _,.stop e,Nat.le_add_right _ _⟩
  |some p1=>have:=(pturn_mu M g e).2.1;omega
 |succ m ih =>
  intro p hm g;cases e:pturn mc p with
  |none=>exact ⟨0,p,Nat.zero_le _,.stop e,Nat.le_add_right _ _⟩
  |some p1 =>obtain ⟨g1,h1,h2⟩:=pturn_mu M g e;obtain ⟨n,p',k1,k2,k3⟩:=ih p1 (by omega) g1;exact ⟨n+1,p',by omega,.step e k2,by omega⟩
theorem turns_gd (h:Turns mc m p p') (g:Gd M p):Gd M p'∧p'.S.n+mu M p'<=p.S.n+mu M p:=by
 induction h with
 |stop=>exact ⟨g,Qi _⟩
 |step e _ ih =>obtain ⟨g1,_,h2⟩:=pturn_mu M g e;have:=ih g1;exact ⟨this.1,by omega⟩
theorem hires_gd {k:Nat}{ss:List (Scr mc)}{S':TS}{l l':Nat->Ph}(h:Hires mc k ss S l S' l') (hk:S.thr.length=k) (h8:k+ss.length<=8) (hs:∀ i t,S.thr[i]? = some t->FitsN (l i) t∧StN (l i) t∧sits M (l i)):
 S'.thr.length=k+ss.length∧(∀ i t,S'.thr[i]? = some t->FitsN (l' i) t∧StN (l' i) t∧sits M (l' i))∧S'.n<=S.n+2*lens ss∧((List.range S'.thr.length).map λi=>tot M (l' i)).sum<=((List.range S.thr.length).map λi=>tot M (l i)).sum+M.L*lens ss:=by
 induction h with
 |nil=>exact ⟨by simpa using hk,hs,Nat.le_add_right _ _,Nat.le_add_right _ _⟩
 |@cons k s ss S S' l l' tv tb gc h ih =>
  have hlen:(hiredS S tv tb gc).thr.length=k+1:=by simp[hiredS,hk]
  obtain ⟨t0,ht0⟩:∃ t0,(hiredS S tv tb gc).thr[k]? = some t0:=⟨_,Qf (by omega)⟩
  have sta:=flow_sta k mc s.calls 0 false s.ans (hiredS S tv tb gc);obtain ⟨t1,f1,f2,f3⟩:=flow_fs k mc s.calls 0 false s.ans (hiredS S tv tb gc) t0 ht0;have hle:=flow_le k mc s.calls 0 false s.ans (hiredS S tv tb gc);obtain ⟨hlf,_,_,hsf⟩:=flow_tot M k s.calls 0 false s.ans (hiredS S tv tb gc);have hn0:(hiredS S tv tb gc).n=S.n:=rfl;simp only[List.length_cons] at h8;obtain ⟨i1,i2,i3,i4⟩:=ih (by rw[sta.len,hlen]) (by omega) (λi t ht=>by
   by_cases hi:i=k
   .subst hi
    rw[f1] at ht;cases ht;rw[upd_same];exact ⟨f2,f3,hsf⟩
   .rw[upd_ne _ _ hi]
    rw[sta.oth i hi] at ht;refine hs i t ?_;have:i<k:=by have:=(Qc ht).1;omega
    simpa [hiredS,List.getElem?_append,hk,this] using ht)
  refine ⟨by rw[i1];simp only[List.length_cons];omega,i2,?_,?_⟩
  .simp only[lens,List.map_cons,List.sum_cons] at i3 ⊢
   omega
  .have e1:(flow k mc s.calls 0 false s.ans (hiredS S tv tb gc)).1.thr.length=k+1:=by rw[sta.len,hlen]
   rw[e1,List.range_succ,List.map_append,List.sum_append] at i4;simp only[List.map_cons,List.map_nil,List.sum_cons,List.sum_nil] at i4;rw[upd_same] at i4;have e2:(List.range k).map (λi=>tot M (upd l k (flow k mc s.calls 0 false s.ans (hiredS S tv tb gc)).2 i))=(List.range k).map (λi=>tot M (l i)):=List.map_congr_left (λi hi=>by have:i<k:=List.mem_range.1 hi;rw[upd_ne _ _ (by omega)])
   rw[e2] at i4;rw[hk];simp only[lens,List.map_cons,List.sum_cons] at i4 ⊢;rw[Nat.mul_add];omega
theorem mu_le (p:PSt) (h8:p.S.thr.length<=8):mu M p<=521+600*((List.range p.S.thr.length).map λi=>tot M (p.l i)).sum:=by
 have h:∀ k,((List.range k).map (wtI M p)).sum<=600*((List.range k).map λi=>tot M (p.l i)).sum+65*k:=λk=>by
  induction k with
  |zero=>simp
  |succ k ih =>rw[List.range_succ,List.map_append,List.map_append,List.sum_append,List.sum_append];simp only[List.map_cons,List.map_nil,List.sum_cons,List.sum_nil];have:=sw_le M p.S p.K (thrI p.S k) (p.l k);unfold wtI at ih ⊢;omega
 have:=h p.S.thr.length;unfold mu;split<;>omega
theorem play_ends {ss:List (Scr mc)}{S1:TS}{l0 l1:Nat->Ph}{K:List (Nat×Int)}(h:Hires mc 0 ss S l0 S1 l1) (h0:S.thr=[]) (h8:ss.length<=8) (hl:lens ss<=512) (hL:M.L<=1) (hn:S.n=0):
 ∃ m p',m<=320000∧Turns mc m ⟨S1,K,l1⟩ p'∧p'.S.n*40<=140737488355328:=by
 obtain ⟨a1,a2,a3,a4⟩:=hires_gd M h (by rw[h0];rfl) (by omega) (λi t ht=>by rw[h0] at ht;cases ht);have g:Gd M ⟨S1,K,l1⟩:=⟨by show S1.thr.length<=8;omega,a2⟩
 have hm:=mu_le M ⟨S1,K,l1⟩ g.len;rw[h0] at a4;simp only[List.length_nil,List.range_zero,List.map_nil,List.sum_nil] at a4;have h5:M.L*lens ss<=1*512:=Nat.mul_le_mul hL hl;have hm2:mu M ⟨S1,K,l1⟩<=320000:=by refine Qk hm ?_;show 521+600*((List.range S1.thr.length).map λi=>tot M (l1 i)).sum<=320000;omega
 obtain ⟨m,p',k1,k2,k3⟩:=turns_end M 320000 ⟨S1,K,l1⟩ hm2 g;refine ⟨m,p',k1,k2,?_⟩;have k3:p'.S.n<=S1.n+mu M ⟨S1,K,l1⟩:=k3;omega
theorem play_small {ss:List (Scr mc)}{S1:TS}{l0 l1:Nat->Ph}{K:List (Nat×Int)}(h:Hires mc 0 ss S l0 S1 l1) (hT:Turns mc m ⟨S1,K,l1⟩ p') (h0:S.thr=[]) (h8:ss.length<=8) (hl:lens ss<=512) (hL:M.L<=1) (hn:S.n=0):p'.S.n<=400000:=by
 obtain ⟨a1,a2,a3,a4⟩:=hires_gd M h (by rw[h0];rfl) (by omega) (λi t ht=>by rw[h0] at ht;cases ht);have g:Gd M ⟨S1,K,l1⟩:=⟨by show S1.thr.length<=8;omega,a2⟩
 have hm:=mu_le M ⟨S1,K,l1⟩ g.len;rw[h0] at a4;simp only[List.length_nil,List.range_zero,List.map_nil,List.sum_nil] at a4;have h5:M.L*lens ss<=1*512:=Nat.mul_le_mul hL hl;have hm2:mu M ⟨S1,K,l1⟩<=320000:=by refine Qk hm ?_;show 521+600*((List.range S1.thr.length).map λi=>tot M (l1 i)).sum<=320000;omega
 have:=(turns_gd M hT g).2;have k3:p'.S.n+mu M p'<=S1.n+mu M ⟨S1,K,l1⟩:=this;omega
end
section
variable {mc:Mc}
theorem pturn_mv (M:Met mc) {p1:PSt}{v:Vw}(g:Gd M p) (s:Seen p v) (e:pturn mc p=some p1):∃ v1,Mv mc p.S.thr.length v v1∧Seen p1 v1:=by
 unfold pturn at e;split at e
 .rename_i h0
  split at e
  .rename_i hw
   cases e;have hall:∀ i t,p.S.thr[i]? = some t->rdy p.S t=false:=λi t ht=>by
    cases hr:rdy p.S t with
    |false=>rfl
    |true =>
     have:i∈rdyIds p.S p.S.thr.length:=by unfold rdyIds;rw[List.mem_filter];exact ⟨List.mem_range.2 (Qc ht).1,by rw[ht];exact hr⟩
     rw[h0] at this;cases this
   unfold waits2 at hw;rw[List.any_eq_true] at hw;obtain ⟨i,hi,hst⟩:=hw;have hi:=List.mem_range.1 hi;obtain ⟨t,ht⟩:∃ t,p.S.thr[i]? = some t:=⟨_,Qf hi⟩
   rw[ht] at hst;have hst:t.st=2:=by simpa using hst
   have hs:p.S.stk=false:=by
    have:=hall i t ht;cases hs:p.S.stk with
    |false=>rfl
    |true=>simp[rdy,hst,hs] at this
   refine ⟨{ v with stk:=true,L:=v.L++[⟨-1,-1,7,0,0⟩] },.stuck (by rw[s.stk];exact hs) (λk hk=>?_) ⟨i,hi,?_⟩ rfl,⟨s.K,rfl,s.chg,s.se,s.l,?_,?_,s.ce⟩⟩
   .obtain ⟨tk,htk⟩:∃ t,p.S.thr[k]? = some t:=⟨_,Qf hk⟩
    have hnr:=hall k tk htk;obtain ⟨_,h2,_⟩:=g.sit k tk htk;have hce:=s.ce k tk htk;rw[s.l,s.chg,s.se k,thrI_of htk]
    match hl:p.l k,h2 with
    |.done a,_=>exact .inl ⟨a,rfl⟩
    |.turn _ _ _ _ _ _,h2 =>have h2:tk.st=1:=h2;simp[rdy,h2] at hnr
    |.wait j q r kk a,h2 =>
     have h2:tk.st=2:=h2;have e1:=hce j q r kk a hl;refine .inr ⟨j,q,r,kk,a,rfl,?_⟩;have:chgOf p.S.chg tk.ce=tk.se:=by simpa [rdy,h2,hs] using hnr
     rw[<-e1];exact this
   .obtain ⟨_,h2,_⟩:=g.sit i t ht
    rw[s.l]
    match hl:p.l i,h2 with
    |.done a,h2=>have h2:t.st=3:=h2;omega
    |.turn _ _ _ _ _ _,h2=>have h2:t.st=1:=h2;omega
    |.wait j q r kk a,_=>exact ⟨j,q,r,kk,a,rfl⟩
   .show p.S.tr++_=flat (v.L++_)
    rw[flat_app,s.tr];rfl
   .show p.S.n+1=(v.L++_).length
    rw[Qj,s.n];rfl
  cases e
 .rename_i h0
  obtain ⟨t,ht,hrd⟩:=nextI_in h0;generalize hi:nextI p.S=i at ht e;have eth:thrI p.S i=t:=thrI_of ht;rw[eth] at e;obtain ⟨hfit,hst,hsi⟩:=g.sit i t ht;have hl:∀ a,p.l i≠.done a:=λa ha=>by rw[ha] at hst;have:t.st=3:=hst;simp[rdy,this] at hrd
  have hk:=going_keeps (S:=p.S) (i:=i) (t:=t);have hgt:=going_thr ht;have sta:=resume_sta i mc (p.l i) (going p.S i t) p.K;have hilt:i<p.S.thr.length:=(Qc ht).1;have hoth:∀ j,j≠i->(resume i mc (p.l i) (going p.S i t) p.K).1.thr[j]? = p.S.thr[j]?:=λj hj=>by rw[sta.oth j hj,going_oth hj]
  have hstk:(resume i mc (p.l i) (going p.S i t) p.K).1.stk=p.S.stk:=by rw[sta.stk,hk.2.1]
  cases e;have seen:∀ (Y:List Stp) (chg':List Int) (K':List Int),Adds (going p.S i t) (resume i mc (p.l i) (going p.S i t) p.K).1 Y->(resume i mc (p.l i) (going p.S i t) p.K).1.chg=chg'->(resume i mc (p.l i) (going p.S i t) p.K).2.1.map (·.2)=K'->Aw chg' (resume i mc (p.l i) (going p.S i t) p.K).2.2 (thrI (resume i mc (p.l i) (going p.S i t) p.K).1 i) ->
   Seen ⟨(resume i mc (p.l i) (going p.S i t) p.K).1,(resume i mc (p.l i) (going p.S i t) p.K).2.1,upd p.l i (resume i mc (p.l i) (going p.S i t) p.K).2.2⟩ ⟨K',p.S.stk,chg',λk=>(thrI (resume i mc (p.l i) (going p.S i t) p.K).1 k).se,upd p.l i (resume i mc (p.l i) (going p.S i t) p.K).2.2,v.L++Y⟩ ∧
   Els i (resume i mc (p.l i) (going p.S i t) p.K).2.2 v ⟨K',p.S.stk,chg',λk=>(thrI (resume i mc (p.l i) (going p.S i t) p.K).1 k).se,upd p.l i (resume i mc (p.l i) (going p.S i t) p.K).2.2,v.L++Y⟩:=λY chg' K' ha hc hK hA=>by
   refine ⟨⟨hK.symm,hstk.symm,hc.symm,λ_=>rfl,rfl,?_,?_,λk tk htk j q r kk a hl=>?_⟩,⟨by rw[s.l],λk hne=>?_,λj q r k a h=>(hA j q r k a h).2⟩⟩
   .show (resume i mc (p.l i) (going p.S i t) p.K).1.tr=_
    rw[ha.tr,hk.2.2.2,s.tr,flat_app]
   .show (resume i mc (p.l i) (going p.S i t) p.K).1.n=_
    rw[ha.n,hk.2.2.1,s.n,Qj]
   .have htk:(resume i mc (p.l i) (going p.S i t) p.K).1.thr[k]? = some tk:=htk
    have hl:upd p.l i (resume i mc (p.l i) (going p.S i t) p.K).2.2 k=.wait j q r kk a:=hl;by_cases hne:k=i
    .subst hne
     rw[upd_same] at hl;have:=(hA j q r kk a hl).1;rw[thrI_of htk] at this;exact this
    .rw[upd_ne _ _ hne] at hl
     rw[hoth k hne] at htk;exact s.ce k tk htk j q r kk a hl
   .show (thrI (resume i mc (p.l i) (going p.S i t) p.K).1 k).se=_
    rw[s.se k];unfold thrI;rw[hoth k hne]
  match hpl:p.l i,hl,hfit,hst with
  |.done a,hl,_,_=>exact absurd rfl (hl a)
  |.turn op j q rest ii ans,_,hfit,hst =>
   have hvl:v.l i=.turn op j q rest ii ans:=by rw[s.l];exact hpl
   have hx:v.K.getD j 0=(cellAt p.K j).2:=by rw[s.K];exact getD_cell _ _
   have ht0:thrI (going p.S i t) i={ t with st:=0 }:=thrI_of hgt;rw[hpl] at seen;rw[resume_turn] at seen ⊢;rw[ht0] at seen ⊢;obtain ⟨X,o1,o2,o3,o4,o5⟩:=on_fw (mc:=mc) i rest ii ans (didS (going p.S i t) undef i { t with st:=0 } (mc.turn q (cellAt p.K j).2).1.1 (mc.turn q (cellAt p.K j).2).1.2) (p.K.set j ((cellAt p.K j).1,(mc.turn q (cellAt p.K j).2).2.1)) (mc.turn q (cellAt p.K j).2).2.2 { t with st:=0 } (did_thr hgt);have hadd:=(adds_did (going p.S i t) undef i { t with st:=0 } (mc.turn q (cellAt p.K j).2).1.1 (mc.turn q (cellAt p.K j).2).1.2).trans o2;have ho:t.op=op:=hfit.1;have hc:t.ce=j:=hfit.2;have hadd:Adds (going p.S i t) (on i mc rest ii ans (didS (going p.S i t) undef i { t with st:=0 } (mc.turn q (cellAt p.K j).2).1.1 (mc.turn q (cellAt p.K j).2).1.2) (p.K.set j ((cellAt p.K j).1,(mc.turn q (cellAt p.K j).2).2.1)) (mc.turn q (cellAt p.K j).2).2.2).1 (⟨i,j,op,(mc.turn q (cellAt p.K j).2).1.1,(mc.turn q (cellAt p.K j).2).1.2⟩ :: X):=by rw[<-ho,<-hc];exact hadd
   have hchg:(didS (going p.S i t) undef i { t with st:=0 } (mc.turn q (cellAt p.K j).2).1.1 (mc.turn q (cellAt p.K j).2).1.2).chg=bump p.S.chg j (mc.turn q (cellAt p.K j).2).1.1 (mc.turn q (cellAt p.K j).2).1.2:=by
    unfold didS bump;by_cases hb:(mc.turn q (cellAt p.K j).2).1.1≠(mc.turn q (cellAt p.K j).2).1.2∧j<p.S.chg.length
    .rw[if_pos ⟨hb.1,by show (0:Int)<=t.ce;omega,by show t.ce<((going p.S i t).chg.length:Int);rw[hk.1];omega⟩,if_pos hb]
     show (going p.S i t).chg.modify t.ce.toNat _=_;rw[hk.1,hc];rfl
    .rw[if_neg (λh=>hb ⟨h.1,by have h3:t.ce<((going p.S i t).chg.length:Int):=h.2.2;rw[hk.1] at h3;omega⟩),if_neg hb]
     exact hk.1
   have hds:(didS (going p.S i t) undef i { t with st:=0 } (mc.turn q (cellAt p.K j).2).1.1 (mc.turn q (cellAt p.K j).2).1.2).stk=p.S.stk:=by rw[(sta_did (i:=i) _ _ _ _ _).stk,hk.2.1]
   rw[hchg] at o3 o4;rw[hds] at o1;obtain ⟨z1,z2⟩:=seen _ _ _ hadd o3 (by rw[o5]) o4;refine ⟨_,.turn i op j q rest ii ans X _ hilt hvl (by rw[s.stk,hx];exact o1) z2 ?_ s.stk.symm (by rw[hx,s.chg]) (by rw[hx]),z1⟩;show (p.K.set j _).map (·.2)=_;rw[s.K,List.map_set,<-s.K,hx]
  |.wait j q rest ii ans,_,hfit,hst =>
   have hvl:v.l i=.wait j q rest ii ans:=by rw[s.l];exact hpl
   have hst:t.st=2:=hst;have hce:=s.ce i t ht j q rest ii ans hpl;rw[hpl] at seen;rw[resume_wait] at seen ⊢;cases hs:p.S.stk with
   |true =>
    have hs':(going p.S i t).stk=true:=by rw[hk.2.1];exact hs
    rw[if_pos hs'] at seen ⊢;obtain ⟨X,o1,o2,o3,o4,o5⟩:=back_fw (mc:=mc) i rest ii ans (mc.stuck q) (going p.S i t) p.K { t with st:=0 } hgt;rw[hs'] at o1;rw[hk.1] at o3 o4;obtain ⟨z1,z2⟩:=seen _ _ _ o2 o3 (by rw[o5]) o4;exact ⟨_,.free i j q rest ii ans X _ hilt hvl (by rw[s.stk];exact hs) o1 z2 s.K.symm hs s.chg.symm rfl,z1⟩
   |false =>
    have hs':(going p.S i t).stk=false:=by rw[hk.2.1];exact hs
    rw[if_neg (by rw[hs'];decide)] at seen ⊢;obtain ⟨X,o1,o2,o3,o4,o5⟩:=on_fw (mc:=mc) i rest ii ans (noted (going p.S i t) undef i 6 j 0 0) p.K (mc.woke q) { t with st:=0 } hgt;have hs2:(noted (going p.S i t) undef i 6 j 0 0).stk=false:=hs';rw[hs2] at o1;have hc2:(noted (going p.S i t) undef i 6 j 0 0).chg=p.S.chg:=hk.1;rw[hc2] at o3 o4;obtain ⟨z1,z2⟩:=seen _ _ _ ((adds_noted (going p.S i t) undef i 6 j 0 0).trans o2) o3 (by rw[o5]) o4;refine ⟨_,.wake i j q rest ii ans X _ hilt hvl (by rw[s.stk];exact hs) ?_ o1 z2 s.K.symm hs s.chg.symm rfl,z1⟩;rw[s.chg,s.se i,eth,<-hce];simpa [rdy,hst,hs] using hrd
theorem turns_mv (M:Met mc) {Inv:Vw->Prop}{N:Nat}(hI:∀ v v1,Inv v->Mv mc N v v1->Inv v1) (h:Turns mc m p p'):∀ v,p.S.thr.length=N->Gd M p->Seen p v->Inv v->∃ v',Inv v'∧Seen p' v'∧p'.S.thr.length=N∧∀ i,i<N->∃ a,v'.l i=.done a:=by
 induction h with
 |@stop p hs =>
  intro v hN g s hv;refine ⟨v,hv,s,hN,λi hi=>?_⟩;obtain ⟨t,ht⟩:∃ t,p.S.thr[i]? = some t:=⟨_,Qf (by omega)⟩
  obtain ⟨_,h2,_⟩:=g.sit i t ht;unfold pturn at hs;split at hs
  .rename_i h0
   split at hs;cases hs
   .rename_i hw
    rw[s.l]
    match hl:p.l i,h2 with
    |.done a,_=>exact ⟨a,rfl⟩
    |.turn _ _ _ _ _ _,h2 =>
     have h2:t.st=1:=h2;have:i∈rdyIds p.S p.S.thr.length:=by unfold rdyIds;rw[List.mem_filter];exact ⟨List.mem_range.2 (by omega),by rw[ht];simp[rdy,h2]⟩
     rw[h0] at this;cases this
    |.wait _ _ _ _ _,h2 =>have h2:t.st=2:=h2;exfalso;apply hw;unfold waits2;rw[List.any_eq_true];exact ⟨i,List.mem_range.2 (by omega),by rw[ht];simp[h2]⟩
  cases hs
 |@step n p p1 p' e _ ih =>
  intro v hN g s hv;obtain ⟨v1,m1,s1⟩:=pturn_mv M g s e;rw[hN] at m1;have hlen:p1.S.thr.length=N:=by
   unfold pturn at e;split at e
   .split at e
    cases e;exact hN;cases e
   .cases e
    show (resume _ _ _ _ _).1.thr.length=_;rw[(resume_sta _ _ _ _ _).len,going_len,hN]
  exact ih v1 hlen (pturn_mu M g e).1 s1 (hI v v1 hv m1)
end
end Go.Proofs.YtfjjoohflcchnaaDoor.Gen.Mf
namespace Go.Proofs.YtfjjoohflcchnaaDoor.Gen
open Go Go.Lift Go.Conc Go.RowKit
variable {s:Nat} {q:Q}
def okC (s:Nat) (q:Q):Prop:=(q.1=0∧q.2.length=2)∨(q.1=1∧q.2.length=3)∨(q.1=2∧q.2.length<s)∨(q.1=3∧s<=q.2.length∧q.2.length<2*s)
instance (s:Nat) (q:Q):Decidable (okC s q):=by unfold okC;infer_instance
def levC (s:Nat) (q:Q):Nat:=if okC s q then 1 else 0
def agrC (s:Nat) (d:List Int) (f:Nat->Int):Prop:=d=(List.range d.length).map λk=>f (k % s)
instance (s:Nat) (d:List Int) (f:Nat->Int):Decidable (agrC s d f):=by unfold agrC;infer_instance
def wsC (s:Nat) (q:Q) (f:Nat->Int):Nat :=
 if q.1=0 then 2 else if q.1=1 then (if f (q.2.getD 0 0).toNat=q.2.getD 2 0 then 1 else 3)
 else if s<=16 then (2*s - q.2.length)+(if agrC s q.2 f then 0 else 2*s) else 0
def clC (s:Nat) (q:Q):Nat:=if q.1=0 then (q.2.getD 0 0).toNat else if q.1=1 then (q.2.getD 0 0).toNat else if q.1=2 then q.2.length else q.2.length - s
theorem agrC_next {d:List Int}{f:Nat->Int}{x:Int}(hx:f (d.length % s)=x):agrC s (d++[x]) f↔agrC s d f:=by
 unfold agrC;rw[Qj,List.length_singleton,List.range_succ,List.map_append];simp only[List.map_cons,List.map_nil,hx];constructor
 .intro h
  exact List.append_cancel_right h
 .intro h
  rw[<-h]
theorem agrC_same {d:List Int}{f:Nat->Int}(h:agrC s d f) (hl:d.length=2*s):d.take s=d.drop s:=by
 unfold agrC at h;rw[hl] at h;apply List.ext_getElem?;intro k;rw[List.getElem?_drop,List.getElem?_take];by_cases hk:k<s
 .rw[if_pos hk,h]
  simp[hk,show k<2*s by omega,show s+k<2*s by omega]
 rw[if_neg hk,List.getElem?_eq_none (by omega)]
theorem lev_ok (h:1<=levC s q):okC s q:=by unfold levC at h;split at h;assumption;omega
theorem lev_of (h:okC s q):levC s q=1:=if_pos h
theorem ok0 (s:Nat) (a b:Int):okC s (0,[a,b]):=.inl ⟨rfl,rfl⟩
theorem ok1 (s:Nat) (a b c:Int):okC s (1,[a,b,c]):=.inr (.inl ⟨rfl,rfl⟩)
theorem ok2 {l:List Int}(h:l.length<s):okC s (2,l):=.inr (.inr (.inl ⟨rfl,h⟩))
theorem ok3 {l:List Int}(h:s<=l.length) (h2:l.length<2*s):okC s (3,l):=.inr (.inr (.inr ⟨rfl,h,h2⟩))
theorem ws2 (h16:s<=16) {n:Nat}(hn:n=2∨n=3) (d:List Int) (f:Nat->Int):wsC s (n,d) f=(2*s - d.length)+(if agrC s d f then 0 else 2*s):=by unfold wsC;rcases hn with rfl|rfl<;>simp[h16]
theorem Af {op:Nat}{j:Nat}(h:okC s q) (hj:j=clC s q):Mf.seatOk 1 (levC s) (clC s) (λ_=>False) (.turn op j q):=⟨by rw[lev_of h];exact Qi _,by rw[lev_of h];exact Qi _,hj⟩
def metC (s:Nat) (h0:0<s) (h16:s<=16):Mf.Met (mcC s) where
 L:=1
 hL:=Qi _
 lev:=levC s
 ws:=wsC s
 cl:=clC s
 wq _:=False
 ws_le q f:=by
  unfold wsC;split;omega
  .split
   .split<;>omega
   .have hq:(if agrC s q.2 f then 0 else 2*s)<=32:=by split<;>omega
    omega
 start i c:=by
  unfold mcC;simp only;split;exact Af (ok0 _ _ _) (by show i % s=((i % s:Nat):Int).toNat;rw[Int.toNat_natCast])
  .split
   exact Af (ok2 (by simpa using h0)) (by simp[clC]);trivial
 turn q f x hx h1 _:=by
  have hok:=lev_ok h1;have hl1:=lev_of hok;obtain ⟨n,d⟩:=q;rcases hok with ⟨e,hd⟩|⟨e,hd⟩|⟨e,hd⟩|⟨e,hd,hd2⟩
  .simp only at e hd
   subst e
   match d,hd with
   | [a,b],_ =>
    have hx':f a.toNat=x:=by simpa [clC] using hx
    refine ⟨Af (ok1 _ _ _ _) (by simp[clC]),.inr ⟨rfl,rfl,?_,?_⟩⟩
    .show levC s (1,[a,b,x])=_
     rw[hl1,lev_of (ok1 _ _ _ _)]
    .show wsC s (1,[a,b,x]) f+1<=wsC s (0,[a,b]) f
     simp[wsC,hx']
  .simp only at e hd
   subst e
   match d,hd with
   | [a,b,c],_ =>
    have hx':f a.toNat=x:=by simpa [clC] using hx
    unfold mcC;simp only[show ¬ ((1:Nat)=0) by decide,if_false,if_true];by_cases hc:x=c
    .subst hc
     simp only[List.getD_cons_succ,List.getD_cons_zero,if_true];exact ⟨trivial,.inl (by rw[hl1];exact Nat.one_pos)⟩
    .have hc':¬ (f a.toNat=c):=by rw[hx'];exact hc
     simp only[List.getD_cons_succ,List.getD_cons_zero,hc,if_false,effCas];refine ⟨Af (ok0 _ _ _) (by simp[clC]),.inr ⟨trivial,trivial,?_,?_⟩⟩
     .show levC s (0,[a,b])=_
      rw[hl1,lev_of (ok0 _ _ _)]
     .show wsC s (0,[a,b]) f+1<=wsC s (1,[a,b,c]) f
      simp[wsC,hc']
  .simp only at e hd
   subst e;have hx':f (d.length % s)=x:=by rw[Nat.mod_eq_of_lt hd];simpa [clC] using hx
   have hlen:(d++[x]).length=d.length+1:=by simp
   have hag:=agrC_next hx';show Mf.seatOk 1 (levC s) (clC s) (λ_=>False) (nx2 s (d++[x]))∧_;have hws:∀ n,n=2∨n=3->wsC s (n,d++[x]) f+1<=wsC s (2,d) f:=λn hn=>by rw[ws2 h16 hn,ws2 h16 (.inl rfl),hlen,show (if agrC s (d++[x]) f then 0 else 2*s)=(if agrC s d f then 0 else 2*s) by simp only[hag]];omega
   by_cases hl:d.length+1<s
   .have e2:nx2 s (d++[x])=.turn 1 (d++[x]).length (2,d++[x]):=by unfold nx2;rw[if_pos (by rw[hlen];exact hl)]
    have e3:(mcC s).turn (2,d) x=((x,x),x,nx2 s (d++[x])):=rfl;rw[e3,e2];refine ⟨Af (ok2 (by rw[hlen];exact hl)) (by simp[clC]),.inr ⟨rfl,rfl,?_,hws 2 (.inl rfl)⟩⟩;show levC s (2,d++[x])=_;rw[hl1,lev_of (ok2 (by rw[hlen];exact hl))]
   .have e2:nx2 s (d++[x])=.turn 1 0 (3,d++[x]):=by unfold nx2;rw[if_neg (by rw[hlen];exact hl)]
    have e3:(mcC s).turn (2,d) x=((x,x),x,nx2 s (d++[x])):=rfl;have hok3:okC s (3,d++[x]):=ok3 (by rw[hlen];omega) (by rw[hlen];omega);rw[e3,e2];refine ⟨Af hok3 (by simp[clC];omega),.inr ⟨rfl,rfl,?_,hws 3 (.inr rfl)⟩⟩;show levC s (3,d++[x])=_;rw[hl1,lev_of hok3]
  .simp only at e hd hd2
   subst e;have hm:d.length % s=d.length - s:=by
    have:d.length=(d.length - s)+s:=by omega
    rw[this,Nat.add_mod_right,Nat.mod_eq_of_lt (by omega)];omega
   have hx':f (d.length % s)=x:=by rw[hm];simpa [clC] using hx
   have hlen:(d++[x]).length=d.length+1:=by simp
   have hag:=agrC_next hx';have e3:(mcC s).turn (3,d) x=((x,x),x,nx3 s (d++[x])):=rfl;rw[e3];by_cases hl:d.length+1<2*s
   .have e2:nx3 s (d++[x])=.turn 1 ((d++[x]).length - s) (3,d++[x]):=by unfold nx3;rw[if_pos (by rw[hlen];exact hl)]
    have hok3:okC s (3,d++[x]):=ok3 (by rw[hlen];omega) (by rw[hlen];exact hl);rw[e2];refine ⟨Af hok3 (by simp[clC]),.inr ⟨rfl,rfl,?_,?_⟩⟩
    .show levC s (3,d++[x])=_
     rw[hl1,lev_of hok3]
    .show wsC s (3,d++[x]) f+1<=wsC s (3,d) f
     rw[ws2 h16 (.inr rfl),ws2 h16 (.inr rfl),hlen,show (if agrC s (d++[x]) f then 0 else 2*s)=(if agrC s d f then 0 else 2*s) by simp only[hag]];omega
   .by_cases ht:(d++[x]).take s=(d++[x]).drop s
    .have e2:nx3 s (d++[x])=.ans 0 (R1.totI ((d++[x]).drop s)):=by unfold nx3;rw[if_neg (by rw[hlen];exact hl),if_pos ht]
     rw[e2];exact ⟨trivial,.inl (by rw[hl1];exact Nat.one_pos)⟩
    .have e2:nx3 s (d++[x])=.turn 1 0 (2,[]):=by unfold nx3;rw[if_neg (by rw[hlen];exact hl),if_neg ht]
     have hna:¬ agrC s d f:=λha=>ht (agrC_same (hag.2 ha) (by rw[hlen];omega));rw[e2];refine ⟨Af (ok2 (by simpa using h0)) (by simp[clC]),.inr ⟨rfl,rfl,?_,?_⟩⟩
     .show levC s (2,[])=_
      rw[hl1,lev_of (ok2 (by simpa using h0))]
     .show wsC s (2,[]) f+1<=wsC s (3,d) f
      rw[ws2 h16 (.inl rfl),ws2 h16 (.inr rfl),if_neg hna,if_pos (by unfold agrC;rfl)];simp only[List.length_nil];omega
 woke q _ _ h:=h.elim
end Go.Proofs.YtfjjoohflcchnaaDoor.Gen
namespace Go.Proofs.YtfjjoohflcchnaaDoor.R1
open Go Go.RowKit Go.Proofs.YtfjjoohflcchnaaDoor.Pl
def ver (x:Int):Int:=getI x 32 30
theorem ver_in (x:Int):0<=ver x∧ver x<1073741824:=⟨Aa x 32 30,by have:=getI_lt x 32 30;unfold ver;omega⟩
theorem ver_addI (x n:Int):ver (addI x n)=(ver x+1) % 1073741824:=by unfold ver addI;have h:=verB_in (addA x n);rw[verB_eq] at h;rw[get_put _ _ 32 30 (by decide) (by decide) h.1 h.2];unfold addA;rw[get_apart _ _ 0 32 32 30 (by decide) (by decide) (by decide) (λi=>by omega)]
theorem addI_ne (x n:Int):addI x n≠x:=λe=>by have h1:=ver_addI x n;rw[e] at h1;have:=ver_in x;omega
theorem ver_zero:ver 0=0:=by decide +kernel
theorem amtS_small {x n:Int}(hn:-1000<n∧n<1000) (hx:-1000000<=amtS x∧amtS x<=1000000):amtS (addI x n)=amtS x+n:=by have h:=amtS_eq x;have h2:=amtS_eq (addI x n);rw[amt_addI] at h2;have h0:=Aa x 0 32;have h1:=getI_lt x 0 32;unfold wrap32 at h h2;omega
theorem totI_sum:∀ (l:List Int) (a:Int),(∀ x∈l,-1000000<=amtS x∧amtS x<=1000000)->l.length<=16->-16000000<=a∧a<=16000000->l.foldl (λs v=>wrap64 (s+amtS v)) a=a+(l.map amtS).sum
 | [],a,_,_,_=>by simp
 |x :: l,a,h,hl,ha=>by
  have hx:=h x (List.mem_cons_self ..);have e:wrap64 (a+amtS x)=a+amtS x:=by unfold wrap64;omega
  rw[List.foldl_cons,e];have go:∀ (l:List Int) (b:Int),(∀ x∈l,-1000000<=amtS x∧amtS x<=1000000)->-4000000000+1000000*(l.length:Int)<=b->b<=4000000000 - 1000000*(l.length:Int)->l.foldl (λs v=>wrap64 (s+amtS v)) b=b+(l.map amtS).sum:=by
   intro l;induction l with
   |nil=>intro b _ _ _;simp
   |cons y l ih =>
    intro b h h1 h2;have hy:=h y (List.mem_cons_self ..);simp only[List.length_cons] at h1 h2;have e:wrap64 (b+amtS y)=b+amtS y:=by unfold wrap64;omega
    rw[List.foldl_cons,e,ih (b+amtS y) (λx hx=>h x (List.mem_cons_of_mem _ hx)) (by omega) (by omega)];simp only[List.map_cons,List.sum_cons];omega
  rw[go l (a+amtS x) (λx hx=>h x (List.mem_cons_of_mem _ hx)) (by simp only[List.length_cons] at hl;omega) (by simp only[List.length_cons] at hl;omega)];simp only[List.map_cons,List.sum_cons];omega
theorem totI_is (l:List Int) (h:∀ x∈l,-1000000<=amtS x∧amtS x<=1000000) (hl:l.length<=16):totI l=(l.map amtS).sum:=by have:=totI_sum l 0 h hl (by omega);unfold totI;omega
end Go.Proofs.YtfjjoohflcchnaaDoor.R1
