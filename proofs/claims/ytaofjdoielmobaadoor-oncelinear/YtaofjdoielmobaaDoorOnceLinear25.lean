/- Of the proof of OnceLinear. Part 25 of 30. (Joined, by program, and written short, of: GOfs, R3w, R3s, GIns, GLinE, La4a, GWb, GFin, GAe, OnE, OnI.) -/
import Derived.Test.YtaofjdoielmobaaDoorOnceLinear13
import Derived.Test.YtaofjdoielmobaaDoorOnceLinear14
import Derived.Test.YtaofjdoielmobaaDoorOnceLinear19
import Derived.Test.YtaofjdoielmobaaDoorOnceLinear23
import Derived.Test.YtaofjdoielmobaaDoorOnceLinear24
import Derived.BigQuiet
import Derived.Deep.RegionHeld3
import Derived.BigRegion
import Derived.Deep.RegionLaw
set_option linter.unusedSimpArgs false
set_option linter.unusedVariables false
set_option maxHeartbeats 4000000
set_option maxRecDepth 100000
namespace Go.Proofs.YtaofjdoielmobaaDoor.Gen
open Go Go.Lift Go.Conc Go.RowKit
open Go.Proofs.YtaofjdoielmobaaDoor.His
open Go.ConcN (upd upd_same upd_ne)
def Ey (s:Stp):R3.Step:=⟨s.th,s.ce,s.op,s.ol,s.ne⟩
def toCall (c:Cl):R3.Call:=⟨c.po,c.ca,c.cb,c.cc⟩
def scL (N:Nat) (cl:Nat->List Cl):List (List R3.Call):=(List.range N).map fun i=>(cl i).map toCall
def anL (N:Nat) (an:Nat->List (Int×Int)):List (List (Int×Int)):=(List.range N).map an
def Ds (L:List Stp) (id:Nat->Nat):Nat->Nat×Nat×Nat:=fun t=>((nt L t+1) / 2,nt L t / 2,id t)
theorem Es (N:Nat) (cl:Nat->List Cl):(scL N cl).length=N:=by simp[scL]
theorem anL_len (N:Nat) (an:Nat->List (Int×Int)):(anL N an).length=N:=by simp[anL]
theorem scL_get {N:Nat}(cl:Nat->List Cl) {i:Nat}(h:i<N):(scL N cl).getD i []=(cl i).map toCall:=by
 simp[scL,List.getD_eq_getElem?_getD,h]
theorem anL_get {N:Nat}(an:Nat->List (Int×Int)) {i:Nat}(h:i<N):(anL N an).getD i []=an i:=by
 simp[anL,List.getD_eq_getElem?_getD,h]
theorem alike_of {N:Nat}{cl:Nat->List Cl}{an:Nat->List (Int×Int)}(hl:∀ i,i<N->(an i).length=(cl i).length):R3.Alike (scL N cl) (anL N an):=by
 refine ⟨by rw[Es,anL_len],fun i hi=>?_⟩
 rw[Es] at hi
 rw[scL_get cl hi,anL_get an hi,List.length_map,hl i hi]
theorem Gh {N:Nat}{cl:Nat->List Cl}{an:Nat->List (Int×Int)}{M:List Stp}(h:Fit9 N cl an M):∀ (L:List Stp) (x:Stp),M=L++[x]->Fit9 N cl an L∧((x.op=9∨x.op=10)->∃ i:Nat,x.th=(i:Int)∧i<N):=by
 cases h with
 |nil=>intro L x e;exact absurd e.symm (by simp)
 |other h h9 h10 =>
  intro L x e
  obtain ⟨rfl,rfl⟩:=snoc_inj e
  exact ⟨h,fun hh=>by rcases hh with hh|hh;exact absurd hh h9;exact absurd hh h10⟩
 |beg h hi hn hk h4 =>
  intro L x e
  obtain ⟨rfl,rfl⟩:=snoc_inj e
  exact ⟨h,fun _=>⟨_,rfl,hi⟩⟩
 |fin h hi hn hk ha =>
  intro L x e
  obtain ⟨rfl,rfl⟩:=snoc_inj e
  exact ⟨h,fun _=>⟨_,rfl,hi⟩⟩
theorem ofs_ev {N:Nat}{cl:Nat->List Cl}{an:Nat->List (Int×Int)}(hl:∀ i,i<N->(an i).length=(cl i).length) {L:List Stp}{E:List His.Ev}{id:Nat->Nat}(h:Ev9 cl an L E id) :
 Fit9 N cl an L->∀ l r,R3.Ofs (scL N cl) (anL N an) 0 (L.map Ey++l) R3.st0 r->R3.Ofs (scL N cl) (anL N an) L.length l ⟨E,Ds L id⟩ r:=by
 induction h with
 |nil =>
  intro _ l r ho
  have et:Ds [] (fun _=>0)=fun _=>(0,0,0):=funext fun t=>by simp[Ds,nt]
  rw[et];exact ho
 |@other L x E id h h9 h10 ih =>
  intro hF l r ho
  obtain ⟨hF,_⟩:=Gh hF _ _ rfl
  rw[List.map_append,List.append_assoc] at ho
  have:=R3.ofs_skip (show (Ey x).op≠9 from h9) (show (Ey x).op≠10 from h10) (ih hF _ _ ho)
  have et:Ds (L++[x]) id=Ds L id:=funext fun t=>by simp only[Ds,nt_no h9 h10]
  rw[List.length_append,List.length_singleton,et]
  exact this
 |@beg L E id i k c h hn hc ih =>
  intro hF l r ho
  obtain ⟨hF,hi⟩:=Gh hF _ _ rfl
  obtain ⟨j,hj,hi⟩:=hi (.inl rfl)
  have hj:(i:Int)=j:=hj
  obtain rfl:i=j:=by omega
  rw[List.map_append,List.append_assoc] at ho
  have hk:k<(cl i).length:=(List.getElem?_eq_some_iff.1 hc).1
  have t1:(Ds L id i).1=k:=by show (nt L i+1) / 2=k;omega
  have t2:(Ds L id i).2.1=k:=by show nt L i / 2=k;omega
  have:=R3.ofs_begin (t:=i) (show (Ey ⟨i,-1,9,k,0⟩).op=9 from rfl) rfl (by rw[Es];exact hi) ⟨by rw[t1,t2],by rw[t1,anL_get an hi,hl i hi];exact hk,by rw[t1];rfl,rfl⟩ (ih hF _ _ ho)
  have es:R3.Cs (scL N cl) ⟨E,Ds L id⟩ i L.length=⟨E++[⟨i,c.po,c.ca,c.cb,L.length,-1,4,0⟩],Ds (L++[⟨i,-1,9,k,0⟩]) (upd id i E.length)⟩:=by
   unfold R3.Cs
   simp only[t1,t2,scL_get cl hi]
   have e1:((cl i).map toCall).getD k R3.Fg=toCall c:=by simp[List.getD_eq_getElem?_getD,hc]
   rw[e1]
   congr 1
   funext t
   by_cases e:t=i
   ·subst e
    simp only[R3.upd,if_pos,Ds,upd_same,Dg _ _ _ _ (.inl rfl),hn]
    congr 1
    ·omega
    ·congr 1;omega
   ·simp only[R3.upd,if_neg e,Ds,upd_ne _ _ e,D2 _ e]
  rw[List.length_append,List.length_singleton,←es]
  exact this
 |@stuck L E id i k a h hn ha h4 ih =>
  intro hF l r ho
  obtain ⟨hF,hi⟩:=Gh hF _ _ rfl
  obtain ⟨j,hj,hi⟩:=hi (.inr rfl)
  have hj:(i:Int)=j:=hj
  obtain rfl:i=j:=by omega
  rw[List.map_append,List.append_assoc] at ho
  have t1:(Ds L id i).1=k+1:=by show (nt L i+1) / 2=k+1;omega
  have t2:(Ds L id i).2.1=k:=by show nt L i / 2=k;omega
  have ea:(an i).getD k (0,0)=a:=by simp[List.getD_eq_getElem?_getD,ha]
  have:=R3.ofs_end (t:=i) (show (Ey ⟨i,-1,10,k,a.1⟩).op=10 from rfl) rfl (by rw[Es];exact hi) ⟨by rw[t1,t2];omega,by rw[t2];rfl,by rw[t2,anL_get an hi,ea];rfl⟩ (ih hF _ _ ho)
  have es:R3.endSt (anL N an) ⟨E,Ds L id⟩ i L.length=⟨E,Ds (L++[⟨i,-1,10,k,a.1⟩]) id⟩:=by
   unfold R3.endSt
   simp only[t1,t2,anL_get an hi,ea,h4,if_pos]
   congr 1
   funext t
   by_cases e:t=i
   ·subst e
    simp only[R3.upd,if_pos,Ds,Dg _ _ _ _ (.inr rfl),hn]
    congr 1
    ·omega
    ·congr 1;omega
   ·simp only[R3.upd,if_neg e,Ds,D2 _ e]
  rw[List.length_append,List.length_singleton,←es]
  exact this
 |@fin L E id i k a e h hn ha h4 he ih =>
  intro hF l r ho
  obtain ⟨hF,hi⟩:=Gh hF _ _ rfl
  obtain ⟨j,hj,hi⟩:=hi (.inr rfl)
  have hj:(i:Int)=j:=hj
  obtain rfl:i=j:=by omega
  rw[List.map_append,List.append_assoc] at ho
  have t1:(Ds L id i).1=k+1:=by show (nt L i+1) / 2=k+1;omega
  have t2:(Ds L id i).2.1=k:=by show nt L i / 2=k;omega
  have t3:(Ds L id i).2.2=id i:=rfl
  have ea:(an i).getD k (0,0)=a:=by simp[List.getD_eq_getElem?_getD,ha]
  have:=R3.ofs_end (t:=i) (show (Ey ⟨i,-1,10,k,a.1⟩).op=10 from rfl) rfl (by rw[Es];exact hi) ⟨by rw[t1,t2];omega,by rw[t2];rfl,by rw[t2,anL_get an hi,ea];rfl⟩ (ih hF _ _ ho)
  have es:R3.endSt (anL N an) ⟨E,Ds L id⟩ i L.length=⟨E.set (id i) ⟨e.thr,e.op,e.a,e.b,e.beg,L.length,a.1,a.2⟩,Ds (L++[⟨i,-1,10,k,a.1⟩]) id⟩:=by
   unfold R3.endSt
   simp only[t1,t2,t3,anL_get an hi,ea,h4,if_neg,not_false_eq_true]
   rw[G2 he]
   unfold R3.ended
   congr 1
   funext t
   by_cases e:t=i
   ·subst e
    simp only[R3.upd,if_pos,Ds,Dg _ _ _ _ (.inr rfl),hn]
    congr 1
    ·omega
    ·congr 1;omega
   ·simp only[R3.upd,if_neg e,Ds,D2 _ e]
  rw[List.length_append,List.length_singleton,←es]
  exact this
theorem ofs_is {N:Nat}{cl:Nat->List Cl}{an:Nat->List (Int×Int)}(hl:∀ i,i<N->(an i).length=(cl i).length) {L:List Stp}{E:List His.Ev}{id:Nat->Nat}(h:Ev9 cl an L E id) (hF:Fit9 N cl an L) {r:Option R3.St}
 (ho:R3.Ofs (scL N cl) (anL N an) 0 (L.map Ey) R3.st0 r):r=some ⟨E,Ds L id⟩ :=
 ofs_ev hl h hF [] r (by rw[List.append_nil];exact ho)
end Go.Proofs.YtaofjdoielmobaaDoor.Gen
namespace Go.Proofs.YtaofjdoielmobaaDoor.R3
open Go.RowKit Go.Proofs.YtaofjdoielmobaaDoor.His Go.Deep Go.Maps
def SLw {α:Type}(n:Nat) (enc:α->List Value) (w:World) (v:Value) (l:List α):Prop :=
 ∃ p cap,v=.slice p l.length cap∧l.length≤9223372036854775807∧maxLen≤maxLen∧∀ i a,l[i]? = some a->∃ blk off,p=some ⟨blk,off,none⟩∧blk<w.heap.size∧w.rangeAt blk (off+i*n) (enc a)
def SSw {α:Type}(n:Nat) (enc:α->List Value) (w:World) (v:Value) (ll:List (List α)):Prop :=
 ∃ p cap,v=.slice p ll.length cap∧ll.length≤9223372036854775807∧maxLen≤maxLen∧∀ i l,ll[i]? = some l->∃ blk off vi,p=some ⟨blk,off,none⟩∧w.cell? ⟨blk,off+i,none⟩=some vi∧SLw n enc w vi l
theorem SLw.later {α:Type}{n:Nat}{enc:α->List Value}{w w':World}{v:Value}{l:List α}(hb:Below w.heap.size w w') (h:SLw n enc w v l):SLw n enc w' v l:=by
 obtain ⟨p,cap,rfl,h1,h2,h3⟩:=h
 refine ⟨p,cap,rfl,h1,h2,fun i a hi=>?_⟩
 obtain ⟨blk,off,e,hlt,hr⟩:=h3 i a hi
 exact ⟨blk,off,e,Nat.lt_of_lt_of_le hlt hb.size,Bd hb hr hlt⟩
theorem SSw.later {α:Type}{n:Nat}{enc:α->List Value}{w w':World}{v:Value}{ll:List (List α)}(hb:Below w.heap.size w w') (h:SSw n enc w v ll):SSw n enc w' v ll:=by
 obtain ⟨p,cap,rfl,h1,h2,h3⟩:=h
 refine ⟨p,cap,rfl,h1,h2,fun i l hi=>?_⟩
 obtain ⟨blk,off,vi,e,hc,hs⟩:=h3 i l hi
 exact ⟨blk,off,vi,e,by rw[hb.cell (p:=⟨blk,off+i,none⟩) (World.block_lt_of_cell? _ _ hc)];exact hc,hs.later hb⟩
def sumL (sc:List (List Call)):Nat->Nat
 |0=>0
 |k+1=>sumL sc k+(sc.getD k []).length
theorem sumL_le {sc:List (List Call)}(h:∀ i,(sc.getD i []).length≤64):∀ k,sumL sc k≤64*k
 |0=>Nat.le_refl _
 |k+1=>by have:=sumL_le h k;have:=h k;show sumL sc k+_≤_;omega
def OpIn (ops:Int) (c:Call):Prop:=1≤c.op∧c.op≤ops
end Go.Proofs.YtaofjdoielmobaaDoor.R3
namespace Go.Proofs.YtaofjdoielmobaaDoor.Gen
open Go Go.Lift Go.Conc Go.RowKit
def InR (x:Int):Prop:=-9223372036854775808≤x∧x<9223372036854775808
def Cl.ok (c:Cl):Prop:=InR c.cb∧InR c.cc
structure InI (W:World) (p:Option Addr) (b o:Nat) (xs:List Int):Prop where
 at_:0<xs.length->p=some ⟨b,o,none⟩
 cell:∀ k x,xs[k]? = some x->W.cell? ⟨b,o+k,none⟩=some (I x)
 inr:∀ x∈xs,InR x
 len:xs.length≤17592186043904
theorem InI.grows {W W':World}{p:Option Addr}{b o:Nat}{xs:List Int}(h:InI W p b o xs) (g:Grows W W'):InI W' p b o xs :=
 ⟨h.at_,fun k x hk=>g.cell (h.cell k x hk),h.inr,h.len⟩
structure InS (W:World) (p:Option Addr) (b o n:Nat) (pc:Nat->Option Addr) (ln cp rb:Nat->Nat) (cl:Nat->List Cl):Prop where
 at_:0<n->p=some ⟨b,o,none⟩
 row:∀ k,k<n->W.cell? ⟨b,o+k,none⟩=some (.slice (pc k) (ln k) (cp k))
 len:∀ j,j<n->(cl j).length=ln j
 pq:∀ j,j<n->0<ln j->pc j=some ⟨rb j,roOf (pc j),none⟩
 call:∀ j,j<n->∀ (k:Nat) (c:Cl),(cl j)[k]? = some c->W.cell? ⟨rb j,roOf (pc j)+k*4,none⟩=some (I c.po)∧W.cell? ⟨rb j,roOf (pc j)+k*4+1,none⟩=some (I c.ca)∧W.cell? ⟨rb j,roOf (pc j)+k*4+2,none⟩=some (I c.cb)∧W.cell? ⟨rb j,roOf (pc j)+k*4+3,none⟩=some (I c.cc)
 ok:∀ j,j<n->∀ c∈cl j,InR c.ca∧c.ok
 n:n≤17592186043904
theorem InS.grows {W W':World}{p:Option Addr}{b o n:Nat}{pc:Nat->Option Addr}{ln cp rb:Nat->Nat}{cl:Nat->List Cl}(h:InS W p b o n pc ln cp rb cl) (g:Grows W W'):InS W' p b o n pc ln cp rb cl :=
 ⟨h.at_,fun k hk=>g.cell (h.row k hk),h.len,h.pq,fun j hj k c hc=>by
  have:=h.call j hj k c hc
  exact ⟨g.cell this.1,g.cell this.2.1,g.cell this.2.2.1,g.cell this.2.2.2⟩,h.ok,h.n⟩
theorem lens_scrs (mc:Mc) (fid:FuncId) (caps:Array Value) (pk:Nat->Option Obj) (N n:Nat) (K:List (Nat×Int)) (pc:Nat->Option Addr) (ln cp rb:Nat->Nat) (cl:Nat->List Cl) (hl:∀ j,j<n->(cl j).length≤64):lens (scrs mc fid caps pk N n K pc ln cp rb cl)≤64*n:=by
 unfold lens scrs
 rw[List.map_map]
 have:∀ (m j:Nat),j+m≤n->((List.range' j m).map ((fun s:Scr mc=>s.calls.length) ∘ scrOf mc fid caps pk N n (K.map (·.1)) pc ln cp rb cl)).sum≤64*m:=by
  intro m
  induction m with
  |zero=>intro j _;simp
  |succ m ih =>
   intro j hj
   rw[List.range'_succ,List.map_cons,List.sum_cons]
   have h1:=ih (j+1) (by omega)
   have h2:((fun s:Scr mc=>s.calls.length) ∘ scrOf mc fid caps pk N n (K.map (·.1)) pc ln cp rb cl) j≤64:=hl j (by omega)
   omega
 exact this n 0 (by omega)
theorem scrs_len (mc:Mc) (fid:FuncId) (caps:Array Value) (pk:Nat->Option Obj) (N n:Nat) (K:List (Nat×Int)) (pc:Nat->Option Addr) (ln cp rb:Nat->Nat) (cl:Nat->List Cl):(scrs mc fid caps pk N n K pc ln cp rb cl).length=n:=by simp[scrs]
theorem asked_of {W v:World}{p:Option Addr}{b o n:Nat}{pc:Nat->Option Addr}{ln cp rb:Nat->Nat}{cl:Nat->List Cl}(h:InS W p b o n pc ln cp rb cl) {xs:List Int}{wb bk:Nat}{sc:Value}(hn:IsNew W xs wb bk sc v) (h64:∀ j,j<n->ln j≤64) (h0:0<n):Asked v (newS wb bk W.heap.size sc xs) n b o pc ln cp rb cl:=by
 have g:=h.grows hn.old
 have far:∀ (a:Addr) (x:Value),W.cell? a=some x->¬ Own (newS wb bk W.heap.size sc xs) [] a.block:=fun a x ha ho=>by
  have:=hn.new _ (.inl ho)
  have:=World.block_lt_of_cell? _ _ ha
  omega
 refine ⟨fun j hj=>⟨h.len j hj,h64 j hj⟩,g.row,far _ _ (h.row 0 h0),fun j hj hl=>⟨h.pq j hj hl,?_⟩,g.call,fun j hj c hc=>(h.ok j hj c hc).1⟩
 obtain ⟨c,hc⟩:∃ c,(cl j)[0]? = some c:=⟨_,List.getElem?_eq_getElem (by rw[h.len j hj];exact hl)⟩
 exact far _ _ (h.call j hj 0 c hc).1
end Go.Proofs.YtaofjdoielmobaaDoor.Gen
namespace Go.Proofs.YtaofjdoielmobaaDoor.Gen
open Go Go.Lift Go.Conc Go.RowKit
open Go.Proofs.YtaofjdoielmobaaDoor.His
open Go.ConcN (upd upd_same upd_ne)
theorem flat_inj:∀ {L L':List Stp},flat L=flat L'->L=L'
 | [],[],_=>rfl
 | [],_ :: _,h=>by simp[flat] at h
 |_ :: _,[],h=>by simp[flat] at h
 |⟨a1,a2,a3,a4,a5⟩ :: l,⟨b1,b2,b3,b4,b5⟩ :: l',h=>by
  simp only[flat,List.flatMap_cons,List.cons_append,List.nil_append,List.cons.injEq,Value.int.injEq,true_and] at h
  obtain ⟨rfl,rfl,rfl,rfl,rfl,h⟩:=h
  rw[flat_inj (L:=l) (L':=l') h]
def sumG (f:Nat->Nat):Nat->Nat
 |0=>0
 |n+1=>sumG f n+f n
theorem Ij {f g:Nat->Nat}:∀ (n:Nat),(∀ i,i<n->f i=g i)->sumG f n=sumG g n
 |0,_=>rfl
 |n+1,h=>by rw[sumG,sumG,Ij n (fun i hi=>h i (by omega)),h n (by omega)]
theorem sumG_one {f g:Nat->Nat}{j d:Nat}(hj:g j=f j+d) (ho:∀ i,i≠j->g i=f i):∀ (n:Nat),j<n->sumG g n=sumG f n+d
 |0,h=>absurd h (Nat.not_lt_zero _)
 |n+1,h=>by
  rw[sumG,sumG]
  by_cases e:j=n
  ·subst e
   rw[Ij (f:=g) (g:=f) j (fun i hi=>ho i (by omega)),hj];omega
  ·rw[sumG_one hj ho n (by omega),ho n (fun x=>e x.symm)];omega
theorem sumG_le {f g:Nat->Nat}:∀ (n:Nat),(∀ i,i<n->f i≤g i)->sumG f n≤sumG g n
 |0,_=>Nat.le_refl _
 |n+1,h=>by have:=sumG_le n (fun i hi=>h i (by omega));have:=h n (by omega);show sumG f n+f n≤sumG g n+g n;omega
theorem ev_len {N:Nat}{cl:Nat->List Cl}{an:Nat->List (Int×Int)}{L:List Stp}{E:List His.Ev}{id:Nat->Nat}(h:Ev9 cl an L E id):Fit9 N cl an L->E.length=sumG (fun i=>(nt L i+1) / 2) N:=by
 have one:∀ {L:List Stp} {i k:Nat} {a:Int},i<N->nt L i=2*k+1->sumG (fun j=>(nt (L++[⟨i,-1,10,k,a⟩]) j+1) / 2) N=sumG (fun j=>(nt L j+1) / 2) N:=fun {L i k a} hi hn=>Ij N fun j _=>by
  by_cases e:j=i
  ·subst e;rw[Dg _ _ _ _ (.inr rfl)];omega
  ·rw[D2 _ e]
 induction h with
 |nil =>
  intro _
  rw[Ij (g:=fun _=>0) N (fun i _=>by simp[nt])]
  have:∀ n,sumG (fun _=>0) n=0:=fun n=>by induction n with|zero=>rfl|succ n ih=>rw[sumG,ih]
  rw[this];rfl
 |@other L x E id h h9 h10 ih =>
  intro hF
  rw[ih (Gh hF _ _ rfl).1]
  exact Ij N fun i _=>by rw[nt_no h9 h10]
 |@beg L E id i k c h hn hc ih =>
  intro hF
  obtain ⟨hF,hi⟩:=Gh hF _ _ rfl
  obtain ⟨j,hj,hi⟩:=hi (.inl rfl)
  have hj:(i:Int)=j:=hj
  obtain rfl:i=j:=by omega
  rw[List.length_append,List.length_singleton,ih hF]
  exact (sumG_one (j:=i) (d:=1) (by rw[Dg _ _ _ _ (.inl rfl),hn];omega) (fun j hj=>by rw[D2 _ hj]) N hi).symm
 |@stuck L E id i k a h hn ha h4 ih =>
  intro hF
  obtain ⟨hF,hi⟩:=Gh hF _ _ rfl
  obtain ⟨j,hj,hi⟩:=hi (.inr rfl)
  have hj:(i:Int)=j:=hj
  obtain rfl:i=j:=by omega
  rw[ih hF,one hi hn]
 |@fin L E id i k a e h hn ha h4 he ih =>
  intro hF
  obtain ⟨hF,hi⟩:=Gh hF _ _ rfl
  obtain ⟨j,hj,hi⟩:=hi (.inr rfl)
  have hj:(i:Int)=j:=hj
  obtain rfl:i=j:=by omega
  rw[List.length_set,ih hF,one hi hn]
theorem fit_nt {N:Nat}{cl:Nat->List Cl}{an:Nat->List (Int×Int)}{L:List Stp}(h:Fit9 N cl an L):∀ i,nt L i≤2*(cl i).length:=by
 induction h with
 |nil=>intro i;simp[nt]
 |other h h9 h10 ih=>intro i;rw[nt_no h9 h10];exact ih i
 |@beg L i k h hi hn hk h4 ih =>
  intro j
  by_cases e:j=i
  ·subst e;rw[Dg _ _ _ _ (.inl rfl)];omega
  ·rw[D2 _ e];exact ih j
 |@fin L i k a h hi hn hk ha ih =>
  intro j
  by_cases e:j=i
  ·subst e;rw[Dg _ _ _ _ (.inr rfl)];omega
  ·rw[D2 _ e];exact ih j
theorem sumL_sc (N:Nat) (cl:Nat->List Cl):∀ k,k≤N->R3.sumL (scL N cl) k=sumG (fun i=>(cl i).length) k
 |0,_=>rfl
 |k+1,h=>by rw[R3.sumL,sumG,sumL_sc N cl k (by omega),scL_get cl (by omega),List.length_map]
theorem ev_le {N:Nat}{cl:Nat->List Cl}{an:Nat->List (Int×Int)}{L:List Stp}{E:List His.Ev}{id:Nat->Nat}(h:Ev9 cl an L E id) (hF:Fit9 N cl an L):E.length≤R3.sumL (scL N cl) (scL N cl).length:=by
 rw[Es,sumL_sc N cl N (Nat.le_refl _),ev_len h hF]
 exact sumG_le N fun i _=>by have:=fit_nt hF i;omega
theorem SLw_grows {α:Type}{n:Nat}{enc:α->List Value}{w w':World}{v:Value}{l:List α}(hg:Grows w w') (h:R3.SLw n enc w v l):R3.SLw n enc w' v l:=by
 obtain ⟨p,cap,rfl,h1,h2,h3⟩:=h
 refine ⟨p,cap,rfl,h1,h2,fun i a hi=>?_⟩
 obtain ⟨blk,off,e,hlt,hr⟩:=h3 i a hi
 exact ⟨blk,off,e,Nat.lt_of_lt_of_le hlt hg.size,fun j u hj=>hg.cell (hr j u hj)⟩
theorem SSw_grows {α:Type}{n:Nat}{enc:α->List Value}{w w':World}{v:Value}{ll:List (List α)}(hg:Grows w w') (h:R3.SSw n enc w v ll):R3.SSw n enc w' v ll:=by
 obtain ⟨p,cap,rfl,h1,h2,h3⟩:=h
 refine ⟨p,cap,rfl,h1,h2,fun i l hi=>?_⟩
 obtain ⟨blk,off,vi,e,hc,hs⟩:=h3 i l hi
 exact ⟨blk,off,vi,e,hg.cell hc,SLw_grows hg hs⟩
theorem ss_scripts {W:World}{p:Option Addr}{b o n cap:Nat}{pc:Nat->Option Addr}{ln cp rb:Nat->Nat}{cl:Nat->List Cl}(h:InS W p b o n pc ln cp rb cl) (h64:∀ j,j<n->ln j≤64) (hn:n≤8):R3.SSw 4 R3.callL W (.slice p n cap) (scL n cl):=by
 refine ⟨p,cap,by rw[Es],by rw[Es];omega,Nat.le_refl _,fun i l hi=>?_⟩
 have hin:i<n:=by have:=(List.getElem?_eq_some_iff.1 hi).1;rwa [Es] at this
 obtain rfl:l=(cl i).map toCall:=by simpa [scL,hin] using hi.symm
 refine ⟨b,o,_,h.at_ (by omega),h.row i hin,pc i,cp i,by rw[List.length_map,h.len i hin],by rw[List.length_map,h.len i hin];have:=h64 i hin;omega,Nat.le_refl _,fun k a hk=>?_⟩
 rw[List.getElem?_map] at hk
 cases hc:(cl i)[k]? with
 |none=>rw[hc] at hk;cases hk
 |some c =>
  rw[hc] at hk
  obtain rfl:toCall c=a:=by simpa using hk
  have hl:0<ln i:=by have:=(List.getElem?_eq_some_iff.1 hc).1;rw[h.len i hin] at this;omega
  obtain ⟨c0,c1,c2,c3⟩:=h.call i hin k c hc
  refine ⟨rb i,roOf (pc i),h.pq i hin hl,World.block_lt_of_cell? _ _ c0,fun j u hj=>?_⟩
  match j,hj with
  |0,hj=>cases hj;exact c0
  |1,hj=>cases hj;exact c1
  |2,hj=>cases hj;exact c2
  |3,hj=>cases hj;exact c3
  |j+4,hj=>simp[R3.callL] at hj
theorem ss_answers {W:World}{n M:Nat}{A ln:Nat->Nat}{l:Nat->Ph}{t:TypeId}(h64:∀ j,j<n->ln j≤64) (hn:n≤8) (hrow:∀ j,j<n->W.cell? ⟨M,j,none⟩=some (.slice (some ⟨A j,0,none⟩) (ln j) (ln j))) (hans:∀ j,j<n->(l j).ans.length=ln j∧(0<ln j->W.heap[A j]? = some (.cells (arow (l j).ans).toArray t (0,0)))) :
 R3.SSw 2 R3.ansL W (.slice (some ⟨M,0,none⟩) n n) (anL n fun i=>(l i).ans):=by
 refine ⟨some ⟨M,0,none⟩,n,by rw[anL_len],by rw[anL_len];omega,Nat.le_refl _,fun i a hi=>?_⟩
 have hin:i<n:=by have:=(List.getElem?_eq_some_iff.1 hi).1;rwa [anL_len] at this
 obtain rfl:a=(l i).ans:=by simpa [anL,hin] using hi.symm
 refine ⟨M,0,_,rfl,by rw[Nat.zero_add];exact hrow i hin,some ⟨A i,0,none⟩,ln i,by rw[(hans i hin).1],by rw[(hans i hin).1];have:=h64 i hin;omega,Nat.le_refl _,fun k q hk=>?_⟩
 have hl:0<ln i:=by have:=(List.getElem?_eq_some_iff.1 hk).1;rw[(hans i hin).1] at this;omega
 have hb:=(hans i hin).2 hl
 obtain ⟨a0,a1⟩:=arow_get _ _ _ hk
 have c0:W.cell? ⟨A i,k*2,none⟩=some (I q.1):=cell_of hb (by rw[List.getElem?_toArray];exact a0)
 have c1:W.cell? ⟨A i,k*2+1,none⟩=some (I q.2):=cell_of hb (by rw[List.getElem?_toArray];exact a1)
 refine ⟨A i,0,rfl,World.block_lt_of_cell? _ _ c0,fun j u hj=>?_⟩
 rw[Nat.zero_add]
 match j,hj with
 |0,hj=>cases hj;exact c0
 |1,hj=>cases hj;exact c1
 |j+2,hj=>simp[R3.ansL] at hj
theorem sl_trace {W:World}{p:Option Addr}{g cap m:Nat}{L:List Stp}(hm:m=L.length) (hs:m≤400000) (hp:0<m->p=some ⟨g,0,none⟩) (hc:∀ j u,(flat L)[j]? = some u->W.cell? ⟨g,j,none⟩=some u):R3.SLw 5 R3.Gu W (.slice p m cap) (L.map Ey):=by
 subst hm
 refine ⟨p,cap,by rw[List.length_map],by rw[List.length_map];omega,Nat.le_refl _,fun i a hi=>?_⟩
 rw[List.getElem?_map] at hi
 cases hs:L[i]? with
 |none=>rw[hs] at hi;cases hi
 |some s =>
  rw[hs] at hi
  obtain rfl:Ey s=a:=by simpa using hi
  have hl:=(List.getElem?_eq_some_iff.1 hs).1
  obtain ⟨f0,f1,f2,f3,f4⟩:=flat_get L i s hs
  refine ⟨g,0,hp (by omega),World.block_lt_of_cell? _ _ (hc _ _ f0),fun j u hj=>?_⟩
  rw[Nat.zero_add]
  match j,hj with
  |0,hj=>cases hj;exact hc _ _ f0
  |1,hj=>cases hj;exact hc _ _ f1
  |2,hj=>cases hj;exact hc _ _ f2
  |3,hj=>cases hj;exact hc _ _ f3
  |4,hj=>cases hj;exact hc _ _ f4
  |j+5,hj=>simp[R3.Gu] at hj
end Go.Proofs.YtaofjdoielmobaaDoor.Gen
namespace Go.Proofs.YtaofjdoielmobaaDoor.Gen
open Go Go.Lift Go.Conc Go.RowKit
noncomputable def LB4:Code:=Tryd.f4.body.getD .skip
noncomputable def l4a:Code:=seq1 (seq2 (seq2 LB4))
noncomputable def l4b:Code:=seq1 (seq2 (seq2 (seq2 LB4)))
noncomputable def l4c:Code:=seq1 (seq2 (seq2 (seq2 (seq2 LB4))))
noncomputable def l4d:Code:=seq1 (seq2 (seq2 (seq2 (seq2 (seq2 LB4)))))
noncomputable def l4e:Code:=(seq2 (seq2 (seq2 (seq2 (seq2 (seq2 LB4))))))
noncomputable def P4:Code:=.seq l4a (.seq l4b (.seq l4c (.seq l4d l4e)))
theorem eLB4:LB4=.seq (seq1 LB4) (.seq (seq1 (seq2 LB4)) P4):=by kernel_rfl
theorem l4c_wp {v:World}{a:Act}{n0:Int}{wb:Nat}{sc an:Value}  (hA:Fl 36 [(1,I n0),(2,sc),(8,Pt wb 0),(9,an),(7,.bool true),(10,I 0)] a):l4c.wp Tryd.prog (fun e a' w'=>e=.normal∧Fl 36 [(1,I n0),(2,sc),(8,Pt wb 0),(9,an)] a'∧w'.heap=v.heap∧w'.os=v.os∧w'.output=v.output) a v:=by
 obtain ⟨hsz,hd,hp⟩:=hA
 obtain ⟨u,rfl,hg⟩:=litN hsz hd
 simp only[List.forall_mem_cons,hg] at hp
 obtain ⟨u1,u2,u8,u9,u7,u10,-⟩:=hp
 clear hg hsz hd
 unfold l4c LB4 Tryd.f4 seq2 seq1
 simp only[Option.getD_some,lits,Nat.reduceAdd,u1,u2,u8,u9,u7,u10]
 clear u1 u2 u8 u9 u7 u10
 go_wp2_with fail
 first
  |exact ⟨rfl,rfl,by
   intro p hp
   simp only[List.mem_cons,List.not_mem_nil,or_false] at hp
   rcases hp with rfl|rfl|rfl|rfl<;>rfl⟩
  |exact ⟨⟨rfl,rfl,by
   intro p hp
   simp only[List.mem_cons,List.not_mem_nil,or_false] at hp
   rcases hp with rfl|rfl|rfl|rfl<;>rfl⟩,rfl⟩
  |exact ⟨⟨rfl,rfl,by
   intro p hp
   simp only[List.mem_cons,List.not_mem_nil,or_false] at hp
   rcases hp with rfl|rfl|rfl|rfl<;>rfl⟩,rfl,rfl⟩
  |exact ⟨⟨rfl,rfl,by
   intro p hp
   simp only[List.mem_cons,List.not_mem_nil,or_false] at hp
   rcases hp with rfl|rfl|rfl|rfl<;>rfl⟩,rfl,rfl,rfl⟩
  |exact ⟨⟨rfl,rfl,by
   intro p hp
   simp only[List.mem_cons,List.not_mem_nil,or_false] at hp
   rcases hp with rfl|rfl|rfl|rfl<;>rfl⟩,rfl,rfl,rfl,rfl⟩
  |exact ⟨⟨rfl,rfl,by
   intro p hp
   simp only[List.mem_cons,List.not_mem_nil,or_false] at hp
   rcases hp with rfl|rfl|rfl|rfl<;>rfl⟩,rfl,rfl,rfl,rfl,rfl⟩
theorem l4c_wpa {v:World}{a:Act}{n0:Int}{wb:Nat}{sc an:Value}{E:Int}(h1:E=1) (hA:Fl 36 [(1,I n0),(2,sc),(8,Pt wb 0),(9,an),(7,.bool true),(10,I E)] a):l4c.wp Tryd.prog (fun e a' w'=>e=.ret∧Fl 36 [(6,.bool true)] a'∧w'.heap=v.heap∧w'.os=v.os∧w'.output=v.output) a v:=by
 obtain ⟨hsz,hd,hp⟩:=hA
 obtain ⟨u,rfl,hg⟩:=litN hsz hd
 simp only[List.forall_mem_cons,hg] at hp
 obtain ⟨u1,u2,u8,u9,u7,u10,-⟩:=hp
 clear hg hsz hd
 subst h1
 unfold l4c LB4 Tryd.f4 seq2 seq1
 simp only[Option.getD_some,lits,Nat.reduceAdd,u1,u2,u8,u9,u7,u10]
 clear u1 u2 u8 u9 u7 u10
 go_wp2_with fail
 first
  |exact ⟨rfl,rfl,by
   intro p hp
   simp only[List.mem_cons,List.not_mem_nil,or_false] at hp
   rcases hp with rfl<;>rfl⟩
  |exact ⟨⟨rfl,rfl,by
   intro p hp
   simp only[List.mem_cons,List.not_mem_nil,or_false] at hp
   rcases hp with rfl<;>rfl⟩,rfl⟩
  |exact ⟨⟨rfl,rfl,by
   intro p hp
   simp only[List.mem_cons,List.not_mem_nil,or_false] at hp
   rcases hp with rfl<;>rfl⟩,rfl,rfl⟩
  |exact ⟨⟨rfl,rfl,by
   intro p hp
   simp only[List.mem_cons,List.not_mem_nil,or_false] at hp
   rcases hp with rfl<;>rfl⟩,rfl,rfl,rfl⟩
  |exact ⟨⟨rfl,rfl,by
   intro p hp
   simp only[List.mem_cons,List.not_mem_nil,or_false] at hp
   rcases hp with rfl<;>rfl⟩,rfl,rfl,rfl,rfl⟩
  |exact ⟨⟨rfl,rfl,by
   intro p hp
   simp only[List.mem_cons,List.not_mem_nil,or_false] at hp
   rcases hp with rfl<;>rfl⟩,rfl,rfl,rfl,rfl,rfl⟩
theorem l4c_wpb {v:World}{a:Act}{n0:Int}{wb:Nat}{sc an:Value}{E:Int}(h1:E=2) (hA:Fl 36 [(1,I n0),(2,sc),(8,Pt wb 0),(9,an),(7,.bool true),(10,I E)] a):l4c.wp Tryd.prog (fun e a' w'=>e=.ret∧Fl 36 [(6,.bool true)] a'∧w'.heap=v.heap∧w'.os=v.os∧w'.output=v.output) a v:=by
 obtain ⟨hsz,hd,hp⟩:=hA
 obtain ⟨u,rfl,hg⟩:=litN hsz hd
 simp only[List.forall_mem_cons,hg] at hp
 obtain ⟨u1,u2,u8,u9,u7,u10,-⟩:=hp
 clear hg hsz hd
 subst h1
 unfold l4c LB4 Tryd.f4 seq2 seq1
 simp only[Option.getD_some,lits,Nat.reduceAdd,u1,u2,u8,u9,u7,u10]
 clear u1 u2 u8 u9 u7 u10
 go_wp2_with fail
 first
  |exact ⟨rfl,rfl,by
   intro p hp
   simp only[List.mem_cons,List.not_mem_nil,or_false] at hp
   rcases hp with rfl<;>rfl⟩
  |exact ⟨⟨rfl,rfl,by
   intro p hp
   simp only[List.mem_cons,List.not_mem_nil,or_false] at hp
   rcases hp with rfl<;>rfl⟩,rfl⟩
  |exact ⟨⟨rfl,rfl,by
   intro p hp
   simp only[List.mem_cons,List.not_mem_nil,or_false] at hp
   rcases hp with rfl<;>rfl⟩,rfl,rfl⟩
  |exact ⟨⟨rfl,rfl,by
   intro p hp
   simp only[List.mem_cons,List.not_mem_nil,or_false] at hp
   rcases hp with rfl<;>rfl⟩,rfl,rfl,rfl⟩
  |exact ⟨⟨rfl,rfl,by
   intro p hp
   simp only[List.mem_cons,List.not_mem_nil,or_false] at hp
   rcases hp with rfl<;>rfl⟩,rfl,rfl,rfl,rfl⟩
  |exact ⟨⟨rfl,rfl,by
   intro p hp
   simp only[List.mem_cons,List.not_mem_nil,or_false] at hp
   rcases hp with rfl<;>rfl⟩,rfl,rfl,rfl,rfl,rfl⟩
theorem l4c_no {v:World}{a:Act}{n0:Int}{wb:Nat}{sc an:Value}{E:Int}(h1:E=1∨E=2) (hA:Fl 36 [(1,I n0),(2,sc),(8,Pt wb 0),(9,an),(7,.bool true),(10,I E)] a):l4c.wp Tryd.prog (fun e a' w'=>e=.ret∧Fl 36 [(6,.bool true)] a'∧w'.heap=v.heap∧w'.os=v.os∧w'.output=v.output) a v:=h1.elim (fun h=>l4c_wpa h hA) (fun h=>l4c_wpb h hA)
theorem l4a_wp {v:World}{a:Act}{s1 s2:Value}(p:Option Addr) (cap vb vo:Nat) (xs:List Int) (hp:0<xs.length->p=some ⟨vb,vo,none⟩) (hx1:xs.length≤17592186043904) (hv:∀ k x,xs[k]? = some x->v.cell? ⟨vb,vo+k,none⟩=some (I x)) (hA:Fl 36 [(0,.slice p xs.length cap),(1,s1),(2,s2),(7,.bool true)] a) :
 l4a.wp Tryd.prog (fun e a w'=>e=.normal∧∃ wb bk sc,Fl 36 [(1,s1),(2,s2),(7,.bool true),(8,Pt wb 0)] a∧IsNew v xs wb bk sc w') a v:=by
 have H7:Hid (Calls Tryd.prog 8 #[.slice p xs.length cap] v _):=⟨(body7A p vb vo cap xs hp hx1 hv).calls Tryd.func8 rfl⟩
 clear hp hx1 hv
 obtain ⟨hsz,hd,hp⟩:=hA
 obtain ⟨u,rfl,hg⟩:=litN hsz hd
 have u0:=(hg 0).symm.trans (hp (0,.slice p xs.length cap) (by simp))
 have u1:=(hg 1).symm.trans (hp (1,s1) (by simp))
 have u2:=(hg 2).symm.trans (hp (2,s2) (by simp))
 have u7:=(hg 7).symm.trans (hp (7,.bool true) (by simp))
 clear hg hp hsz hd
 unfold l4a LB4 Tryd.f4 seq2 seq1
 simp only[Option.getD_some,lits,Nat.reduceAdd,u0,u1,u2,u7]
 clear u0 u1 u2 u7
 go_wp2_with (first
  |(go_at_call 8;refine H7.out.mono ?_;rintro e w1 ⟨_,rfl,wb,bk,sc,rfl,hnew⟩))
 first
  |exact ⟨wb,bk,sc,⟨rfl,rfl,by
   intro p hp
   simp only[List.mem_cons,List.not_mem_nil,or_false] at hp
   rcases hp with rfl|rfl|rfl|rfl<;>rfl⟩,hnew⟩
  |exact ⟨wb,⟨rfl,rfl,by
   intro p hp
   simp only[List.mem_cons,List.not_mem_nil,or_false] at hp
   rcases hp with rfl|rfl|rfl|rfl<;>rfl⟩,bk,sc,hnew⟩
theorem l4d_wp {v:World}{a:Act}{n0:Int}{sc an:Value}{S:TS}{z:Nat->Option Nat}(hR:Rep z S v) (hn:S.n*40≤140737488355328) (h1:∀ u∈S.tr,u.oneCell'=true) (hA:Fl 36 [(1,I n0),(2,sc),(8,Pt S.wb 0),(9,an)] a) :
 l4d.wp Tryd.prog (fun e a w'=>e=.normal∧∃ p g cap,Fl 36 [(1,I n0),(2,sc),(8,Pt S.wb 0),(9,an),(11,.slice p S.n cap)] a∧(0<S.n->p=some ⟨g,0,none⟩∧v.heap.size≤g)∧(∀ j u,S.tr[j]? = some u->w'.cell? ⟨g,j,none⟩=some u)∧Grows v w') a v:=by
 have H9:Hid (Calls Tryd.prog 14 #[Pt S.wb 0] v _):=⟨(body9A hR hn h1).calls Tryd.func14 rfl⟩
 clear hR hn h1
 obtain ⟨hsz,hd,hp⟩:=hA
 obtain ⟨u,rfl,hg⟩:=litN hsz hd
 have u1:=(hg 1).symm.trans (hp (1,I n0) (by simp))
 have u2:=(hg 2).symm.trans (hp (2,sc) (by simp))
 have u8:=(hg 8).symm.trans (hp (8,Pt S.wb 0) (by simp))
 have u9:=(hg 9).symm.trans (hp (9,an) (by simp))
 clear hg hp hsz hd
 unfold l4d LB4 Tryd.f4 seq2 seq1
 simp only[Option.getD_some,lits,Nat.reduceAdd,u1,u2,u8,u9]
 clear u1 u2 u8 u9
 go_wp2_with (first
  |(go_at_call 14;refine H9.out.mono ?_;rintro e w1 ⟨_,rfl,p,g,cap,rfl,k1,k2,k3⟩))
 first
  |exact ⟨p,g,cap,⟨rfl,rfl,by
   intro p hp
   simp only[List.mem_cons,List.not_mem_nil,or_false] at hp
   rcases hp with rfl|rfl|rfl|rfl|rfl<;>rfl⟩,k1,k2,k3⟩
  |exact ⟨p,⟨cap,⟨rfl,rfl,by
   intro p hp
   simp only[List.mem_cons,List.not_mem_nil,or_false] at hp
   rcases hp with rfl|rfl|rfl|rfl|rfl<;>rfl⟩⟩,g,k1,k2⟩
  |exact ⟨p,⟨cap,⟨rfl,rfl,by
   intro p hp
   simp only[List.mem_cons,List.not_mem_nil,or_false] at hp
   rcases hp with rfl|rfl|rfl|rfl|rfl<;>rfl⟩⟩,g,k1,k2,k3⟩
theorem l4e_wp {v:World}{a:Act}{n0:Int}{sc an tv:Value}(H:Calls Tryd.prog 15 #[I 5,I n0,I 4,sc,an,tv] v fun e w'=>e=.returned (.bool true)∧Below v.heap.size v w') (hA:Fl 36 [(1,I n0),(2,sc),(9,an),(11,tv)] a) :
 l4e.wp Tryd.prog (fun e a w'=>e=.ret∧Fl 36 [(6,.bool true)] a∧Below v.heap.size v w') a v:=by
 have H9:Hid (Calls Tryd.prog 15 #[I 5,I n0,I 4,sc,an,tv] v _):=⟨H⟩
 clear H
 obtain ⟨hsz,hd,hp⟩:=hA
 obtain ⟨u,rfl,hg⟩:=litN hsz hd
 have u1:=(hg 1).symm.trans (hp (1,I n0) (by simp))
 have u2:=(hg 2).symm.trans (hp (2,sc) (by simp))
 have u9:=(hg 9).symm.trans (hp (9,an) (by simp))
 have u11:=(hg 11).symm.trans (hp (11,tv) (by simp))
 clear hg hp hsz hd
 unfold l4e LB4 Tryd.f4 seq2
 simp only[Option.getD_some,lits,Nat.reduceAdd,u1,u2,u9,u11]
 clear u1 u2 u9 u11
 go_wp2_with (first
  |(go_at_call 15;refine H9.out.mono ?_;rintro e w1 ⟨rfl,k3⟩))
 exact ⟨rfl,rfl,by
  intro p hp
  simp only[List.mem_cons,List.not_mem_nil,or_false] at hp
  rcases hp with rfl<;>rfl⟩
theorem fine_l4c:As Tryd.prog true LV l4c:=Br Bw extT (by kernel_rfl)
theorem fine_l4a:As Tryd.prog true LV l4a:=Br Bw extT (by kernel_rfl)
theorem fine_l4d:As Tryd.prog true LV l4d:=Br Bw extT (by kernel_rfl)
theorem fine_l4e:As Tryd.prog true LX3 l4e:=Br Bl extT (by kernel_rfl)
theorem gx_same {v v':World}(e:v'.heap=v.heap) (e1:v'.os=v.os) (e2:v'.output=v.output):Grows v v':=⟨by rw[e];exact Nat.le_refl _,fun b _=>by rw[e],e1,e2⟩
theorem gx_trans {v v' v2:World}(a:Grows v v') (b:Grows v' v2):Grows v v2:=⟨Nat.le_trans a.size b.size,fun q hq=>by rw[b.old q (Nat.lt_of_lt_of_le hq a.size),a.old q hq],b.os.trans a.os,b.output.trans a.output⟩
noncomputable def P4s:Code:=.seq l4d l4e
theorem eP4:P4=.seq l4a (.seq l4b (.seq l4c P4s)):=rfl
theorem law4_in {Ch:Nat->Prop}{Stop:Goroutine->World->Prop}{main:Bool}{w:World}(x0:Value) (x1:Value) (x2:Value)
 (hk:∀ (w':World) (bd:Frame) (ad:Act) (od:Array Oper) (qd:Nat) (rd:List Nat) (oe:Oper) (kd:List Item),(∃ d,w'=w.at d)->od[qd]? = some oe ->
   (∀ (Ch:Nat->Prop) (Stop:Goroutine->World->Prop) (w1:World),(∀ a,Fl 36 [(0,x0),(1,x1),(2,x2),(7,.bool true)] a->GoesI Tryd.prog main (DT (ScZ zn) Ch) Stop (G ((base 4).at a [.code P4]) []) w1)->GoesI Tryd.prog main (DT (ScZ zn) Ch) Stop (G (bd.at (ad.put oe.dst (.bool true)) (.inRegion od rd :: kd)) []) w1) ->
   GoesI Tryd.prog main (DT (ScZ zn) Ch) Stop (G ((base 7).at { tmps:=Array.replicate 26 undef,defers:=[] } [.code B7]) [bd.at ad (.inRegion od (qd :: rd) :: kd)]) w') :
 GoesI Tryd.prog main (DT (ScZ zn) Ch) Stop (G ((base 4).at { tmps:=#[x0,x1,x2]++Array.replicate 33 undef,defers:=[] } [.code LB4]) []) w:=by
 rw[eLB4]
 simp only[Array.replicate_succ,Array.replicate_zero,List.push_toArray,List.append_toArray,List.nil_append,List.cons_append]
 refine Ac (Aa _ _) ?_
 generalize hR:P4=R9 at hk ⊢
 unfold LB4 Tryd.f4 seq1 seq2
 simp only[Option.getD_some]
 refine Ae (Aa _ _) ?_
 simp only[List.size_toArray,List.length_cons,List.length_nil,Nat.reduceAdd,Nat.zero_add,List.range,List.range.loop]
 iterate 1
  (refine Af rfl rfl (by decide) (fun d K hK=>?_)
   go_simp
   refine hK _ _ ⟨Ak (fun e he=>?_),GoesI.at ?_ d⟩
   ·have hm:=mem_listed he
    simp[go_sem, *] at hm
    try exact ⟨_,_,hm⟩
   clear hK K)
 refine Ab (Aa _ _) ?_
 refine Ac (Aa _ _) ?_
 refine Ae (Aa _ _) ?_
 simp only[List.size_toArray,List.length_cons,List.length_nil,Nat.reduceAdd,Nat.zero_add,List.range,List.range.loop]
 refine Bj (f:=7) (fn:=Tryd.f7) (args:=#[]) (Aa _ _) rfl rfl (by decide) rfl (by simp[Act.eval]) Tryd.func7 (by decide) rfl ?_
 refine hk w _ _ _ _ _ _ _ ⟨w.drawn,rfl⟩ rfl (fun Ch Stop w1 hg=>?_)
 clear hk
 iterate 1
  (refine Af rfl rfl (by decide) (fun d K hK=>?_)
   go_simp
   refine hK _ _ ⟨Ak (fun e he=>?_),GoesI.at ?_ d⟩
   ·have hm:=mem_listed he
    simp[go_sem, *] at hm
    try exact ⟨_,_,hm⟩
   clear hK K)
 refine Ab (Aa _ _) ?_
 exact hg _ ⟨rfl,rfl,by
  intro p hp
  simp only[List.mem_cons,List.not_mem_nil,or_false] at hp
  rcases hp with rfl|rfl|rfl|rfl<;>rfl⟩
theorem end4 {a:Act}{todo:List Item}{w:World}(hd:a.defers=[]) (h4:a.tmps.getD 6 undef=.bool true):stepG Tryd.prog true (G { (base 4).at a todo with mode:=.returning } []) w=.ended (.done (.bool true)) w #[]:=by
 have hr:(results Tryd.f4 a.tmps).run Tryd.prog w=.ok (.bool true) w:=by rw[results_tmp (t:=6) rfl,h4]
 have he:(results Tryd.f4 a.tmps).events Tryd.prog w #[]=#[]:=by simp[results,go_sem,Tryd.f4]
 simp[G,stepG,unwind,Frame.at,hd,Tryd.func4,base,hr,he,doReturn,GStep.after,seen]
theorem law4_b {Ch:Nat->Prop}{Stop:Goroutine->World->Prop}{main:Bool}{v w:World}(p:Option Addr) (cap vb vo:Nat) (xs:List Int) (hp:0<xs.length->p=some ⟨vb,vo,none⟩) (hx1:xs.length≤17592186043904) (hv:∀ k x,xs[k]? = some x->v.cell? ⟨vb,vo+k,none⟩=some (I x)) (s1 s2:Value) (hvw:Rel zn v w) (hn:Ah Ch v)
 (hk:∀ (v' w':World) (wb bk:Nat) (sc:Value) (bd:Frame) (ad:Act) (od:Array Oper) (qd:Nat) (rd:List Nat) (oe:Oper) (kd:List Item),Rel zn v' w'->Ah Ch v'->IsNew v xs wb bk sc v'->od[qd]? = some oe ->
   (∀ (Ch:Nat->Prop) (Stop:Goroutine->World->Prop) (w2:World) (A:Value) (E:Int),(∀ a,Fl 36 [(1,s1),(2,s2),(7,.bool true),(8,Pt wb 0),(9,A),(10,I E)] a->GoesI Tryd.prog main (DT (ScZ zn) Ch) Stop (G ((base 4).at a [.code (.seq l4c P4s)]) []) w2) ->
     GoesI Tryd.prog main (DT (ScZ zn) Ch) Stop (G (bd.at (ad.put oe.dst (.tuple #[A,I E])) (.inRegion od rd :: kd)) []) w2) ->
   GoesI Tryd.prog main (DT (ScZ zn) Ch) Stop (G ((base 9).at { tmps:=#[Pt wb 0,s1,s2]++Array.replicate 37 undef,defers:=[] } [.code yB]) [bd.at ad (.inRegion od (qd :: rd) :: kd)]) w') :
 ∀ a,Fl 36 [(0,.slice p xs.length cap),(1,s1),(2,s2),(7,.bool true)] a->GoesI Tryd.prog main (DT (ScZ zn) Ch) Stop (G ((base 4).at a [.code P4]) []) w:=by
 intro a0 hA0
 rw[eP4]
 refine Ac (Aa _ _) ?_
 refine Am (z:=zn) (wr:=true) (L:=LV) (I:=Ah Ch) hE Gy Al (fun v v' w w' es hi hr ho he=>Az v v' w w' es hi hr ho he) hvw fine_l4a hA0.2.1 (by simp[base]) hn
  (Q:=fun a w'=>∃ wb bk sc,Fl 36 [(1,s1),(2,s2),(7,.bool true),(8,Pt wb 0)] a∧IsNew v xs wb bk sc w') (fun τ=>wp_mono (l4a_wp (v:=Ap v τ 0) p cap vb vo xs hp hx1 hv hA0) (fun e a w' hq=>⟨hq.1,by
    obtain ⟨_,wb,bk,sc,h1,h2⟩:=hq
    exact ⟨wb,bk,sc,h1,h2.mem,h2.opn,h2.new,⟨h2.old.size,h2.old.old,h2.old.os,h2.old.output⟩⟩⟩)) ?_
 rintro a1 v1 w1 ⟨wb,bk,sc,hB,hnew⟩ hr1 hn1 -
 obtain ⟨hsz,hd,hpp⟩:=hB
 obtain ⟨u,rfl,hg⟩:=litN hsz hd
 have u1:=(hg 1).symm.trans (hpp (1,s1) (by simp))
 have u2:=(hg 2).symm.trans (hpp (2,s2) (by simp))
 have u7:=(hg 7).symm.trans (hpp (7,.bool true) (by simp))
 have u8:=(hg 8).symm.trans (hpp (8,Pt wb 0) (by simp))
 clear hg hpp hsz hd hA0
 refine Ac (Aa _ _) ?_
 clear hvw hn hp hx1 hv
 generalize hT:Code.seq l4c P4s=T at hk ⊢
 unfold l4b LB4 Tryd.f4 seq1 seq2
 simp only[Option.getD_some,lits,Nat.reduceAdd,u1,u2,u7,u8]
 clear u1 u2 u7 u8
 refine Ae (Aa _ _) ?_
 simp only[List.size_toArray,List.length_cons,List.length_nil,Nat.reduceAdd,Nat.zero_add,List.range,List.range.loop]
 iterate 3
  (refine Af rfl rfl (by decide) (fun d K hK=>?_)
   go_simp
   refine hK _ _ ⟨Ak (fun e he=>?_),GoesI.at ?_ d⟩
   ·have hm:=mem_listed he
    simp[go_sem, *] at hm
    try exact ⟨_,_,hm⟩
   clear hK K)
 refine Bj (f:=9) (fn:=Tryd.f9) (args:=#[Pt wb 0,s1,s2]) (Aa _ _) rfl rfl (by decide) rfl (by simp[Act.eval]) Tryd.func9 (by decide) rfl ?_
 refine hk v1 w1 wb bk sc _ _ _ _ _ _ _ hr1 hn1 hnew rfl (fun Ch Stop w2 A E hwp=>?_)
 clear hk hnew hr1 hn1
 iterate 5
  (refine Af rfl rfl (by decide) (fun d K hK=>?_)
   go_simp
   refine hK _ _ ⟨Ak (fun e he=>?_),GoesI.at ?_ d⟩
   ·have hm:=mem_listed he
    simp[go_sem, *] at hm
    try exact ⟨_,_,hm⟩
   clear hK K)
 refine Ab (Aa _ _) ?_
 subst hT
 exact hwp _ ⟨rfl,rfl,by
  intro p hp
  simp only[List.mem_cons,List.not_mem_nil,or_false] at hp
  rcases hp with rfl|rfl|rfl|rfl|rfl|rfl<;>rfl⟩
theorem law4_no {Ch:Nat->Prop}{Stop:Goroutine->World->Prop}{main:Bool}{v w:World}{a:Act}{n0:Int}{wb:Nat}{sc an:Value}{E:Int}(hE1:E=1∨E=2) (hvw:Rel zn v w) (hn:Ah Ch v) (hA:Fl 36 [(1,I n0),(2,sc),(8,Pt wb 0),(9,an),(7,.bool true),(10,I E)] a)
 (hend:∀ a' v' w' todo,Rel zn v' w'->Grows v v'->a'.defers=[]->a'.tmps.getD 6 undef=.bool true->GoesI Tryd.prog main (DT (ScZ zn) Ch) Stop (G { (base 4).at a' todo with mode:=.returning } []) w') :
 GoesI Tryd.prog main (DT (ScZ zn) Ch) Stop (G ((base 4).at a [.code (.seq l4c P4s)]) []) w:=by
 refine Ac (Aa _ _) ?_
 refine goesI_retZ (Q:=fun a w'=>Fl 36 [(6,.bool true)] a∧w'.heap=v.heap∧w'.os=v.os∧w'.output=v.output) hvw hn fine_l4c hA.2.1 (fun τ=>l4c_no (v:=Ap v τ 0) hE1 hA) (fun a' v' w' todo hQ hd hr hn'=>hend a' v' w' todo hr (gx_same hQ.2.1 hQ.2.2.1 hQ.2.2.2) hd (hQ.1.at 6 (.bool true) (by simp)))
theorem law4_yes {Ch:Nat->Prop}{Stop:Goroutine->World->Prop}{main:Bool}{v w:World}{a:Act}{n0:Int}{S:TS}{L:List Stp}{sv av:Value}
 (hS:Rep zn S v) (htr:S.tr=flat L) (hSn:S.n=L.length) (hs4:S.n≤400000)
 (hX:∀ (u:World) (tv:Value),Grows v u->R3.SLw 5 R3.Gu u tv (L.map Ey)->Calls Tryd.prog 15 #[I 5,I n0,I 4,sv,av,tv] u fun e w'=>e=.returned (.bool true)∧Below u.heap.size u w')
 (hvw:Rel zn v w) (hn:Ah Ch v) (hA:Fl 36 [(1,I n0),(2,sv),(8,Pt S.wb 0),(9,av),(7,.bool true),(10,I 0)] a)
 (hend:∀ a' v' w' todo,Rel zn v' w'->Grows v v'->a'.defers=[]->a'.tmps.getD 6 undef=.bool true->GoesI Tryd.prog main (DT (ScZ zn) Ch) Stop (G { (base 4).at a' todo with mode:=.returning } []) w') :
 GoesI Tryd.prog main (DT (ScZ zn) Ch) Stop (G ((base 4).at a [.code (.seq l4c P4s)]) []) w:=by
 refine Ac (Aa _ _) ?_
 refine Am (z:=zn) (wr:=true) (L:=LV) (I:=Ah Ch) hE Gy Al (fun v v' w w' es hi hr ho he=>Az v v' w w' es hi hr ho he) hvw fine_l4c hA.2.1 (by simp[base]) hn (Q:=fun a w'=>Fl 36 [(1,I n0),(2,sv),(8,Pt S.wb 0),(9,av)] a∧w'.heap=v.heap∧w'.os=v.os∧w'.output=v.output) (fun τ=>l4c_wp (v:=Ap v τ 0) hA) ?_
 rintro a1 v1 w1 ⟨hA1,q1,o1,u1⟩ hr1 hn1 -
 unfold P4s
 refine Ac (Aa _ _) ?_
 refine Am (z:=zn) (wr:=true) (L:=LV) (I:=Ah Ch) hE Gy Al (fun v v' w w' es hi hr ho he=>Az v v' w w' es hi hr ho he) hr1 fine_l4d hA1.2.1 (by simp[base]) hn1 (Q:=fun a w'=>∃ p g ct,Fl 36 [(1,I n0),(2,sv),(8,Pt S.wb 0),(9,av),(11,.slice p S.n ct)] a∧(0<S.n->p=some ⟨g,0,none⟩∧v1.heap.size≤g)∧(∀ j u,S.tr[j]? = some u->w'.cell? ⟨g,j,none⟩=some u)∧Grows v1 w') (fun τ=>wp_mono (l4d_wp (v:=Ap v1 τ 0) (S:=S) (hS.same (v':=Ap v1 τ 0) q1) (by omega) (by rw[htr];exact flat_one L) hA1) (fun e a w' hq=>⟨hq.1,by
  obtain ⟨_,p,g,ct,k1,k2,k3,k4⟩:=hq
  exact ⟨p,g,ct,k1,k2,k3,⟨k4.size,k4.old,k4.os,k4.output⟩⟩⟩)) ?_
 rintro a2 v2 w2 ⟨p,g,ct,hA2,hp,htc,g2⟩ hr2 hn2 -
 have gv:Grows v v2:=gx_trans (gx_same q1 o1 u1) g2
 have hT2:R3.SLw 5 R3.Gu v2 (.slice p S.n ct) (L.map Ey):=sl_trace hSn hs4 (fun h=>(hp h).1) (fun j u hj=>htc j u (by rw[htr];exact hj))
 refine goesI_retX (Q:=fun a w'=>Fl 36 [(6,.bool true)] a∧Grows v2 w') hr2 hn2 fine_l4e hA2.2.1 (fun τ=>wp_mono (l4e_wp (v:=Ap v2 τ 0) (hX (Ap v2 τ 0) (.slice p S.n ct) ⟨gv.size,gv.old,gv.os,gv.output⟩ (SLw_grows ⟨Nat.le_refl _,fun _ _=>rfl,rfl,rfl⟩ hT2)) (hA2.sub (by simp))) (fun e a w' hq=>⟨hq.1,hq.2.1,⟨hq.2.2.size,fun b hb=>hq.2.2.block b hb,hq.2.2.os,hq.2.2.output⟩⟩)) (fun a' v' w' todo hQ hd hr hn'=>hend a' v' w' todo hr (gx_trans gv hQ.2) hd (hQ.1.at 6 (.bool true) (by simp)))
theorem going_wb (S:TS) (i:Nat) (t:Thr):(going S i t).wb=S.wb:=by
 unfold going
 first
  |rfl
  |(unfold picked;split<;>rfl)
  |(split<;>rfl)
theorem pturn_wb {mc:Mc}{p p':PSt}(h:D5 mc p=some p'):p'.S.wb=p.S.wb:=by
 unfold D5 at h
 split at h
 ·split at h
  ·cases h;rfl
  ·cases h
 ·cases h
  exact (Ez _ _ _ _ _).wb.trans (going_wb _ _ _)
theorem turns_wb {mc:Mc}{m:Nat}{p p':PSt}(h:Turns mc m p p'):p'.S.wb=p.S.wb:=by
 induction h with
 |stop _=>rfl
 |step h1 _ ih=>exact ih.trans (pturn_wb h1)
theorem hires_wb {mc:Mc}{k:Nat}{ss:List (Scr mc)}{S S':TS}{l l':Nat->Ph}(h:Hires mc k ss S l S' l'):S'.wb=S.wb:=by
 induction h with
 |nil=>rfl
 |cons tv tb gc _ ih=>exact ih.trans (Fi _ _ _ _ _ _ _).wb
section
variable (mc:Mc) (fid:FuncId) (caps:Array Value) (pk:Nat->Option Obj) (N n:Nat) (K:List (Nat×Int)) (pc:Nat->Option Addr) (ln cp rb:Nat->Nat) (cl:Nat->List Cl)
theorem scrs_calls:(scrs mc fid caps pk N n K pc ln cp rb cl).map (·.calls)=(List.range' 0 n).map cl:=by
 unfold scrs
 rw[List.map_map]
 rfl
theorem scrs_ans (hlen:∀ j,j<n->(cl j).length=ln j):∀ x∈scrs mc fid caps pk N n K pc ln cp rb cl,x.ans=List.replicate x.calls.length (0,0):=fun s hs=>by
 simp only[scrs,List.mem_map,List.mem_range'] at hs
 obtain ⟨j,⟨i,hi,rfl⟩,rfl⟩:=hs
 show List.replicate (ln (0+1*i)) (0,0)=List.replicate (cl (0+1*i)).length (0,0)
 rw[hlen _ (by omega)]
end
theorem alone_ends {gs:Array Goroutine}{w:World}{T:Trace}{q:Nat->Nat}(A:Alone gs w T q) {a:Goroutine}(hg:gs[0]? = some a) (sl:Option (Nat×Nat)) {Post:Value->World->Prop}(hE:∀ B,∀ d,AtEnd Tryd.prog (fun _=>False) B Post a (w.at d)) :
 ∃ N last o w' t',runNT Tryd.prog (N+1) (crowd gs w sl) T=(.ended o w',t')∧runN Tryd.prog N (crowd gs w sl)=.next last∧step Tryd.prog last=.ended o w'∧Go.Conc.Good Tryd.prog Post last o w' t':=by
 obtain ⟨B,hB,hP⟩:=A.past
 refine beside_ends (D:=fun _ _ es=>es=#[]) (Shun:=fun _=>False) (B:=B) (n:=0) (fun _ _ es h e he=>by subst h;simp at he) hg A.left hP ?_
 rintro w1 ⟨d,rfl⟩
 exact hE B d
section
variable (n o:Nat) (k b:Int) (d i:Nat) (r:List Int)
theorem oA_l:oA (n,lO o k b d i++r)=o:=by simp[oA,lO]
theorem dA_l:dA (n,lO o k b d i++r)=d:=by simp[dA,lO]
theorem iA_l:iA (n,lO o k b d i++r)=i:=by simp[iA,lO]
theorem eA_l (e:Int):eA (n,lO o k b d i++e :: r)=e:=by simp[eA,lO]
end
def lvO (pc d:Nat):Nat:=if d=0 then (if pc=1∨pc=3∨pc=4 then 5 else if pc=5 then 2 else if pc=6∨pc=2 then 1 else 0) else if d=1∧pc=1 then 4 else 0
def levO (q:Q):Nat:=lvO q.1 (dA q)
def clO (q:Q):Nat:=if q.1=2∨q.1=5 then 2*oA q+1 else 2*oA q
def wsO (q:Q) (x:Int):Nat:=if q.1=1 then 1 else if q.1=3 then (if x=eA q then 0 else 2) else 0
def wqO (q:Q):Prop:=q.1=4∧dA q=0
def gqO (i:Nat) (q:Q) (x:Int):Prop:=q.1=1->1≤dA q->R1.stI x=1∧R1.whoI x=(iA q:Int)
section
variable {o:Nat}{k b:Int}{d i:Nat}
theorem Hw (n:Nat) (r:List Int):levO (n,lO o k b d i++r)=lvO n d:=by unfold levO;rw[dA_l]
theorem Hx (n:Nat):levO (n,lO o k b d i)=lvO n d:=by have:=Hw (o:=o) (k:=k) (b:=b) (d:=d) (i:=i) n [];rwa [List.append_nil] at this
theorem cl_l (n:Nat) (r:List Int):clO (n,lO o k b d i++r)=if n=2∨n=5 then 2*o+1 else 2*o:=by unfold clO;rw[oA_l]
theorem cl_0 (n:Nat):clO (n,lO o k b d i)=if n=2∨n=5 then 2*o+1 else 2*o:=by have:=cl_l (o:=o) (k:=k) (b:=b) (d:=d) (i:=i) n [];rwa [List.append_nil] at this
theorem seat_nx (a:Int×Int) (hd:d≤1):seatOk 5 levO clO wqO (nxO o k b d i a)∧nlev levO (nxO o k b d i a)≤2*d:=by
 match d,hd with
 |0,_=>exact ⟨trivial,Nat.le_refl _⟩
 |1,_ =>
  have h:levO (5,lO o k b 0 i++[70,a.1])=2:=Hw 5 [70,a.1]
  refine ⟨⟨?_,?_,?_⟩,?_⟩
  ·rw[h];decide
  ·rw[h];decide
  ·rw[cl_l];rfl
  ·show levO (5,lO o k b 0 i++[70,a.1])≤2*1
   rw[h];decide
end
theorem lv_cases {pc d:Nat}(h:1≤lvO pc d):(d=0∧(pc=1∨pc=3∨pc=4∨pc=5∨pc=6∨pc=2))∨(d=1∧pc=1):=by
 unfold lvO at h
 split at h
 ·left
  refine ⟨by assumption,?_⟩
  split at h
  ·omega
  ·split at h
   ·omega
   ·split at h
    ·omega
    ·omega
 ·split at h
  ·right;assumption
  ·omega
def metO (m:Nat):Met (mcO m) where
 L:=5
 hL:=by omega
 lev:=levO
 ws:=wsO
 cl:=clO
 wq:=wqO
 gq:=gqO
 ws_le q x:=by
  unfold wsO
  split
  ·omega
  ·split
   ·split<;>omega
   ·omega
 start i c:=by
  unfold mcO
  simp only
  split
  ·refine ⟨?_,?_,?_⟩
   ·rw[Hx];decide
   ·rw[Hx];decide
   ·rw[cl_0];rfl
  ·trivial
 stuck q h1 h2 hw:=by
  have hd:dA q=0:=hw.2
  have hs:(mcO m).stuck q=nxO (oA q) (kA q) (bA q) (dA q) (iA q) (4,0):=rfl
  rw[hs,hd]
  exact ⟨trivial,by show 0<levO q;omega⟩
 woke q h1 h2 hw:=by
  have hd:dA q=0:=hw.2
  have hs:(mcO m).woke q=.turn 1 (2*oA q) (1,lO (oA q) (kA q) (bA q) (dA q) (iA q)):=rfl
  have hl:levO q=5:=by unfold levO;rw[hw.1,hd];rfl
  rw[hs,hd,hl]
  refine ⟨⟨?_,?_,?_⟩,.inr ⟨?_,?_⟩⟩
  ·rw[Hx];decide
  ·rw[Hx];decide
  ·rw[cl_0];rfl
  ·show levO (1,_)=5
   rw[Hx];rfl
  ·intro y
   unfold wsO
   simp
 turn i q x hg h1 h2:=by
  rcases lv_cases h1 with ⟨hd,hp⟩|⟨hd,hp⟩
  ·rcases hp with hp|hp|hp|hp|hp|hp
   · -- it looks at the word
    have ht:(mcO m).turn q x=((x,x),x,lookO (oA q) (kA q) (bA q) (dA q) (iA q) x):=by show (if q.1=1 then _ else _:(Int×Int)×Int×Nx)=_;rw[if_pos hp]
    have hl:levO q=5:=by unfold levO;rw[hp,hd];rfl
    rw[ht,hd,hl]
    unfold lookO
    split
    ·refine ⟨⟨?_,?_,?_⟩,.inl ?_⟩
     ·rw[Hw];decide
     ·rw[Hw];decide
     ·rw[cl_l];rfl
     ·show levO (2,_)<5
      rw[Hw];decide
    ·split
     ·refine ⟨⟨?_,?_,?_⟩,.inr ⟨rfl,rfl,?_,?_,?_⟩⟩
      ·rw[Hw];decide
      ·rw[Hw];decide
      ·rw[cl_l];rfl
      ·show levO (3,_)=5
       rw[Hw];rfl
      ·rw[cl_l]
       unfold clO
       rw[hp]
       rfl
      ·unfold wsO
       simp[eA_l,hp]
     ·split
      ·exact ⟨(seat_nx (o:=oA q) (k:=kA q) (b:=bA q) (i:=iA q) (d:=0) (72,0) (by decide)).1,.inl (by have:=(seat_nx (o:=oA q) (k:=kA q) (b:=bA q) (i:=iA q) (d:=0) (72,0) (by decide)).2;show nlev levO (nxO (oA q) (kA q) (bA q) 0 (iA q) (72,0))<5;omega)⟩
      ·refine ⟨⟨?_,?_,?_⟩,.inr ⟨rfl,rfl,?_,?_⟩⟩
       ·rw[Hx];decide
       ·rw[Hx];decide
       ·exact ⟨rfl,by have:=dA_l 4 (oA q) (kA q) (bA q) 0 (iA q) [];rwa [List.append_nil] at this⟩
       ·show levO (4,_)=5
        rw[Hx];rfl
       ·unfold wsO
        simp[hp]
   · -- it tries to be the one
    have ht:(mcO m).turn q x=(if x=eA q then ((eA q,R1.Bh 1 (iA q) 0),R1.Bh 1 (iA q) 0,Fb (oA q) (kA q) (bA q) (dA q) (iA q)) else ((x,x),x,.turn 1 (2*oA q) (1,lO (oA q) (kA q) (bA q) (dA q) (iA q)))):=by
     show (if q.1=1 then _ else if q.1=2 then _ else if q.1=3 then _ else _:(Int×Int)×Int×Nx)=_
     rw[if_neg (by omega),if_neg (by omega),if_pos hp]
    have hl:levO q=5:=by unfold levO;rw[hp,hd];rfl
    rw[ht,hd,hl]
    by_cases hx:x=eA q
    ·rw[if_pos hx]
     show seatOk 5 levO clO wqO (Fb (oA q) (kA q) (bA q) 0 (iA q))∧_
     unfold Fb
     split
     ·refine ⟨⟨?_,?_,?_⟩,.inl ?_⟩
      ·rw[Hx];decide
      ·rw[Hx];decide
      ·rw[cl_0];rfl
      ·show levO (1,_)<5
       rw[Hx];decide
     ·refine ⟨⟨?_,?_,?_⟩,.inl ?_⟩
      ·rw[Hw];decide
      ·rw[Hw];decide
      ·rw[cl_l];rfl
      ·show levO (5,_)<5
       rw[Hw];decide
    ·rw[if_neg hx]
     refine ⟨⟨?_,?_,?_⟩,.inr ⟨rfl,rfl,?_,?_,?_⟩⟩
     ·rw[Hx];decide
     ·rw[Hx];decide
     ·rw[cl_0];rfl
     ·show levO (1,_)=5
      rw[Hx];rfl
     ·rw[cl_0]
      unfold clO
      rw[hp]
      rfl
     ·unfold wsO
      simp[hp,hx]
   · -- nobody sits so at a turn
    have ht:(mcO m).turn q x=((x,R1.Bh 2 0 (eA q)),R1.Bh 2 0 (eA q),nxO (oA q) (kA q) (bA q) (dA q) (iA q) (eA q,xA q)):=by
     show (if q.1=1 then _ else if q.1=2 then _ else if q.1=3 then _ else if q.1=5 then _ else _:(Int×Int)×Int×Nx)=_
     rw[if_neg (by omega),if_neg (by omega),if_neg (by omega),if_neg (by omega)]
    rw[ht,hd]
    exact ⟨trivial,.inl (by show 0<levO q;omega)⟩
   ·have ht:(mcO m).turn q x=((x,xA q),xA q,.turn 2 (2*oA q) (6,lO (oA q) (kA q) (bA q) (dA q) (iA q)++[eA q,xA q])):=by
     show (if q.1=1 then _ else if q.1=2 then _ else if q.1=3 then _ else if q.1=5 then _ else _:(Int×Int)×Int×Nx)=_
     rw[if_neg (by omega),if_neg (by omega),if_neg (by omega),if_pos hp]
    have hl:levO q=2:=by unfold levO;rw[hp,hd];rfl
    rw[ht,hd,hl]
    refine ⟨⟨?_,?_,?_⟩,.inl ?_⟩
    ·rw[Hw];decide
    ·rw[Hw];decide
    ·rw[cl_l];rfl
    ·show levO (6,_)<2
     rw[Hw];decide
   ·have ht:(mcO m).turn q x=((x,R1.Bh 2 0 (eA q)),R1.Bh 2 0 (eA q),nxO (oA q) (kA q) (bA q) (dA q) (iA q) (eA q,xA q)):=by
     show (if q.1=1 then _ else if q.1=2 then _ else if q.1=3 then _ else if q.1=5 then _ else _:(Int×Int)×Int×Nx)=_
     rw[if_neg (by omega),if_neg (by omega),if_neg (by omega),if_neg (by omega)]
    rw[ht,hd]
    exact ⟨trivial,.inl (by show 0<levO q;omega)⟩
   ·have ht:(mcO m).turn q x=((x,x),x,nxO (oA q) (kA q) (bA q) (dA q) (iA q) (eA q,x)):=by
     show (if q.1=1 then _ else if q.1=2 then _ else _:(Int×Int)×Int×Nx)=_
     rw[if_neg (by omega),if_pos hp]
    rw[ht,hd]
    exact ⟨trivial,.inl (by show 0<levO q;omega)⟩
  ·obtain ⟨g1,g2⟩:=hg hp (by omega)
   have ht:(mcO m).turn q x=((x,x),x,lookO (oA q) (kA q) (bA q) (dA q) (iA q) x):=by show (if q.1=1 then _ else _:(Int×Int)×Int×Nx)=_;rw[if_pos hp]
   have hl:levO q=4:=by unfold levO;rw[hp,hd];rfl
   have e:lookO (oA q) (kA q) (bA q) (dA q) (iA q) x=nxO (oA q) (kA q) (bA q) 1 (iA q) (72,0):=by
    unfold lookO
    rw[if_neg (by omega),if_neg (by omega),if_pos g2,hd]
   rw[ht,e,hl]
   have:=seat_nx (o:=oA q) (k:=kA q) (b:=bA q) (i:=iA q) (d:=1) (72,0) (by decide)
   exact ⟨this.1,.inl (by have h2:=this.2;show nlev levO (nxO (oA q) (kA q) (bA q) 1 (iA q) (72,0))<4;omega)⟩
end Go.Proofs.YtaofjdoielmobaaDoor.Gen
namespace Go.Proofs.YtaofjdoielmobaaDoor.Gen
open Go Go.Lift Go.Conc Go.RowKit
open Go.ConcN (upd upd_same upd_ne)
def isO (c:Cl):Prop:=1≤c.po∧c.po≤4
def actR (c:Cl):Int×Int:=if c.po=4 then (70,72) else cmO (c.po - 1) c.cb
theorem actR_code (c:Cl):(0≤(actR c).1∧(actR c).1<1048576)∧(actR c).1≠4:=by
 unfold actR cmO
 split
 ·simp
 ·split
  ·simp
  ·split<;>simp
abbrev wdO (K:List Int) (o:Nat):Int:=K.getD (2*o) 0
abbrev vlO (K:List Int) (o:Nat):Int:=K.getD (2*o+1) 0
abbrev lOc (m:Nat) (c:Cl) (d i:Nat):List Int:=lO (Aq c.ca m) (c.po - 1) c.cb d i
def CSeat (m:Nat) (c:Cl) (K:List Int) (i:Nat) (op:Int) (j:Nat) (q:Q):Prop :=
 (op=1∧j=2*Aq c.ca m∧q=(1,lOc m c 0 i)) ∨
 (op=4∧j=2*Aq c.ca m∧q=(3,lOc m c 0 i++[0])) ∨
 (op=1∧j=2*Aq c.ca m+1∧q=(2,lOc m c 0 i++[R1.codI (wdO K (Aq c.ca m))])∧R1.stI (wdO K (Aq c.ca m))=2) ∨
 (op=1∧j=2*Aq c.ca m∧q=(1,lOc m c 1 i)∧c.po=4∧wdO K (Aq c.ca m)=R1.Bh 1 i 0) ∨
 (op=2∧j=2*Aq c.ca m+1∧q=(5,lOc m c 0 i++[(actR c).1,(actR c).2])∧wdO K (Aq c.ca m)=R1.Bh 1 i 0) ∨
 (op=2∧j=2*Aq c.ca m∧q=(6,lOc m c 0 i++[(actR c).1,(actR c).2])∧wdO K (Aq c.ca m)=R1.Bh 1 i 0∧vlO K (Aq c.ca m)=(actR c).2)
def SeatO (m:Nat) (cl:List Cl) (K:List Int) (se:Int) (i:Nat):Ph->Prop
 |.done ans=>ans.length=cl.length
 |.turn op j q rest ii ans=>ans.length=cl.length∧rest=cl.drop (ii+1)∧∃ c,cl[ii]? = some c∧isO c∧CSeat m c K i op j q
 |.wait j q rest ii ans=>ans.length=cl.length∧rest=cl.drop (ii+1)∧∃ c,cl[ii]? = some c∧isO c∧j=2*Aq c.ca m∧q=(4,lOc m c 0 i)∧se=1
def upO (cl:List Cl):Ph->Nat
 |.turn _ _ _ _ ii _=>ii
 |.wait _ _ _ ii _=>ii
 |.done _=>cl.length
def EndO (m:Nat) (cl:List Cl) (K:List Int) (l:Ph):Prop:=∀ k c,k<upO cl l->cl[k]? = some c->isO c->R1.stI (wdO K (Aq c.ca m))=2∧l.ans[k]? = some (R1.codI (wdO K (Aq c.ca m)),vlO K (Aq c.ca m))
def BldP (o:Nat) (l:Ph):Prop:=∃ op j q r k a,l=.turn op j q r k a∧oA q=o∧(q.1=5∨q.1=6∨(q.1=1∧dA q=1))
def ActO (N m:Nat) (cl:Nat->List Cl) (o:Nat) (a:Int×Int):Prop:=∃ i,i<N∧∃ (k:Nat) (c:Cl),(cl i)[k]? = some c∧isO c∧Aq c.ca m=o∧actR c=a
def WordO (N m:Nat) (cl:Nat->List Cl) (v:Vw) (o:Nat):Prop :=
 (wdO v.K o=0∧v.chg.getD (2*o) 0=0) ∨
 (∃ t,t<N∧wdO v.K o=R1.Bh 1 t 0∧v.chg.getD (2*o) 0=1∧BldP o (v.l t)) ∨
 (∃ e,wdO v.K o=R1.Bh 2 0 e∧v.chg.getD (2*o) 0=2∧(0≤e∧e<1048576)∧e≠4∧ActO N m cl o (e,vlO v.K o))
structure OV (N m:Nat) (cl:Nat->List Cl) (v:Vw):Prop where
 kl:v.K.length=2*m
 cgl:v.chg.length=2*m
 stk:v.stk=false
 seat:∀ i,i<N->SeatO m (cl i) v.K (v.se i) i (v.l i)
 word:∀ o,o<m->WordO N m cl v o
 ends:∀ i,i<N->EndO m (cl i) v.K (v.l i)
section
variable {m N:Nat}{cl:Nat->List Cl}
theorem st0:R1.stI 0=0:=by kernel_rfl
theorem st1 (i:Nat):R1.stI (R1.Bh 1 i 0)=1:=R1.st_word (by decide) (by decide)
theorem st2 (e:Int):R1.stI (R1.Bh 2 0 e)=2:=R1.st_word (by decide) (by decide)
theorem who1 {i:Nat}(h:i<256):R1.whoI (R1.Bh 1 i 0)=i:=R1.who_word (by decide) (by decide) (by omega) (by omega) (by decide) (by decide)
theorem cod2 {e:Int}(h:0≤e∧e<1048576):R1.codI (R1.Bh 2 0 e)=e:=R1.cod_word (by decide) (by decide) (by decide) (by decide) h.1 h.2
theorem word1_inj {i t:Nat}(hi:i<256) (ht:t<256) (h:R1.Bh 1 i 0=R1.Bh 1 t 0):i=t:=by
 have:=congrArg R1.whoI h
 rw[who1 hi,who1 ht] at this
 omega
theorem Bk {K:List Int}{a b:Nat}{x:Int}(ha:a<K.length):(K.set a x).getD b 0=if a=b then x else K.getD b 0:=by
 rw[List.getD_eq_getElem?_getD,List.getElem?_set,List.getD_eq_getElem?_getD]
 by_cases e:a=b
 ·subst e;rw[if_pos rfl,if_pos rfl,if_pos ha];rfl
 ·rw[if_neg e,if_neg e]
theorem E7 {K:List Int}{j:Nat}:K.set j (K.getD j 0)=K:=by
 apply List.ext_getElem?
 intro k
 rw[List.getElem?_set]
 split
 ·rename_i e
  subst e
  split
  ·rename_i h
   rw[List.getD_eq_getElem?_getD,List.getElem?_eq_getElem h]
   rfl
  ·rename_i h
   rw[List.getElem?_eq_none (by omega)]
 ·rfl
theorem bump_same (g:List Int) (j:Nat) (x:Int):bump g j x x=g:=by
 unfold bump
 rw[if_neg (by simp)]
theorem bump_get {g:List Int}{j k:Nat}{x y:Int}(hj:j<g.length) (hxy:x≠y):(bump g j x y).getD k 0=if j=k then wrap64 (g.getD k 0+1) else g.getD k 0:=by
 unfold bump
 rw[if_pos ⟨hxy,hj⟩,List.getD_eq_getElem?_getD,List.getElem?_modify,List.getD_eq_getElem?_getD]
 by_cases e:j=k
 ·subst e
  rw[if_pos rfl,List.getElem?_eq_getElem hj]
  simp
 ·simp only[if_neg e]
  cases g[k]?<;>rfl
theorem bump_far {g:List Int}{j k:Nat}{x y:Int}(hjk:j≠k):(bump g j x y).getD k 0=g.getD k 0:=by
 unfold bump
 split
 ·rw[List.getD_eq_getElem?_getD,List.getElem?_modify,List.getD_eq_getElem?_getD]
  simp only[if_neg hjk]
  cases g[k]?<;>rfl
 ·rfl
theorem bump_len (g:List Int) (j:Nat) (x y:Int):(bump g j x y).length=g.length:=by
 unfold bump
 split
 ·rw[List.length_modify]
 ·rfl
structure Sty (o i:Nat) (K K':List Int):Prop where
 oth:∀ o',o'≠o->wdO K' o'=wdO K o'∧vlO K' o'=vlO K o'
 mine:wdO K o=0∨wdO K o=R1.Bh 1 i 0
theorem Sty.not2 {o i:Nat}{K K':List Int}(h:Sty o i K K'):R1.stI (wdO K o)≠2:=by
 rcases h.mine with e|e
 ·rw[e,st0];decide
 ·rw[e,st1];decide
theorem Sty.notT {o i t:Nat}{K K':List Int}(h:Sty o i K K') (hi:i<256) (ht:t<256) (hti:t≠i):wdO K o≠R1.Bh 1 t 0:=fun e=>by
 rcases h.mine with e'|e'
 ·rw[e'] at e
  have:=congrArg R1.stI e
  rw[st0,st1] at this
  cases this
 ·rw[e'] at e
  exact hti (word1_inj hi ht e).symm
theorem CSeat.sta {o i t:Nat}{K K':List Int}{c:Cl}{op:Int}{j:Nat}{q:Q}(h:Sty o i K K') (hi:i<256) (ht:t<256) (hti:t≠i) (hs:CSeat m c K t op j q):CSeat m c K' t op j q:=by
 by_cases e:Aq c.ca m=o
 ·unfold CSeat at hs ⊢
  rw[e] at hs ⊢
  rcases hs with hs|hs|⟨_,_,_,h4⟩|⟨_,_,_,_,h4⟩|⟨_,_,_,h4⟩|⟨_,_,_,h4,_⟩
  ·exact .inl hs
  ·exact .inr (.inl hs)
  ·exact absurd h4 h.not2
  ·exact absurd h4 (h.notT hi ht hti)
  ·exact absurd h4 (h.notT hi ht hti)
  ·exact absurd h4 (h.notT hi ht hti)
 ·obtain ⟨e1,e2⟩:=h.oth _ e
  unfold CSeat at hs ⊢
  rw[e1,e2]
  exact hs
theorem SeatO.sta {o i t:Nat}{K K':List Int}{cs:List Cl}{se se':Int}{l:Ph}(h:Sty o i K K') (hi:i<256) (ht:t<256) (hti:t≠i) (hse:se'=se) (hs:SeatO m cs K se t l):SeatO m cs K' se' t l:=by
 subst hse
 cases l with
 |done a=>exact hs
 |turn op j q r ii a =>
  obtain ⟨h1,h2,c,h3,h4,h5⟩:=hs
  exact ⟨h1,h2,c,h3,h4,h5.sta h hi ht hti⟩
 |wait j q r ii a=>exact hs
theorem EndO.sta {o i:Nat}{K K':List Int}{cs:List Cl}{l:Ph}(h:Sty o i K K') (hs:EndO m cs K l):EndO m cs K' l:=fun k c h1 h2 h3=>by
 obtain ⟨q1,q2⟩:=hs k c h1 h2 h3
 by_cases e:Aq c.ca m=o
 ·rw[e] at q1
  exact absurd q1 h.not2
 ·obtain ⟨e1,e2⟩:=h.oth _ e
  rw[e1,e2]
  exact ⟨q1,q2⟩
theorem fw_O {i:Nat}{cs:List Cl}{rest:List Cl}{ii:Nat}{sk:Bool}{ans:List (Int×Int)}{X:List Stp}{l:Ph}(h:Fw (mcO m) i false rest ii sk ans X l) :
 sk=false->rest=cs.drop ii->ii≤cs.length->ans.length=cs.length->∀ K se,SeatO m cs K se i l∧ii≤upO cs l∧(∀ k c,ii≤k->k<upO cs l->cs[k]? = some c->¬ isO c)∧(∀ k,k<ii->l.ans[k]? = ans[k]?)∧∀ o,¬ BldP o l:=by
 induction h with
 |@nil ii sk ans =>
  intro _ hr hi ha K se
  have hge:cs.length≤ii:=by
   have:=congrArg List.length hr
   simp at this
   omega
  exact ⟨ha,hi,fun k c h1 h2=>by have h2:k<cs.length:=h2;omega,fun k hk=>rfl,fun o hb=>by obtain ⟨op,j,q,r,k,a,e,_⟩:=hb;cases e⟩
 |skip=>intro hsk;cases hsk
 |@ans c rest ii ans X l e x hst _ ih =>
  intro _ hr hi ha K se
  rw[Mc.set_false] at hst
  have hcs:cs[ii]? = some c:=by
   have:=congrArg (·[0]?) hr
   simpa using this.symm
  have hlt:=(List.getElem?_eq_some_iff.1 hcs).1
  have hno:¬ isO c:=fun hc=>by
   have hst':(if 1≤c.po∧c.po≤4 then Nx.turn 1 (2*Aq c.ca m) (1,lO (Aq c.ca m) (c.po - 1) c.cb 0 i) else .ans 1 0)=.ans e x:=hst
   rw[if_pos (show 1≤c.po∧c.po≤4 from hc)] at hst'
   cases hst'
  have hex:e=1∧x=0:=by
   have hst':(if 1≤c.po∧c.po≤4 then Nx.turn 1 (2*Aq c.ca m) (1,lO (Aq c.ca m) (c.po - 1) c.cb 0 i) else .ans 1 0)=.ans e x:=hst
   rw[if_neg (show ¬ (1≤c.po∧c.po≤4) from hno)] at hst'
   cases hst'
   exact ⟨rfl,rfl⟩
  obtain ⟨rfl,rfl⟩:=hex
  obtain ⟨q1,q2,q3,q4,q5⟩:=ih rfl (by rw[←List.tail_drop,←hr];rfl) hlt (by rw[List.length_set];exact ha) K se
  refine ⟨q1,by omega,fun k c' h1 h2 h3=>?_,fun k hk=>?_,q5⟩
  ·by_cases hk:k=ii
   ·subst hk
    rw[hcs] at h3
    cases h3
    exact hno
   ·exact q3 k c' (by omega) h2 h3
  ·rw[q4 k (by omega),List.getElem?_set,if_neg (by omega)]
 |@turn c rest ii ans op j q hst =>
  intro _ hr hi ha K se
  rw[Mc.set_false] at hst
  have hcs:cs[ii]? = some c:=by
   have:=congrArg (·[0]?) hr
   simpa using this.symm
  have hst':(if 1≤c.po∧c.po≤4 then Nx.turn 1 (2*Aq c.ca m) (1,lO (Aq c.ca m) (c.po - 1) c.cb 0 i) else .ans 1 0)=.turn op j q:=hst
  by_cases hc:1≤c.po∧c.po≤4
  ·rw[if_pos hc] at hst'
   cases hst'
   refine ⟨⟨ha,by rw[←List.tail_drop,←hr];rfl,c,hcs,hc,.inl ⟨rfl,rfl,rfl⟩⟩,Nat.le_refl _,fun k c' h1 h2=>by have h2:k<ii:=h2;omega,fun k _=>rfl,fun o hb=>?_⟩
   obtain ⟨op,j,q,r,k,a,e,_,e2⟩:=hb
   cases e
   rcases e2 with e2|e2|⟨_,e2⟩
   ·cases e2
   ·cases e2
   ·have:=dA_l 1 (Aq c.ca m) (c.po - 1) c.cb 0 i []
    rw[List.append_nil] at this
    rw[this] at e2
    cases e2
  ·rw[if_neg hc] at hst'
   cases hst'
 |@wait c rest ii ans j q hst =>
  intro _ hr hi ha K se
  rw[Mc.set_false] at hst
  have hst':(if 1≤c.po∧c.po≤4 then Nx.turn 1 (2*Aq c.ca m) (1,lO (Aq c.ca m) (c.po - 1) c.cb 0 i) else .ans 1 0)=.wait j q:=hst
  split at hst'<;>cases hst'
end
end Go.Proofs.YtaofjdoielmobaaDoor.Gen
