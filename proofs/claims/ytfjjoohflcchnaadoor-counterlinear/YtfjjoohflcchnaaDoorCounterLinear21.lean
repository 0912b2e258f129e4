/- CounterLinear, part 21 of 24: R3Ways4, R3WaysAll, R3RefL. -/
import Derived.Test.YtfjjoohflcchnaaDoorCounterLinear01
import Derived.Test.YtfjjoohflcchnaaDoorCounterLinear20
set_option linter.unusedSimpArgs false
set_option linter.unusedVariables false
set_option maxHeartbeats 4000000
set_option maxRecDepth 100000
noncomputable section
namespace Go.Proofs.YtfjjoohflcchnaaDoor.R3
open Go.RowKit Go.Proofs.YtfjjoohflcchnaaDoor.His Go.Deep Go.Maps
theorem wrap_left (n:Int):IntKind.i64.wrap n=wrap64 n:=IntWalk.i64_left n
theorem ways3_one (n z:Int) (sv:Value) (x:Ev) (h1:x.op=1) (w:World) (h:SI w sv [z]):
 Calls Tryd.prog 117 #[I 3,I n,sv,evV x] w λe w'=>∃ v,e=.returned v∧WOuts w' v (refWays 3 n [z] x)∧Below w.heap.size w w':=by
 have e1:refWays 3 n [z] x=[((0,0),[wrap64 (z+x.a.tmod 1000)])]:=by simp[refWays,h1]
 rw[e1];have HS:Hid (SI w sv [z]):=h;obtain ⟨p,cap,rfl,hc,hm,h3⟩:=h;obtain ⟨blk,off,rfl,hlb,hr⟩:=h3 0 z rfl;have hz:w.cell? ⟨blk,off,none⟩=some (I z):=by simpa using hr 0 (I z) rfl
 unfold maxLen at hm;have hz1:(w.alloc (.cells (evC x) 81)).cell? ⟨blk,off,none⟩=some (I z):=one_old hz _;have hxa:(w.alloc (.cells (evC x) 81)).cell? ⟨w.heap.size,2,none⟩=some (I x.a):=World.cell?_alloc_at _ _ _ _ rfl;clear h3 hr e1;have h1':(x.op==1)=true:=by simpa using h1
 clear h1
 go_enter Tryd.func117,Tryd.ntmps117
 go_wp2_with fail
 go_region_held3 (λu=>u.cell? ⟨blk,off,none⟩=some (I z)∧u.cell? ⟨w.heap.size,2,none⟩=some (I x.a))
  (first|(exact keep2 ‹_› (below_alloc (Below.refl _ _) _))|(simp[go_sem, *];done))
  (fail)
 rename_i hH;clear hH;go_wp2_with fail;go_ret;exact ⟨_,rfl,wouts_one (o:=((0,0),[wrap64 (z+x.a.tmod 1000)])) (range_drew1 (range_new _ _ _ _ _ rfl (by simp))) (si_drew (si_one (by rw[<-wrap_left];simp[go_sem]))),below_drew (below_alloc (below_alloc (below_alloc (Below.refl _ _) _) _) _)⟩
theorem ways3_two (n z:Int) (sv:Value) (x:Ev) (h1:x.op=2) (w:World) (h:SI w sv [z]):
 Calls Tryd.prog 117 #[I 3,I n,sv,evV x] w λe w'=>∃ v,e=.returned v∧WOuts w' v (refWays 3 n [z] x)∧Below w.heap.size w w':=by
 have e1:refWays 3 n [z] x=[((0,z),[z])]:=by simp[refWays,h1]
 rw[e1];have HS:Hid (SI w sv [z]):=h;obtain ⟨p,cap,rfl,hc,hm,h3⟩:=h;obtain ⟨blk,off,rfl,hlb,hr⟩:=h3 0 z rfl;have hz:w.cell? ⟨blk,off,none⟩=some (I z):=by simpa using hr 0 (I z) rfl
 unfold maxLen at hm;have hz1:(w.alloc (.cells (evC x) 81)).cell? ⟨blk,off,none⟩=some (I z):=one_old hz _;have hxa:(w.alloc (.cells (evC x) 81)).cell? ⟨w.heap.size,2,none⟩=some (I x.a):=World.cell?_alloc_at _ _ _ _ rfl;clear h3 hr e1;have h1':(x.op==1)=false:=by rw[h1];rfl
 have h2':(x.op==2)=true:=by rw[h1];rfl
 clear h1
 go_enter Tryd.func117,Tryd.ntmps117
 go_wp2_with (go_at_call 133;refine (ok_exact z _).mono ?_;rintro e w5 ⟨rfl,rfl⟩)
 go_ret;exact ⟨_,rfl,wouts_one (o:=((0,z),[z])) (sv:=.slice (some ⟨blk,off,none⟩) 1 cap) (range_new _ _ _ _ _ rfl (by simp)) (HS.out.later (below_alloc (below_alloc (below_alloc (Below.refl _ _) _) _) _)),below_alloc (below_alloc (below_alloc (Below.refl _ _) _) _) _⟩
theorem ways3_none (n z:Int) (sv:Value) (x:Ev) (h1:¬ x.op=1) (h2:¬ x.op=2) (w:World) (h:SI w sv [z]):
 Calls Tryd.prog 117 #[I 3,I n,sv,evV x] w λe w'=>∃ v,e=.returned v∧WOuts w' v (refWays 3 n [z] x)∧Below w.heap.size w w':=by
 have e1:refWays 3 n [z] x=[]:=by simp[refWays,h1,h2]
 rw[e1];have HS:Hid (SI w sv [z]):=h;obtain ⟨p,cap,rfl,hc,hm,h3⟩:=h;obtain ⟨blk,off,rfl,hlb,hr⟩:=h3 0 z rfl;have hz:w.cell? ⟨blk,off,none⟩=some (I z):=by simpa using hr 0 (I z) rfl
 unfold maxLen at hm;have hz1:(w.alloc (.cells (evC x) 81)).cell? ⟨blk,off,none⟩=some (I z):=one_old hz _;have hxa:(w.alloc (.cells (evC x) 81)).cell? ⟨w.heap.size,2,none⟩=some (I x.a):=World.cell?_alloc_at _ _ _ _ rfl;clear h3 hr e1;have h1':(x.op==1)=false:=by simpa using h1
 have h2':(x.op==2)=false:=by simpa using h2
 clear h1 h2
 go_enter Tryd.func117,Tryd.ntmps117
 go_wp2_with fail;go_ret;exact ⟨_,rfl,wouts_nil _,below_alloc (Below.refl _ _) _⟩
def StOk (ob st:Int) (k:Nat) (s:List Int):Prop :=
 (ob=1∨ob=3∨ob=4->∃ z,s=[z])∧(ob=2->s.length<=k)∧(ob=5->s.length=3*st.toNat)
def WaysC (ob st:Int):Prop:=∀ (k:Nat),k<=1000->∀ (s:List Int),StOk ob st k s->∀ (x:Ev) (sv:Value) (w:World),SI w sv s ->
    Calls Tryd.prog 117 #[I ob,I st,sv,evV x] w λe w'=>∃ v,e=.returned v∧WOuts w' v (refWays ob st s x)∧Below w.heap.size w w'
theorem waysC_counter (st:Int):WaysC 3 st:=λk hk s hs x sv w h=>by
 obtain ⟨z,rfl⟩:=hs.1 (.inr (.inl rfl));by_cases o1:x.op=1;exact ways3_one st z sv x o1 w h
 .by_cases o2:x.op=2
  exact ways3_two st z sv x o2 w h;exact ways3_none st z sv x o1 o2 w h
theorem stOk_first (ob st:Int):StOk ob st 0 (firstOf ob st):=by refine ⟨λho=>⟨st,?_⟩,λho=>?_,λho=>?_⟩;unfold firstOf;rw[if_neg (by omega),if_neg (by omega)];unfold firstOf;rw[if_pos ho];exact Qi _;unfold firstOf;rw[if_neg (by omega),if_pos ho];simp
theorem stOk_next {ob st:Int}{k:Nat}{s:List Int}{x:Ev}(h:StOk ob st k s) {o:(Int×Int)×List Int}(ho:o∈refWays ob st s x):StOk ob st (k+1) o.2:=by
 unfold refWays at ho;split at ho
 .rename_i h1
  obtain ⟨z,rfl⟩:=h.1 (.inl h1);have key:∃ z',o.2=[z']:=by
   split at ho;simp at ho;subst ho;exact ⟨_,rfl⟩
   .split at ho
    .simp at ho
     rcases ho with rfl|rfl;exact ⟨_,rfl⟩;exact ⟨_,rfl⟩
    simp at ho
  exact ⟨λ_=>key,λh=>by omega,λh=>by omega⟩
 .split at ho
  .rename_i h2
   have hl:=h.2.1 h2;refine ⟨λh=>by omega,λ_=>?_,λh=>by omega⟩;unfold wayStack at ho;split at ho
   .simp at ho
    rcases ho with rfl|rfl;simp;omega;simp only[];omega
   .split at ho
    .split at ho
     simp at ho;subst ho;simp only[];omega;simp at ho;subst ho;simp only[List.length_dropLast];omega
    simp at ho
  .split at ho
   .rename_i h3
    obtain ⟨z,rfl⟩:=h.1 (.inr (.inl h3));have key:∃ z',o.2=[z']:=by
     split at ho;simp at ho;subst ho;exact ⟨_,rfl⟩
     .split at ho
      simp at ho;subst ho;exact ⟨_,rfl⟩;simp at ho
    exact ⟨λ_=>key,λh=>by omega,λh=>by omega⟩
   .split at ho
    .rename_i h4
     obtain ⟨z,rfl⟩:=h.1 (.inr (.inr h4));have key:∃ z',o.2=[z']:=by
      split at ho
      .split at ho
       simp at ho;subst ho;exact ⟨_,rfl⟩;simp at ho;subst ho;exact ⟨_,rfl⟩
      .split at ho
       .split at ho
        simp at ho;subst ho;exact ⟨_,rfl⟩;simp at ho
       simp at ho
     exact ⟨λ_=>key,λh=>by omega,λh=>by omega⟩
    .refine ⟨λh=>by omega,λh=>by omega,λh5=>?_⟩
     have hl:=h.2.2 h5;unfold wayThree at ho;split at ho;simp at ho
     .split at ho
      simp at ho;subst ho;exact hl;simp at ho;subst ho;simp[hl]
theorem rahead_any (x y:Ev) (w:World):
 Calls Tryd.prog 114 #[evV x,evV y] w λe w'=>e=.returned (.bool (evAhead x y))∧Below w.heap.size w w':=by
 cases ho:(x.fin != -1)
 .have hr:evAhead x y=false:=by show ((x.fin != -1)&&_)=false;rw[ho];rfl
  rw[hr];clear hr
  go_enter Tryd.func114,Tryd.ntmps114
  go_wp2_with fail;go_ret;exact ⟨rfl,below_alloc (below_alloc (Below.refl _ _) _) _⟩
 .have hr:evAhead x y=decide (x.fin<y.beg):=by show ((x.fin != -1)&&_)=_;rw[ho];rfl
  rw[hr];clear hr
  go_enter Tryd.func114,Tryd.ntmps114
  go_wp2_with fail;go_ret;exact ⟨rfl,below_alloc (below_alloc (Below.refl _ _) _) _⟩
theorem si_at1 {w:World}{p:Option Addr}{n cap:Nat}{s:List Int}(h:SI w (.slice p n cap) s) (h0:0<s.length):∃ blk off,p=some ⟨blk,off,none⟩∧blk<w.heap.size∧∀ j,j<s.length->w.cell? ⟨blk,off+j,none⟩=some (I (s.getD j 0)):=by obtain ⟨p',cap',e,_,_,h3⟩:=h;cases e;obtain ⟨blk,off,rfl,hlt,_⟩:=h3 0 _ (Qf h0);refine ⟨blk,off,rfl,hlt,λj hj=>?_⟩;obtain ⟨b',o',e,_,hr⟩:=h3 j _ (Qf hj);cases e;have:=hr 0 _ rfl;rw[Ql,Qf hj];simpa using this
theorem rsame_any (va vb:Value) (a b:List Int) (w:World) (ha:SI w va a) (hb:SI w vb b):
 Calls Tryd.prog 115 #[va,vb] w λe w'=>RetB e (a=b)∧Below w.heap.size w w':=by
 have HA:Hid (SI w va a):=ha;have HB:Hid (SI w vb b):=hb;obtain ⟨pa,ca,rfl,ha1,ha2,_⟩:=ha;obtain ⟨pb,cb,rfl,hb1,hb2,_⟩:=hb;unfold maxLen at ha2 hb2;by_cases hl:a.length=b.length
 .have hl':((a.length:Int) != (b.length:Int))=false:=by simp[hl]
  go_enter Tryd.func115,Tryd.ntmps115
  go_wp2_with fail
  go_loopw [5] (λi u=>∃ k:Nat,k<=a.length∧i=.int .i64 k∧(∀ j,j<k->a.getD j 0=b.getD j 0)∧Below w.heap.size w u) (λi _=>a.length - (intOf i).toNat)
  case atStart=>exact ⟨0,Nat.zero_le _,rfl,λi hi=>absurd hi (Nat.not_lt_zero _),Below.refl _ _⟩
  case round =>
   obtain ⟨k,hk,rfl,hso,hbl⟩:=hrel;have HS:Hid (∀ j,j<k->a.getD j 0=b.getD j 0):=hso;have HBL:Hid (Below w.heap.size w wr):=hbl;by_cases hlt:k<a.length
   .obtain ⟨ab,ao,rfl,la,hca⟩:=si_at1 HA.out (by omega)
    obtain ⟨bb,bo,rfl,lb,hcb⟩:=si_at1 HB.out (by omega);have xa:=kcell' hbl la (hca k hlt);have xb:=kcell' hbl lb (hcb k (by omega));generalize hxa:a.getD k 0=ya at xa;generalize hxb:b.getD k 0=yb at xb;have HXA:Hid (a.getD k 0=ya):=hxa;have HXB:Hid (b.getD k 0=yb):=hxb;clear hso hca hcb hxa hxb hbl;cases he:(ya != yb)
    .have HE:Hid (ya=yb):=(show ya=yb by simpa using he)
     go_wp2_with fail
     go_quiet (fail)
     go_wp2_with fail
     go_roundw
     case rel=>exact ⟨k+1,by omega,by go_num,upto_succ HS.out (by rw[HXA.out,HXB.out];exact HE.out),below_drewN HBL.out _⟩
     case measure=>simp[intOf];omega
    .have HE:Hid (ya≠yb):=(show ya≠yb by simpa using he)
     go_wp2_with fail
     go_quiet (fail)
     go_wp2_with fail;go_ret;exact ⟨retB_no rfl (λh=>HE.out (by rw[<-HXA.out,<-HXB.out,h])),below_drewN HBL.out _⟩
   .have:k=a.length:=by omega
    subst this;clear hso hbl;go_wp2_with fail;go_ret;refine ⟨retB_yes rfl (List.ext_getElem hl λi h1 h2=>?_),HBL.out⟩;have:=HS.out i h1;simpa [Ql,Qf h1,Qf h2] using this
 .have hl':((a.length:Int) != (b.length:Int))=true:=by simp;omega
  go_enter Tryd.func115,Tryd.ntmps115
  go_wp2_with fail;go_ret;exact ⟨retB_no rfl (λh=>hl (by rw[h])),Below.refl _ _⟩
theorem keep16 {u u':World}{a1 a2 a3 a4 a5 a6 a7 a8 a9 a10 a11 a12 a13 a14 a15 a16:Addr}{v1 v2 v3 v4 v5 v6 v7 v8 v9 v10 v11 v12 v13 v14 v15 v16:Value}(h:u.cell? a1=some v1∧u.cell? a2=some v2∧u.cell? a3=some v3∧u.cell? a4=some v4∧u.cell? a5=some v5∧u.cell? a6=some v6∧u.cell? a7=some v7∧u.cell? a8=some v8∧u.cell? a9=some v9∧u.cell? a10=some v10∧u.cell? a11=some v11∧u.cell? a12=some v12∧u.cell? a13=some v13∧u.cell? a14=some v14∧u.cell? a15=some v15∧u.cell? a16=some v16) (hb:Below u.heap.size u u'):u'.cell? a1=some v1∧u'.cell? a2=some v2∧u'.cell? a3=some v3∧u'.cell? a4=some v4∧u'.cell? a5=some v5∧u'.cell? a6=some v6∧u'.cell? a7=some v7∧u'.cell? a8=some v8∧u'.cell? a9=some v9∧u'.cell? a10=some v10∧u'.cell? a11=some v11∧u'.cell? a12=some v12∧u'.cell? a13=some v13∧u'.cell? a14=some v14∧u'.cell? a15=some v15∧u'.cell? a16=some v16:=by obtain ⟨h1,h2,h3,h4,h5,h6,h7,h8,h9,h10,h11,h12,h13,h14,h15,h16⟩:=h;exact ⟨kcell hb h1,kcell hb h2,kcell hb h3,kcell hb h4,kcell hb h5,kcell hb h6,kcell hb h7,kcell hb h8,kcell hb h9,kcell hb h10,kcell hb h11,kcell hb h12,kcell hb h13,kcell hb h14,kcell hb h15,kcell hb h16⟩
theorem keep17 {u u':World}{a1 a2 a3 a4 a5 a6 a7 a8 a9 a10 a11 a12 a13 a14 a15 a16 a17:Addr}{v1 v2 v3 v4 v5 v6 v7 v8 v9 v10 v11 v12 v13 v14 v15 v16 v17:Value}(h:u.cell? a1=some v1∧u.cell? a2=some v2∧u.cell? a3=some v3∧u.cell? a4=some v4∧u.cell? a5=some v5∧u.cell? a6=some v6∧u.cell? a7=some v7∧u.cell? a8=some v8∧u.cell? a9=some v9∧u.cell? a10=some v10∧u.cell? a11=some v11∧u.cell? a12=some v12∧u.cell? a13=some v13∧u.cell? a14=some v14∧u.cell? a15=some v15∧u.cell? a16=some v16∧u.cell? a17=some v17) (hb:Below u.heap.size u u'):u'.cell? a1=some v1∧u'.cell? a2=some v2∧u'.cell? a3=some v3∧u'.cell? a4=some v4∧u'.cell? a5=some v5∧u'.cell? a6=some v6∧u'.cell? a7=some v7∧u'.cell? a8=some v8∧u'.cell? a9=some v9∧u'.cell? a10=some v10∧u'.cell? a11=some v11∧u'.cell? a12=some v12∧u'.cell? a13=some v13∧u'.cell? a14=some v14∧u'.cell? a15=some v15∧u'.cell? a16=some v16∧u'.cell? a17=some v17:=by obtain ⟨h1,h2,h3,h4,h5,h6,h7,h8,h9,h10,h11,h12,h13,h14,h15,h16,h17⟩:=h;exact ⟨kcell hb h1,kcell hb h2,kcell hb h3,kcell hb h4,kcell hb h5,kcell hb h6,kcell hb h7,kcell hb h8,kcell hb h9,kcell hb h10,kcell hb h11,kcell hb h12,kcell hb h13,kcell hb h14,kcell hb h15,kcell hb h16,kcell hb h17⟩
theorem ev_cells {w:World}{b o:Nat}{x:Ev}(h:w.rangeAt b o (evC x).toList):w.cell? ⟨b,o,none⟩=some (I x.thr)∧w.cell? ⟨b,o+1,none⟩=some (I x.op)∧w.cell? ⟨b,o+2,none⟩=some (I x.a)∧w.cell? ⟨b,o+3,none⟩=some (I x.b)∧w.cell? ⟨b,o+4,none⟩=some (I x.beg)∧w.cell? ⟨b,o+5,none⟩=some (I x.fin)∧w.cell? ⟨b,o+6,none⟩=some (I x.code)∧w.cell? ⟨b,o+7,none⟩=some (I x.val) :=
 ⟨h 0 _ rfl,h 1 _ rfl,h 2 _ rfl,h 3 _ rfl,h 4 _ rfl,h 5 _ rfl,h 6 _ rfl,h 7 _ rfl⟩
theorem rhistory_any (v:Value) (l:List Ev) (w:World) (h:Evs w v l):
 Calls Tryd.prog 83 #[v] w λe w'=>RetB e (Hist l)∧Below w.heap.size w w':=by
 obtain ⟨p,cap,rfl,hc,hm,hE⟩:=h;unfold maxLen at hm
 go_enter Tryd.func83,Tryd.ntmps83
 go_wp2_with fail
 go_loopw [3] (λi u=>∃ k:Nat,k<=l.length∧i=.int .i64 k∧(∀ i,i<k->Timed (l.getD i ev0)∧∀ j,j<i->Two (l.getD i ev0) (l.getD j ev0))∧Below w.heap.size w u) (λi _=>l.length - (intOf i).toNat)
 case atStart=>exact ⟨0,Nat.zero_le _,rfl,λi hi=>absurd hi (Nat.not_lt_zero _),Below.refl _ _⟩
 case round =>
  obtain ⟨k,hk,rfl,hso,hb⟩:=hrel;obtain ⟨wo,hwo⟩:∃ wo,wo=wr:=⟨wr,rfl⟩
  subst hwo;have HB:Hid (Below w.heap.size w wo):=hb;by_cases hlt:k<l.length
  .obtain ⟨blk,off,rfl,hr⟩:=hE k hlt
   have HBL:Hid (blk<w.heap.size):=range_lt hr;have hE':∀ i,i<l.length->w.rangeAt blk (off+i*8) (evC (l.getD i ev0)).toList:=λi hi=>by obtain ⟨b',o',e,h⟩:=hE i hi;cases e;exact h
   have HE:Hid (∀ i,i<l.length->w.rangeAt blk (off+i*8) (evC (l.getD i ev0)).toList):=hE';have HSO:Hid (∀ i,i<k->Timed (l.getD i ev0)∧∀ j,j<i->Two (l.getD i ev0) (l.getD j ev0)):=hso;generalize hx:l.getD k ev0=x at hr;have HX:Hid (l.getD k ev0=x):=hx;have HRX:Hid (w.rangeAt blk (off+k*8) (evC x).toList):=hr;obtain ⟨i4,i5⟩:=beg_fin (range_later hb hr (range_lt hr));clear hb hso hE hE' hx hr;by_cases ho:Timed x
   .have HO:Hid (Timed x):=ho
    have hcs:(decide (x.beg<0)=false∧(x.fin != -1)=false)∨(decide (x.beg<0)=false∧(x.fin != -1)=true∧decide (x.fin<=x.beg)=false):=by obtain ⟨o1,o2⟩:=ho;by_cases e:x.fin=-1;left;exact ⟨by simp;omega,by rw[e];rfl⟩;right;exact ⟨by simp;omega,by simpa using e,by simp;omega⟩
    clear ho;rcases hcs with ⟨b1,b2⟩|⟨b1,b2,b3⟩
    all_goals
     go_wp2_with fail
     go_quiet (fail)
     refine (show ∀ W,Below wo.heap.size wo W->Exit.then _ _ Exit.normal _ W from λW hW=>?_) _ (below_drewN (Below.refl _ _) _);have HBW0:Hid (Below w.heap.size w W):=below_step HB.out hW;clear hW i4 i5;go_wp2_with fail
     go_loopw [4] (λi u=>∃ j:Nat,j<=k∧i=.int .i64 j∧(∀ i,i<j->Two x (l.getD i ev0))∧Below w.heap.size w u) (λi _=>k - (intOf i).toNat)
     case atStart=>exact ⟨0,Nat.zero_le _,rfl,λi hi=>absurd hi (Nat.not_lt_zero _),HBW0.out⟩
     case round =>
      obtain ⟨j,hj,rfl,hso2,hb2⟩:=hrel;by_cases hjk:j<k
      .skip
       obtain ⟨c0,c1,c2,c3,c4,c5,c6,c7⟩:=ev_cells (range_later hb2 HRX.out HBL.out);have hry:=range_later hb2 (HE.out j (by omega)) HBL.out;generalize hy:l.getD j ev0=y at hry;have HY:Hid (l.getD j ev0=y):=hy;have HRY:Hid (wr.rangeAt blk (off+j*8) (evC y).toList):=hry;obtain ⟨d0,d1,d2,d3,d4,d5,d6,d7⟩:=ev_cells hry;have HB2:Hid (Below w.heap.size w wr):=hb2;have HX2:Hid (∀ i,i<j->Two x (l.getD i ev0)):=hso2;have HSZ:Hid (w.heap.size<=wr.heap.size):=hb2.size;have hblr:blk<wr.heap.size:=by have:=hb2.size;have:=HBL.out;omega
       have hjl:(j:Int)<(l.length:Int):=by omega
       have hjl2:j<l.length:=by omega
       clear hso2 hy hb2 hry;go_wp2_with fail
       go_region_held3 (λu=>u.cell? ⟨blk,off+k*8,none⟩=some (I x.thr)∧u.cell? ⟨blk,off+k*8+1,none⟩=some (I x.op)∧u.cell? ⟨blk,off+k*8+2,none⟩=some (I x.a)∧u.cell? ⟨blk,off+k*8+3,none⟩=some (I x.b)∧u.cell? ⟨blk,off+k*8+4,none⟩=some (I x.beg)∧u.cell? ⟨blk,off+k*8+5,none⟩=some (I x.fin)∧u.cell? ⟨blk,off+k*8+6,none⟩=some (I x.code)∧u.cell? ⟨blk,off+k*8+7,none⟩=some (I x.val)∧u.cell? ⟨blk,off+j*8,none⟩=some (I y.thr)∧u.cell? ⟨blk,off+j*8+1,none⟩=some (I y.op)∧u.cell? ⟨blk,off+j*8+2,none⟩=some (I y.a)∧u.cell? ⟨blk,off+j*8+3,none⟩=some (I y.b)∧u.cell? ⟨blk,off+j*8+4,none⟩=some (I y.beg)∧u.cell? ⟨blk,off+j*8+5,none⟩=some (I y.fin)∧u.cell? ⟨blk,off+j*8+6,none⟩=some (I y.code)∧u.cell? ⟨blk,off+j*8+7,none⟩=some (I y.val))
        (first|(exact keep16 ‹_› ‹Below _ _ _›)|(exact keep16 ‹_› (below_alloc (Below.refl _ _) _))|(simp[go_sem, *];done))
        ((go_at_call 114;refine (rahead_any x y _).mono ?_;rintro e w3 ⟨rfl,hb3⟩))
       rename_i hH;clear hH;refine (show ∀ W,Below wr.heap.size wr W->Exit.then _ _ Exit.normal _ W from λW hW=>?_) _ (below_step (below_drewN (Below.refl _ _) _) hb3);have HBW:Hid (Below wr.heap.size wr W):=hW;have hWs:wr.heap.size<=W.heap.size:=hW.size;have hrx3:=range_later hW (range_later HB2.out HRX.out HBL.out) hblr;have hry3:=range_later hW HRY.out hblr;clear hb3 hW c0 c1 c2 c3 c4 c5 c6 c7 d0 d1 d2 d3 d4 d5 d6 d7;obtain ⟨c0,c1,c2,c3,c4,c5,c6,c7⟩:=ev_cells hrx3;obtain ⟨d0,d1,d2,d3,d4,d5,d6,d7⟩:=ev_cells hry3;clear hrx3 hry3;go_wp2_with fail
       go_region_held3 (λu=>u.cell? ⟨blk,off+k*8,none⟩=some (I x.thr)∧u.cell? ⟨blk,off+k*8+1,none⟩=some (I x.op)∧u.cell? ⟨blk,off+k*8+2,none⟩=some (I x.a)∧u.cell? ⟨blk,off+k*8+3,none⟩=some (I x.b)∧u.cell? ⟨blk,off+k*8+4,none⟩=some (I x.beg)∧u.cell? ⟨blk,off+k*8+5,none⟩=some (I x.fin)∧u.cell? ⟨blk,off+k*8+6,none⟩=some (I x.code)∧u.cell? ⟨blk,off+k*8+7,none⟩=some (I x.val)∧u.cell? ⟨blk,off+j*8,none⟩=some (I y.thr)∧u.cell? ⟨blk,off+j*8+1,none⟩=some (I y.op)∧u.cell? ⟨blk,off+j*8+2,none⟩=some (I y.a)∧u.cell? ⟨blk,off+j*8+3,none⟩=some (I y.b)∧u.cell? ⟨blk,off+j*8+4,none⟩=some (I y.beg)∧u.cell? ⟨blk,off+j*8+5,none⟩=some (I y.fin)∧u.cell? ⟨blk,off+j*8+6,none⟩=some (I y.code)∧u.cell? ⟨blk,off+j*8+7,none⟩=some (I y.val))
        (first|(exact keep16 ‹_› ‹Below _ _ _›)|(exact keep16 ‹_› (below_alloc (Below.refl _ _) _))|(simp[go_sem, *];done))
        ((go_at_call 114;refine (rahead_any y x _).mono ?_;rintro e w4 ⟨rfl,hb4⟩))
       rename_i hH;clear hH;refine (show ∀ W',Below wr.heap.size wr W'->Exit.then _ _ Exit.normal _ W' from λW' hW'=>?_) _ (below_step HBW.out (below_step (below_drewN (Below.refl _ _) _) hb4));have HBW':Hid (Below wr.heap.size wr W'):=hW';have hWs':wr.heap.size<=W'.heap.size:=hW'.size;have hrx3:=range_later hW' (range_later HB2.out HRX.out HBL.out) hblr;have hry3:=range_later hW' HRY.out hblr;clear hb4 hW' c0 c1 c2 c3 c4 c5 c6 c7 d0 d1 d2 d3 d4 d5 d6 d7;obtain ⟨c0,c1,c2,c3,c4,c5,c6,c7⟩:=ev_cells hrx3;obtain ⟨d0,d1,d2,d3,d4,d5,d6,d7⟩:=ev_cells hry3;clear hrx3 hry3;have hcase:(x.thr==y.thr)=false∨((x.thr==y.thr)=true∧evAhead x y=true)∨((x.thr==y.thr)=true∧evAhead x y=false∧evAhead y x=true)∨((x.thr==y.thr)=true∧evAhead x y=false∧evAhead y x=false):=by
        cases (x.thr==y.thr)<;>cases evAhead x y<;>cases evAhead y x<;>simp
       generalize hg1:evAhead x y=e1 at hcase;generalize hg2:evAhead y x=e2 at hcase;have HG1:Hid (evAhead x y=e1):=hg1;have HG2:Hid (evAhead y x=e2):=hg2;clear hg1 hg2;rcases hcase with ht|⟨ht,rfl⟩|⟨ht,rfl,rfl⟩|⟨ht,rfl,rfl⟩
       .have HT:Hid (¬ x.thr=y.thr):=(show ¬ x.thr=y.thr by simpa using ht)
        go_wp2_with fail
        go_quiet (fail)
        go_wp2_with fail
        go_roundw
        case rel=>exact ⟨j+1,by omega,by go_num,upto_succ HX2.out (by rw[HY.out];exact λh=>absurd h HT.out),below_step HB2.out (below_drewN HBW'.out _)⟩
        case measure=>simp[intOf];omega
       .go_wp2_with fail
        go_quiet (fail)
        go_wp2_with fail
        go_roundw
        case rel=>exact ⟨j+1,by omega,by go_num,upto_succ HX2.out (by rw[HY.out];exact λ_=>.inl HG1.out),below_step HB2.out (below_drewN HBW'.out _)⟩
        case measure=>simp[intOf];omega
       .go_wp2_with fail
        go_quiet (fail)
        go_wp2_with fail
        go_roundw
        case rel=>exact ⟨j+1,by omega,by go_num,upto_succ HX2.out (by rw[HY.out];exact λ_=>.inr HG2.out),below_step HB2.out (below_drewN HBW'.out _)⟩
        case measure=>simp[intOf];omega
       .have HT:Hid (x.thr=y.thr):=(show x.thr=y.thr by simpa using ht)
        go_wp2_with fail
        go_quiet (fail)
        go_wp2_with fail;go_ret;exact ⟨retB_no rfl (hist_not2 hlt hjk HX.out HY.out HT.out HG1.out HG2.out),below_step HB2.out (below_drewN HBW'.out _)⟩
      .have:j=k:=by omega
       subst this;have HX2:Hid (∀ i,i<j->Two x (l.getD i ev0)):=hso2;have HB2:Hid (Below w.heap.size w wr):=hb2;clear hso2 hb2;go_wp2_with fail
       go_roundw
       case rel =>exact ⟨j+1,by omega,by go_num,upto_succ HSO.out (by rw[HX.out];exact ⟨HO.out,HX2.out⟩),HB2.out⟩
       case measure=>simp[intOf];omega
   .have HO:Hid (¬ Timed x):=ho
    have hcs:decide (x.beg<0)=true∨(decide (x.beg<0)=false∧(x.fin != -1)=true∧decide (x.fin<=x.beg)=true):=by
     have:x.beg<0∨(0<=x.beg∧x.fin≠-1∧x.fin<=x.beg):=by unfold Timed at ho;omega
     rcases this with h|⟨h1,h2,h3⟩
     exact .inl (by simpa using h);exact .inr ⟨by simp;omega,by simpa using h2,by simpa using h3⟩
    clear ho;rcases hcs with b1|⟨b1,b2,b3⟩
    all_goals
     go_wp2_with fail
     go_quiet (fail)
     go_wp2_with fail;go_ret;exact ⟨retB_no rfl (hist_not hlt HX.out HO.out),below_drewN HB.out _⟩
  .have:k=l.length:=by omega
   subst this;go_wp2_with fail;go_ret;exact ⟨retB_yes rfl hso,hb⟩
theorem and_one (y:Nat) (hy:y<2 ^ 62):bits .and .i64 (y:Int) 1=((y % 2:Nat):Int):=by have h1:(1:Int)=((1:Nat):Int):=rfl;show IntKind.i64.wrap ((BitVec.ofInt 64 (y:Int) &&& BitVec.ofInt 64 1).toNat:Int)=_;rw[h1,BitVec.toNat_and,of_nat64 (Qp hy (by decide)),of_nat64 (by decide),Nat.and_one_is_mod,IntKind.wrap_i64];omega
theorem shr_bit (T i:Nat) (hT:T<4096):bits .and .i64 ((T:Int) / 2 ^ i) 1=if T.testBit i=true then 1 else 0:=by
 have e:(T:Int) / 2 ^ i=((T / 2 ^ i:Nat):Int):=by push_cast;rfl
 have hl:T / 2 ^ i<2 ^ 62:=Nat.lt_of_le_of_lt (Nat.div_le_self _ _) (Qp hT (by decide));rw[e,and_one _ hl,Nat.testBit_eq_decide_div_mod_eq];by_cases h:T / 2 ^ i % 2=1;rw[h];simp
 .have:T / 2 ^ i % 2=0:=by omega
  rw[this];simp
theorem shr_yes {T i:Nat}(hT:T<4096) (h:T.testBit i=true):bits .and .i64 ((T:Int) / 2 ^ i) 1=1:=by rw[shr_bit T i hT,if_pos h]
theorem shr_no {T i:Nat}(hT:T<4096) (h:T.testBit i=false):bits .and .i64 ((T:Int) / 2 ^ i) 1=0:=by rw[shr_bit T i hT,if_neg (by rw[h];decide)]
def May (l:List Ev) (T i:Nat):Prop:=T.testBit i=false∧∀ k,k<l.length->evAhead (l.getD k ev0) (l.getD i ev0)=true->T.testBit k=true
theorem may_any (B T i:Nat) (lv:Value) (l:List Ev) (w:World) (hT:T<4096) (h12:l.length<=12) (hi:i<l.length) (h2:w.cell? ⟨B,2,none⟩=some lv) (h:Evs w lv l):
 Calls Tryd.prog 116 #[.pointer (some ⟨B,0,none⟩),I T,I i] w λe w'=>RetB e (May l T i)∧Below w.heap.size w w':=by
 obtain ⟨p,cap,rfl,hc,hm,hE⟩:=h;unfold maxLen at hm;by_cases hb:T.testBit i=true
 .have hbit:=shr_yes hT hb
  go_enter Tryd.func116,Tryd.ntmps116
  go_wp2_with fail;go_ret;exact ⟨retB_no rfl (λh=>by have:=h.1;rw[hb] at this;cases this),Below.refl _ _⟩
 .have hb':T.testBit i=false:=Bool.eq_false_iff.2 hb
  have HBI:Hid (T.testBit i=false):=hb';have hbit:=shr_no hT hb';obtain ⟨blk,off,rfl,hrx⟩:=hE i hi;have HBL:Hid (blk<w.heap.size):=range_lt hrx;have hE':∀ i,i<l.length->w.rangeAt blk (off+i*8) (evC (l.getD i ev0)).toList:=λi hi=>by obtain ⟨b',o',e,h⟩:=hE i hi;cases e;exact h
  have HE:Hid (∀ i,i<l.length->w.rangeAt blk (off+i*8) (evC (l.getD i ev0)).toList):=hE';generalize hx:l.getD i ev0=x at hrx;have HX:Hid (l.getD i ev0=x):=hx;have HRX:Hid (w.rangeAt blk (off+i*8) (evC x).toList):=hrx;have H2:Hid (w.cell? ⟨B,2,none⟩=some (.slice (some ⟨blk,off,none⟩) l.length cap)):=h2;have hBl:B<w.heap.size:=World.block_lt_of_cell? _ _ h2;clear hE hE' hx hrx hb hb'
  go_enter Tryd.func116,Tryd.ntmps116
  go_wp2_with fail;clear hbit
  go_loopw [7] (λi u=>∃ k:Nat,k<=l.length∧i=.int .i64 k∧(∀ j,j<k->evAhead (l.getD j ev0) x=true->T.testBit j=true)∧Below w.heap.size w u) (λi _=>l.length - (intOf i).toNat)
  case atStart=>exact ⟨0,Nat.zero_le _,rfl,λi hi=>absurd hi (Nat.not_lt_zero _),Below.refl _ _⟩
  case round =>
   obtain ⟨k,hk,rfl,hso,hb2⟩:=hrel;have HSO:Hid (∀ j,j<k->evAhead (l.getD j ev0) x=true->T.testBit j=true):=hso;have HB2:Hid (Below w.heap.size w wr):=hb2;have hbc:=kcell' hb2 hBl h2;have hszr:w.heap.size<=wr.heap.size:=hb2.size;clear h2;by_cases hlt:k<l.length
   .obtain ⟨c0,c1,c2,c3,c4,c5,c6,c7⟩:=ev_cells (range_later hb2 HRX.out HBL.out)
    have hry:=range_later hb2 (HE.out k hlt) HBL.out;generalize hy:l.getD k ev0=y at hry;have HY:Hid (l.getD k ev0=y):=hy;obtain ⟨d0,d1,d2,d3,d4,d5,d6,d7⟩:=ev_cells hry;clear hso hb2 hy hry;go_wp2_with fail
    go_region_held3 (λu=>u.cell? ⟨B,2,none⟩=some (.slice (some ⟨blk,off,none⟩) l.length cap)∧u.cell? ⟨blk,off+k*8,none⟩=some (I y.thr)∧u.cell? ⟨blk,off+k*8+1,none⟩=some (I y.op)∧u.cell? ⟨blk,off+k*8+2,none⟩=some (I y.a)∧u.cell? ⟨blk,off+k*8+3,none⟩=some (I y.b)∧u.cell? ⟨blk,off+k*8+4,none⟩=some (I y.beg)∧u.cell? ⟨blk,off+k*8+5,none⟩=some (I y.fin)∧u.cell? ⟨blk,off+k*8+6,none⟩=some (I y.code)∧u.cell? ⟨blk,off+k*8+7,none⟩=some (I y.val)∧u.cell? ⟨blk,off+i*8,none⟩=some (I x.thr)∧u.cell? ⟨blk,off+i*8+1,none⟩=some (I x.op)∧u.cell? ⟨blk,off+i*8+2,none⟩=some (I x.a)∧u.cell? ⟨blk,off+i*8+3,none⟩=some (I x.b)∧u.cell? ⟨blk,off+i*8+4,none⟩=some (I x.beg)∧u.cell? ⟨blk,off+i*8+5,none⟩=some (I x.fin)∧u.cell? ⟨blk,off+i*8+6,none⟩=some (I x.code)∧u.cell? ⟨blk,off+i*8+7,none⟩=some (I x.val))
     (first|(exact keep17 ‹_› ‹Below _ _ _›)|(exact keep17 ‹_› (below_alloc (Below.refl _ _) _))|(simp[go_sem, *];done))
     ((go_at_call 114;refine (rahead_any y x _).mono ?_;rintro e w3 ⟨rfl,hb3⟩))
    rename_i hH;clear hH;refine (show ∀ W,Below wr.heap.size wr W->Exit.then _ _ Exit.normal _ W from λW hW=>?_) _ (below_step (below_drewN (Below.refl _ _) _) hb3);have HBW:Hid (Below w.heap.size w W):=below_step HB2.out hW;clear hb3 hW hbc c0 c1 c2 c3 c4 c5 c6 c7 d0 d1 d2 d3 d4 d5 d6 d7;cases hg:evAhead y x
    .have HG:Hid (evAhead y x=false):=hg
     clear hg;go_wp2_with fail
     go_roundw
     case rel=>exact ⟨k+1,by omega,by go_num,upto_succ HSO.out (by rw[HY.out,HG.out];exact λh=>nomatch h),HBW.out⟩
     case measure=>simp[intOf];omega
    .have HG:Hid (evAhead y x=true):=hg
     clear hg;by_cases hbk:T.testBit k=true
     .have hbit:=shr_yes hT hbk
      have HBK:Hid (T.testBit k=true):=hbk;clear hbk;go_wp2_with fail
      go_roundw
      case rel=>exact ⟨k+1,by omega,by go_num,upto_succ HSO.out (λ_=>HBK.out),HBW.out⟩
      case measure=>simp[intOf];omega
     .have hbit:=shr_no hT (Bool.eq_false_iff.2 hbk)
      have HBK:Hid (¬ T.testBit k=true):=hbk;clear hbk;go_wp2_with fail;go_ret;exact ⟨retB_no rfl (λh=>HBK.out (h.2 k hlt (by rw[HY.out,HX.out];exact HG.out))),HBW.out⟩
   .have:k=l.length:=by omega
    subst this;clear hso hb2;go_wp2_with fail;go_ret;exact ⟨retB_yes rfl ⟨HBI.out,by rw[HX.out];exact HSO.out⟩,HB2.out⟩
end Go.Proofs.YtfjjoohflcchnaaDoor.R3
