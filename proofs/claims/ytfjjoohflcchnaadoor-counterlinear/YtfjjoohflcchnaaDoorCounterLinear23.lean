/- CounterLinear, part 23 of 24: R3RefLin, R3Expl. -/
import Derived.Test.YtfjjoohflcchnaaDoorCounterLinear01
import Derived.Test.YtfjjoohflcchnaaDoorCounterLinear15
import Derived.Test.YtfjjoohflcchnaaDoorCounterLinear19
import Derived.Test.YtfjjoohflcchnaaDoorCounterLinear22
set_option linter.unusedSimpArgs false
set_option linter.unusedVariables false
set_option maxHeartbeats 4000000
set_option maxRecDepth 100000
noncomputable section
namespace Go.Proofs.YtfjjoohflcchnaaDoor.R3
open Go.RowKit Go.Proofs.YtfjjoohflcchnaaDoor.His Go.Deep Go.Maps
variable {w:World} {ob st:Int}
theorem left_none (n:Nat):left 0 n=n:=by
 induction n with
 |zero=>rfl
 |succ n ih=>rw[left_no (by simp),ih]
theorem met_first {base:Nat}{lv:Value}{N:Nat}(hb:base<=w.heap.size) (W:World) (hW:W=(w.alloc (.cells (madeCells #[Value.slice none 0 0] N) 85)).alloc (.cells #[I ob,I st,lv,.slice (some ⟨w.heap.size,0,none⟩) N N] 133)):
 Met W base (w.heap.size+1) w.heap.size lv ob st N (λ_=>[]):=by
 subst hW;have hs:(w.alloc (.cells (madeCells #[Value.slice none 0 0] N) 85)).heap.size=w.heap.size+1:=by simp
 have hn:∀ j v,#[I ob,I st,lv,Value.slice (some ⟨w.heap.size,0,none⟩) N N][j]? = some v->((w.alloc (.cells (madeCells #[Value.slice none 0 0] N) 85)).alloc (.cells #[I ob,I st,lv,.slice (some ⟨w.heap.size,0,none⟩) N N] 133)).cell? ⟨w.heap.size+1,j,none⟩=some v:=λj v hj=>by rw[<-hs];have:=heap_alloc_new (w.alloc (.cells (madeCells #[Value.slice none 0 0] N) 85)) (.cells #[I ob,I st,lv,.slice (some ⟨w.heap.size,0,none⟩) N N] 133);simp only[World.cell?,this];simpa using hj
 refine ⟨hn 0 _ rfl,hn 1 _ rfl,hn 2 _ rfl,hn 3 _ rfl,hb,λ_=>.slice none 0 0,?_,λm _=>⟨⟨[],.inl ⟨rfl,rfl⟩,rfl,λi t h=>by simp at h⟩,λm' _ _ g hg=>nomatch hg⟩⟩;refine ⟨madeCells #[Value.slice none 0 0] N,?_,by simp[madeCells],λi hi=>?_⟩
 .rw[Below.heap_alloc _ _ _ (by simp)]
  exact heap_alloc_new w _
 simp[madeCells,hi,Nat.mod_one]
theorem info132:(Tryd.prog.info? 85).map (λi=>(i.zero,i.size,i.bytes))=some (some (.slice none 0 0),1,24):=by kernel_rfl
theorem make_met (n:Nat) (hn:n<=4096) (w:World):
 (Instr.makeSlice 131 (.int .i64 (n:Int)) (.int .i64 (n:Int))).run Tryd.prog w=.ok (.slice (some ⟨w.heap.size,0,none⟩) n n) (w.alloc (.cells (madeCells #[.slice none 0 0] n) 85)):=by
 cases hq:Tryd.prog.info? 85 with
 |none=>have:=info132;rw[hq] at this;cases this
 |some i =>have hi:=info132;rw[hq] at hi;simp only[Option.map_some,Option.some.injEq,Prod.mk.injEq] at hi;obtain ⟨hz,hs,hb⟩:=hi;have:=run_make (P:=Tryd.prog) w 131 85 i _ Tryd.underlying131 hq hz .i64 .i64 (n:Int) (n:Int) (by omega) (by omega) (by rw[hb];omega) (by omega);rw[hs] at this;rw[this];simp[Value.cells]
theorem starts_tests (h:Starts ob st):decide (ob<1)=false∧decide (ob > 5)=false ∧
 (((ob==2)=false∧(ob==4)=false∧(ob==5)=false)∨((ob==2)=true∧(st != 0)=false∧(ob==4)=false∧(ob==5)=false)∨((ob==2)=false∧(ob==4)=true∧decide (st<0)=false∧(ob==5)=false) ∨
   ((ob==2)=false∧(ob==4)=false∧(ob==5)=true∧decide (st<1)=false∧decide (st > 1000)=false)):=by
 rcases h with rfl|rfl|⟨rfl,rfl⟩|⟨rfl,h⟩|⟨rfl,h1,h2⟩
 simp;simp;simp;refine ⟨by simp,by simp,.inr (.inr (.inl ⟨by simp,by simp,by simp;omega,by simp⟩))⟩;refine ⟨by simp,by simp,.inr (.inr (.inr ⟨by simp,by simp,by simp,by simp;omega,by simp;omega⟩))⟩
theorem not_starts_tests (h:¬ Starts ob st):decide (ob<1)=true∨(decide (ob<1)=false∧decide (ob > 5)=true)∨(decide (ob<1)=false∧decide (ob > 5)=false ∧
 (((ob==2)=true∧(st != 0)=true)∨((ob==2)=false∧(ob==4)=true∧decide (st<0)=true) ∨
   ((ob==2)=false∧(ob==4)=false∧(ob==5)=true∧decide (st<1)=true)∨((ob==2)=false∧(ob==4)=false∧(ob==5)=true∧decide (st<1)=false∧decide (st > 1000)=true))):=by
 unfold Starts at h;by_cases h1:ob<1;exact .inl (by simpa using h1)
 .by_cases h2:ob > 5
  exact .inr (.inl ⟨by simpa using h1,by simpa using h2⟩)
  .refine .inr (.inr ⟨by simpa using h1,by simpa using h2,?_⟩)
   have:ob=2∨ob=4∨ob=5:=by omega
   rcases this with rfl|rfl|rfl;exact .inl ⟨by simp,by simp;omega⟩;exact .inr (.inl ⟨by simp,by simp,by simp;omega⟩)
   .by_cases h3:st<1
    exact .inr (.inr (.inl ⟨by simp,by simp,by simp,by simpa using h3⟩));exact .inr (.inr (.inr ⟨by simp,by simp,by simp,by simpa using h3,by simp;omega⟩))
theorem rlinear_any (ob st:Int) (hWC:WaysC ob st) (v:Value) (l:List Ev) (w:World) (hE:Evs w v l):
 Calls Tryd.prog 50 #[I ob,I st,v] w λe w'=>(∃ b c,e=.returned (.tuple #[.bool b,I c])∧LinOut ob st l b c)∧Below w.heap.size w w':=by
 have HWC:Hid (WaysC ob st):=hWC;clear hWC;have HE:Hid (Evs w v l):=hE;obtain ⟨p,cap,rfl,hcap,hmax,_⟩:=hE;unfold maxLen at hmax;by_cases hS:Starts ob st
 .have HS:Hid (Starts ob st):=hS
  obtain ⟨t1,t2,ht⟩:=starts_tests hS;clear hS;by_cases h12:l.length<=12
  .by_cases hh:Hist l
   .have HH:Hid (Hist l):=hh
    have hw:IntKind.i64.wrap ((2:Int) ^ l.length)=((2 ^ l.length:Nat):Int):=by
     have e2:((2:Int) ^ l.length)=((2 ^ l.length:Nat):Int):=by push_cast;rfl
     have e3:2 ^ l.length<=2 ^ 12:=Nat.pow_le_pow_right (by omega) h12;rw[e2,IntKind.wrap_i64];generalize 2 ^ l.length=z at e3;omega
    have hN4:2 ^ l.length<=4096:=Nat.pow_le_pow_right (by omega) h12;obtain ⟨N,hN⟩:∃ N,N=2 ^ l.length:=⟨_,rfl⟩
    have HN:Hid (N=2 ^ l.length):=hN;rw[<-hN] at hw hN4;have hmk:=make_met N hN4;clear hh hN;rcases ht with ⟨t3,t4,t5⟩|⟨t3,t4,t5,t6⟩|⟨t3,t4,t5,t6⟩|⟨t3,t4,t5,t6,t7⟩
    all_goals
     go_enter Tryd.func50,Tryd.ntmps50
     go_wp2_with fail;refine (rhistory_any _ l _ HE.out).mono ?_;rintro e w1 ⟨⟨b,rfl,hb⟩,hb1⟩;have hbt:b=true:=hb.2 HH.out;subst hbt;have HB1:Hid (Below w.heap.size w w1):=hb1;clear hb hb1;go_wp2_with fail;refine (first_any ob st HS.out _).mono ?_;rintro e w2 ⟨sv,rfl,hsi,hb2⟩;have HSI:Hid (SI w2 sv (firstOf ob st)):=hsi;have HMET:Hid (Met w2 w.heap.size (w1.heap.size+1) w1.heap.size (.slice p l.length cap) ob st N (λ_=>[])):=(met_first HB1.out.size _ rfl).later hb2;have HB2:Hid (Below w.heap.size w w2):=below_step (below_alloc (below_alloc HB1.out _) _) hb2;clear hsi hb2;go_wp2_with fail;refine (goes_any ob st HWC.out l h12 w _ HE.out (w1.heap.size+1) w1.heap.size N HN.out l.length 0 (λ_=>[]) sv (firstOf ob st) w2 (left_none _) (by rw[HN.out];exact Nat.two_pow_pos _) HB2.out HMET.out (λm _ t ht=>by simp at ht) (λm=>by simp) HSI.out (by rw[Nat.sub_self];exact stOk_first ob st)).mono ?_;rintro e w3 ⟨hb3,_,hor⟩;obtain ⟨b,rfl,hyes,hno⟩:=goesOut_bool hor;have HB3:Hid (Below w.heap.size w w3):=hb3;have hbl:b=true↔Lin (refWays ob st) (firstOf ob st) l:=by
      rw[lin_iff HH.out];cases b with
      |true=>exact ⟨λ_=>hyes rfl,λ_=>rfl⟩
      |false=>exact ⟨λh=>(nomatch h),λh=>absurd h (hno rfl).1⟩
     have HBL:Hid (b=true↔Lin (refWays ob st) (firstOf ob st) l):=hbl;clear hb3 hor hyes hno hbl;go_wp2_with fail
     go_ret2
     exact ⟨⟨b,0,rfl,.inr (.inr (.inr ⟨HS.out,h12,HH.out,rfl,HBL.out⟩))⟩,HB3.out⟩
   .have HH:Hid (¬ Hist l):=hh
    clear hh;rcases ht with ⟨t3,t4,t5⟩|⟨t3,t4,t5,t6⟩|⟨t3,t4,t5,t6⟩|⟨t3,t4,t5,t6,t7⟩
    all_goals
     go_enter Tryd.func50,Tryd.ntmps50
     go_wp2_with fail;refine (rhistory_any _ l _ HE.out).mono ?_;rintro e w1 ⟨⟨b,rfl,hb⟩,hb1⟩;have hbt:b=false:=by
      cases b with
      |false=>rfl
      |true=>exact absurd (hb.1 rfl) HH.out
     subst hbt;have HB1:Hid (Below w.heap.size w w1):=hb1;clear hb hb1;go_wp2_with fail
     go_ret2
     exact ⟨⟨false,30,rfl,.inr (.inr (.inl ⟨HS.out,h12,HH.out,rfl,rfl⟩))⟩,HB1.out⟩
  .have h12':12<l.length:=by omega
   rcases ht with ⟨t3,t4,t5⟩|⟨t3,t4,t5,t6⟩|⟨t3,t4,t5,t6⟩|⟨t3,t4,t5,t6,t7⟩
   all_goals
    go_enter Tryd.func50,Tryd.ntmps50
    go_wp2_with fail
    go_ret2
    first|exact ⟨⟨false,3,rfl,.inr (.inl ⟨HS.out,h12',rfl,rfl⟩)⟩,Below.refl _ _⟩|exact ⟨.inl ⟨3,rfl,.inr (.inl ⟨HS.out,h12',rfl,rfl⟩)⟩,Below.refl _ _⟩
 .have HS:Hid (¬ Starts ob st):=hS
  have ht:=not_starts_tests hS;clear hS;rcases ht with t1|⟨t1,t2⟩|⟨t1,t2,⟨t3,t4⟩|⟨t3,t4,t5⟩|⟨t3,t4,t5,t6⟩|⟨t3,t4,t5,t6,t7⟩⟩
  all_goals
   go_enter Tryd.func50,Tryd.ntmps50
   go_wp2_with fail
   go_ret2
   first|exact ⟨⟨false,1,rfl,.inl ⟨HS.out,rfl,rfl⟩⟩,Below.refl _ _⟩|exact ⟨.inl ⟨1,rfl,.inl ⟨HS.out,rfl,rfl⟩⟩,Below.refl _ _⟩
theorem evs_get:∀ (l:List Ev) (i:Nat),(l.flatMap evL)[i]? = (l[i / 8]?).bind λe=>(evL e)[i % 8]?
 | [],i=>by simp
 |e :: r,i=>by
  have hl:(evL e).length=8:=rfl;rw[List.flatMap_cons];by_cases hi:i<8
  .rw[Qn (by omega)]
   have h1:i / 8=0:=by omega
   have h2:i % 8=i:=by omega
   simp[h1,h2]
  .rw[List.getElem?_append_right (by omega),evs_get r,hl]
   have h1:i / 8=(i - 8) / 8+1:=by omega
   have h2:(i - 8) % 8=i % 8:=by omega
   rw[h1,h2];simp
theorem own_sl {base:Nat}{v:Value}{evs:List Ev}(h:w.ownsRow base 81 8 v evs.length (evs.flatMap evL)):SL 8 evL w v evs:=by
 rcases h.2 with ⟨rfl,h0⟩|⟨g,cap,cur,rfl,hb,hh,h1,h2,h3,h4⟩
 .have:evs=[]:=List.length_eq_zero_iff.1 h0
  subst this;exact ⟨none,0,rfl,Qi _,Nat.zero_le _,λi a hi=>by simp at hi⟩
 .refine ⟨_,cap,rfl,h1,h2,λi a hi=>⟨g,0,rfl,(Qb hh).1,λj u hj=>?_⟩⟩
  have hi':=(Qc hi).1;have hj8:j<8:=by have:=(Qc hj).1;simpa [evL] using this
  have hlt:i*8+j<evs.length*8:=by omega
  have hf:(evs.flatMap evL)[i*8+j]? = some u:=by
   rw[evs_get];have e1:(i*8+j) / 8=i:=by omega
   have e2:(i*8+j) % 8=j:=by omega
   rw[e1,e2,hi];exact hj
  rw[<-h4,List.getElem?_take_of_lt hlt] at hf;simp only[World.cell?,hh,Nat.zero_add];simpa using hf
theorem sl_evs {v:Value}{l:List Ev}(h:SL 8 evL w v l):Evs w v l:=by obtain ⟨p,cap,rfl,h1,h2,h3⟩:=h;refine ⟨p,cap,rfl,h1,h2,λi hi=>?_⟩;obtain ⟨blk,off,e,_,hr⟩:=h3 i _ (getD_some hi ev0);exact ⟨blk,off,e,hr⟩
theorem explained_any (ob st ops:Int) (hWC:WaysC ob st) (sv av tv:Value) (sc:List (List Call)) (an:List (List (Int×Int))) (tr:List Step) (w:World) (hs:SSw 4 callL w sv sc) (ha:SSw 2 ansL w av an) (ht:SLw 5 stepL w tv tr)
 (bn:sc.length<=8) (bl:∀ i,(sc.getD i []).length<=64) (ba:∀ i,(an.getD i []).length<=1048576) (bt:tr.length<=1048576)
 (hyes:(∀ i,i<sc.length->∀ k,k<(sc.getD i []).length->OpIn ops ((sc.getD i []).getD k call0))->sumL sc sc.length<=12 ->
   Alike sc an∧∀ r,Ofs sc an 0 tr st0 r->∃ s,r=some s∧Starts ob st∧s.evs.length<=12∧Hist s.evs∧Lin (refWays ob st) (firstOf ob st) s.evs):
 Calls Tryd.prog 24 #[I ob,I st,I ops,sv,av,tv] w λe w'=>e=.returned (.bool true)∧Below w.heap.size w w':=by
 have HWC:Hid (WaysC ob st):=hWC;clear hWC;have HSS:Hid (SSw 4 callL w sv sc):=hs;have HSA:Hid (SSw 2 ansL w av an):=ha;have HTT:Hid (SLw 5 stepL w tv tr):=ht;obtain ⟨p,cap,rfl,p1,p2,p3⟩:=hs;obtain ⟨q,caq,rfl,q1,q2,q3⟩:=ha;obtain ⟨o,cao,rfl,o1,o2,o3⟩:=ht;unfold maxLen at p2 q2 o2;have P3:Hid (∀ i l,sc[i]? = some l->∃ blk off vi,p=some ⟨blk,off,none⟩∧w.cell? ⟨blk,off+i,none⟩=some vi∧SLw 4 callL w vi l):=p3;have BA:Hid (∀ i,(an.getD i []).length<=1048576):=ba;have BL:Hid (∀ i,(sc.getD i []).length<=64):=bl;have HY:Hid (_->_->_):=hyes;clear p3 q3 o3 ba bl hyes
 go_enter Tryd.func24,Tryd.ntmps24
 go_wp2_with fail
 go_loopw [13,14] (λm i u=>∃ k:Nat,k<=sc.length∧i=.int .i64 k∧m=.int .i64 (sumL sc k:Nat)∧(∀ i,i<k->∀ j,j<(sc.getD i []).length->OpIn ops ((sc.getD i []).getD j call0))∧u=w) (λ_ i _=>sc.length - (intOf i).toNat)
 case atStart=>exact ⟨0,Nat.zero_le _,rfl,rfl,λi hi=>absurd hi (Nat.not_lt_zero _),rfl⟩
 case round =>
  obtain ⟨k,hk,rfl,rfl,hso,rfl⟩:=hrel;by_cases hlt:k<sc.length
  .obtain ⟨blk,off,vi,rfl,hc,⟨p2',cp2,rfl,i1,i2,i3⟩⟩:=P3.out k _ (getD_some hlt [])
   unfold maxLen at i2;have HSO:Hid (∀ i,i<k->∀ j,j<(sc.getD i []).length->OpIn ops ((sc.getD i []).getD j call0)):=hso;have I3:Hid (∀ i a,(sc.getD k [])[i]? = some a->∃ blk off,p2'=some ⟨blk,off,none⟩∧blk<wr.heap.size∧wr.rangeAt blk (off+i*4) (callL a)):=i3;have hsm:=sumL_le BL.out k;have hbk:=BL.out k;have HSU:Hid (sumL sc (k+1)=sumL sc k+(sc.getD k []).length):=rfl;generalize hl:sc.getD k []=l at hc i1 I3 hbk HSU;have HL:Hid (sc.getD k []=l):=hl;generalize hgs:sumL sc k=sk at hsm HSU;clear hso i3 hl hgs;go_wp2_with fail
   go_loopw [15] (λi u=>∃ j:Nat,j<=l.length∧i=.int .i64 j∧(∀ i,i<j->OpIn ops (l.getD i call0))∧u=wr) (λi _=>l.length - (intOf i).toNat)
   case atStart=>exact ⟨0,Nat.zero_le _,rfl,λi hi=>absurd hi (Nat.not_lt_zero _),rfl⟩
   case round =>
    obtain ⟨j,hj,rfl,hso2,rfl⟩:=hrel;have HS2:Hid (∀ i,i<j->OpIn ops (l.getD i call0)):=hso2;clear hso2;by_cases hjl:j<l.length
    .obtain ⟨b2,f2,rfl,hb2,hr⟩:=I3.out j _ (getD_some hjl call0)
     have hcx:wr.cell? ⟨b2,f2+j*4,none⟩=some (I (l.getD j call0).op):=by simpa using hr 0 _ rfl
     generalize hx:(l.getD j call0).op=x at hcx;have HX:Hid ((l.getD j call0).op=x):=hx;clear hr hx;by_cases h1:x<1
     .have t1:decide (x<1)=true:=decide_eq_true h1
      clear h1;go_wp2_with fail;go_ret;exact ⟨rfl,Below.refl _ _⟩
     .have t1:decide (x<1)=false:=decide_eq_false h1
      by_cases h2:x > ops
      .have t2:decide (x > ops)=true:=decide_eq_true h2
       clear h1 h2;go_wp2_with fail;go_ret;exact ⟨rfl,Below.refl _ _⟩
      .have t2:decide (x > ops)=false:=decide_eq_false h2
       have HOK:Hid (OpIn ops (l.getD j call0)):=⟨by rw[HX.out];omega,by rw[HX.out];omega⟩
       clear h1 h2;go_wp2_with fail
       go_roundw
       case rel=>exact ⟨j+1,by omega,by go_num,upto_succ HS2.out HOK.out,trivial⟩
       case measure=>simp[intOf];omega
    .have:j=l.length:=by omega
     subst this;go_wp2_with fail
     go_roundw
     case rel =>refine ⟨k+1,by omega,by go_num,by rw[HSU.out];go_num,upto_succ HSO.out ?_,trivial⟩;rw[HL.out];exact HS2.out
     case measure=>simp[intOf];omega
  .have:k=sc.length:=by omega
   subst this;have hsm:=sumL_le BL.out sc.length;have HSO:Hid (∀ i,i<sc.length->∀ j,j<(sc.getD i []).length->OpIn ops ((sc.getD i []).getD j call0)):=hso;clear hso;generalize hgs:sumL sc sc.length=sk at hsm;have HGS:Hid (sumL sc sc.length=sk):=hgs;clear hgs;by_cases h12:sk > 12
   .have t1:decide ((sk:Int) > 12)=true:=decide_eq_true (by omega)
    clear h12;go_wp2_with fail;go_ret;exact ⟨rfl,Below.refl _ _⟩
   .have t1:decide ((sk:Int) > 12)=false:=decide_eq_false (by omega)
    obtain ⟨hal,hof⟩:=HY.out HSO.out (by rw[HGS.out];omega);have HAL:Hid (Alike sc an):=hal;have HOF:Hid (∀ r,Ofs sc an 0 tr st0 r->∃ s,r=some s∧Starts ob st∧s.evs.length<=12∧Hist s.evs∧Lin (refWays ob st) (firstOf ob st) s.evs):=hof;clear h12 hal hof;go_wp2_with fail;refine (rof_any _ _ _ sc an tr _ HSS.out HSA.out HTT.out (by omega) BA.out bt).mono ?_;rintro e w1 ⟨⟨r,hr1,_,hr2⟩,hb1⟩;obtain ⟨s,rfl,hS,hl12,hH,hL⟩:=HOF.out r (hr1 HAL.out);rcases hr2 with ⟨h,_⟩|⟨s',v,hs',rfl,hown⟩
    cases h;cases hs';have HOWN:Hid (w1.ownsRow wr.heap.size 81 8 v s.evs.length (s.evs.flatMap evL)):=hown;have HB1:Hid (Below wr.heap.size wr w1):=hb1;have HF:Hid (Starts ob st∧s.evs.length<=12∧Hist s.evs∧Lin (refWays ob st) (firstOf ob st) s.evs):=⟨hS,hl12,hH,hL⟩
    clear hr1 hown hb1 hS hl12 hH hL;go_wp2_with fail;refine (rlinear_any ob st HWC.out _ s.evs _ (sl_evs (own_sl HOWN.out))).mono ?_;rintro e w2 ⟨⟨b,c,rfl,hL⟩,hb2⟩;obtain ⟨rfl,rfl⟩:c=0∧b=true:=by
     obtain ⟨hS,hl,hH,hLin⟩:=HF.out;rcases hL with ⟨h,_⟩|⟨_,h,_⟩|⟨_,_,h,_⟩|⟨_,_,_,h1,h2⟩
     exact absurd hS h;omega;exact absurd hH h;exact ⟨h1,h2.2 hLin⟩
    have HB2:Hid (Below wr.heap.size wr w2):=below_step HB1.out hb2;clear hL hb2;go_wp2_with fail;go_ret;exact ⟨rfl,HB2.out⟩
end Go.Proofs.YtfjjoohflcchnaaDoor.R3
