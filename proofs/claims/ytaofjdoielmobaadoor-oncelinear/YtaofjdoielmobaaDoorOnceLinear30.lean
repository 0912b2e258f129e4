/- OnceLinear, whatever the schedule, how many onces and the scripts: what a Play of onces tells is what calls one behind the other tell, by the document's chapter 3. No conditions. Part 30 of 30. (Joined, by program, and written short, of: R3RefLin, R3Expl, La4b, GOpens, GRowL, La4Row, La4Card.) -/
import Derived.Test.YtaofjdoielmobaaDoorOnceLinear23
import Derived.Test.YtaofjdoielmobaaDoorOnceLinear25
import Derived.Test.YtaofjdoielmobaaDoorOnceLinear26
import Derived.Test.YtaofjdoielmobaaDoorOnceLinear27
import Derived.Test.YtaofjdoielmobaaDoorOnceLinear29
import Derived.Conc.LeavingOf
import Derived.ProofKit
import Derived.OpenShut
import Derived.ChangeOld
import Derived.SizedLaws
import Derived.Lib.SmallJoins
import Derived.Deep.SlicePairs
import Derived.Test.YtaofjdoielmobaaDoorRows
import Derived.LaidLaws
import Derived.LaidHandle
import Derived.Lay
import Derived.Test.YtaofjdoielmobaaDoorTie
import Derived.Test.YtaofjdoielmobaaDoorCards
import Derived.SevenTiedAt
set_option linter.unusedSimpArgs false
set_option linter.unusedVariables false
set_option maxHeartbeats 4000000
set_option maxRecDepth 100000
namespace Go.Proofs.YtaofjdoielmobaaDoor.R3
open Go.RowKit Go.Proofs.YtaofjdoielmobaaDoor.His Go.Deep Go.Maps
theorem left_none (n:Nat):left 0 n=n:=by
 induction n with
 |zero=>rfl
 |succ n ih=>rw[left_no (by simp),ih]
theorem met_first {w:World}{base:Nat}{lv:Value}{ob st:Int}{N:Nat}(hb:base≤w.heap.size) (W:World) (hW:W=(w.alloc (.cells (madeCells #[Value.slice none 0 0] N) 139)).alloc (.cells #[I ob,I st,lv,.slice (some ⟨w.heap.size,0,none⟩) N N] 98)) :
 Met W base (w.heap.size+1) w.heap.size lv ob st N (fun _=>[]):=by
 subst hW
 have hs:(w.alloc (.cells (madeCells #[Value.slice none 0 0] N) 139)).heap.size=w.heap.size+1:=by simp
 have hn:∀ j v,#[I ob,I st,lv,Value.slice (some ⟨w.heap.size,0,none⟩) N N][j]? = some v->((w.alloc (.cells (madeCells #[Value.slice none 0 0] N) 139)).alloc (.cells #[I ob,I st,lv,.slice (some ⟨w.heap.size,0,none⟩) N N] 98)).cell? ⟨w.heap.size+1,j,none⟩=some v:=fun j v hj=>by
  rw[←hs]
  have:=heap_alloc_new (w.alloc (.cells (madeCells #[Value.slice none 0 0] N) 139)) (.cells #[I ob,I st,lv,.slice (some ⟨w.heap.size,0,none⟩) N N] 98)
  simp only[World.cell?,this]
  simpa using hj
 refine ⟨hn 0 _ rfl,hn 1 _ rfl,hn 2 _ rfl,hn 3 _ rfl,hb,fun _=>.slice none 0 0,?_,fun m _=>⟨⟨[],.inl ⟨rfl,rfl⟩,rfl,fun i t h=>by simp at h⟩,fun m' _ _ g hg=>nomatch hg⟩⟩
 refine ⟨madeCells #[Value.slice none 0 0] N,?_,by simp[madeCells],fun i hi=>?_⟩
 ·rw[Below.heap_alloc _ _ _ (by simp)]
  exact heap_alloc_new w _
 ·simp[madeCells,hi,Nat.mod_one]
theorem info132:(Tryd.prog.info? 139).map (fun i=>(i.zero,i.size,i.bytes))=some (some (.slice none 0 0),1,24):=by kernel_rfl
theorem make_met (n:Nat) (hn:n≤4096) (w:World) :
 (Instr.makeSlice 96 (.int .i64 (n:Int)) (.int .i64 (n:Int))).run Tryd.prog w=.ok (.slice (some ⟨w.heap.size,0,none⟩) n n) (w.alloc (.cells (madeCells #[.slice none 0 0] n) 139)):=by
 cases hq:Tryd.prog.info? 139 with
 |none=>have:=info132;rw[hq] at this;cases this
 |some i =>
  have hi:=info132
  rw[hq] at hi
  simp only[Option.map_some,Option.some.injEq,Prod.mk.injEq] at hi
  obtain ⟨hz,hs,hb⟩:=hi
  have:=run_make (P:=Tryd.prog) w 96 139 i _ Tryd.underlying96 hq hz .i64 .i64 (n:Int) (n:Int) (by omega) (by omega) (by rw[hb];omega) (by omega)
  rw[hs] at this
  rw[this]
  simp[Value.cells]
theorem starts_tests {ob st:Int}(h:Ee ob st):decide (ob<1)=false∧decide (ob > 5)=false ∧
 (((ob==2)=false∧(ob==4)=false∧(ob==5)=false)∨((ob==2)=true∧(st != 0)=false∧(ob==4)=false∧(ob==5)=false)∨((ob==2)=false∧(ob==4)=true∧decide (st<0)=false∧(ob==5)=false) ∨
   ((ob==2)=false∧(ob==4)=false∧(ob==5)=true∧decide (st<1)=false∧decide (st > 1000)=false)):=by
 rcases h with rfl|rfl|⟨rfl,rfl⟩|⟨rfl,h⟩|⟨rfl,h1,h2⟩
 ·simp
 ·simp
 ·simp
 ·refine ⟨by simp,by simp,.inr (.inr (.inl ⟨by simp,by simp,by simp;omega,by simp⟩))⟩
 ·refine ⟨by simp,by simp,.inr (.inr (.inr ⟨by simp,by simp,by simp,by simp;omega,by simp;omega⟩))⟩
theorem not_starts_tests {ob st:Int}(h:¬ Ee ob st):decide (ob<1)=true∨(decide (ob<1)=false∧decide (ob > 5)=true)∨(decide (ob<1)=false∧decide (ob > 5)=false ∧
 (((ob==2)=true∧(st != 0)=true)∨((ob==2)=false∧(ob==4)=true∧decide (st<0)=true) ∨
   ((ob==2)=false∧(ob==4)=false∧(ob==5)=true∧decide (st<1)=true)∨((ob==2)=false∧(ob==4)=false∧(ob==5)=true∧decide (st<1)=false∧decide (st > 1000)=true))):=by
 unfold Ee at h
 by_cases h1:ob<1
 ·exact .inl (by simpa using h1)
 ·by_cases h2:ob > 5
  ·exact .inr (.inl ⟨by simpa using h1,by simpa using h2⟩)
  ·refine .inr (.inr ⟨by simpa using h1,by simpa using h2,?_⟩)
   have:ob=2∨ob=4∨ob=5:=by omega
   rcases this with rfl|rfl|rfl
   ·exact .inl ⟨by simp,by simp;omega⟩
   ·exact .inr (.inl ⟨by simp,by simp,by simp;omega⟩)
   ·by_cases h3:st<1
    ·exact .inr (.inr (.inl ⟨by simp,by simp,by simp,by simpa using h3⟩))
    ·exact .inr (.inr (.inr ⟨by simp,by simp,by simp,by simpa using h3,by simp;omega⟩))
theorem rlinear_any (ob st:Int) (hWC:WaysC ob st) (v:Value) (l:List Ev) (w:World) (hE:Evs w v l) :
 Calls Tryd.prog 28 #[I ob,I st,v] w fun e w'=>(∃ b c,e=.returned (.tuple #[.bool b,I c])∧LinOut ob st l b c)∧Below w.heap.size w w':=by
 have HWC:Hid (WaysC ob st):=hWC
 clear hWC
 have HE:Hid (Evs w v l):=hE
 obtain ⟨p,cap,rfl,hcap,hmax,_⟩:=hE
 unfold maxLen at hmax
 by_cases hS:Ee ob st
 ·have HS:Hid (Ee ob st):=hS
  obtain ⟨t1,t2,ht⟩:=starts_tests hS
  clear hS
  by_cases h12:l.length≤12
  ·by_cases hh:Hist l
   ·have HH:Hid (Hist l):=hh
    have hw:IntKind.i64.wrap ((2:Int) ^ l.length)=((2 ^ l.length:Nat):Int):=by
     have e2:((2:Int) ^ l.length)=((2 ^ l.length:Nat):Int):=by push_cast;rfl
     have e3:2 ^ l.length≤2 ^ 12:=Nat.pow_le_pow_right (by omega) h12
     rw[e2,IntKind.wrap_i64]
     generalize 2 ^ l.length=z at e3
     omega
    have hN4:2 ^ l.length≤4096:=Nat.pow_le_pow_right (by omega) h12
    obtain ⟨N,hN⟩:∃ N,N=2 ^ l.length:=⟨_,rfl⟩
    have HN:Hid (N=2 ^ l.length):=hN
    rw[←hN] at hw hN4
    have hmk:=make_met N hN4
    clear hh hN
    rcases ht with ⟨t3,t4,t5⟩|⟨t3,t4,t5,t6⟩|⟨t3,t4,t5,t6⟩|⟨t3,t4,t5,t6,t7⟩
    all_goals
     go_enter Tryd.func28,Tryd.ntmps28
     go_wp2_with fail
     refine (rhistory_any _ l _ HE.out).mono ?_
     rintro e w1 ⟨⟨b,rfl,hb⟩,hb1⟩
     have hbt:b=true:=hb.2 HH.out
     subst hbt
     have HB1:Hid (Below w.heap.size w w1):=hb1
     clear hb hb1
     go_wp2_with fail
     refine (first_any ob st HS.out _).mono ?_
     rintro e w2 ⟨sv,rfl,hsi,hb2⟩
     have HSI:Hid (SI w2 sv (Cf ob st)):=hsi
     have HMET:Hid (Met w2 w.heap.size (w1.heap.size+1) w1.heap.size (.slice p l.length cap) ob st N (fun _=>[])):=(met_first HB1.out.size _ rfl).later hb2
     have HB2:Hid (Below w.heap.size w w2):=A0 (Ad (Ad HB1.out _) _) hb2
     clear hsi hb2
     go_wp2_with fail
     refine (goes_any ob st HWC.out l h12 w _ HE.out (w1.heap.size+1) w1.heap.size N HN.out l.length 0 (fun _=>[]) sv (Cf ob st) w2 (left_none _) (by rw[HN.out];exact Nat.two_pow_pos _) HB2.out HMET.out (fun m _ t ht=>by simp at ht) (fun m=>by simp) HSI.out (by rw[Nat.sub_self];exact stOk_first ob st)).mono ?_
     rintro e w3 ⟨hb3,_,hor⟩
     obtain ⟨b,rfl,hyes,hno⟩:=goesOut_bool hor
     have HB3:Hid (Below w.heap.size w w3):=hb3
     have hbl:b=true↔Lin (Bf ob st) (Cf ob st) l:=by
      rw[lin_iff HH.out]
      cases b with
      |true=>exact ⟨fun _=>hyes rfl,fun _=>rfl⟩
      |false=>exact ⟨fun h=>(nomatch h),fun h=>absurd h (hno rfl).1⟩
     have HBL:Hid (b=true↔Lin (Bf ob st) (Cf ob st) l):=hbl
     clear hb3 hor hyes hno hbl
     go_wp2_with fail
     go_ret2
     exact ⟨⟨b,0,rfl,.inr (.inr (.inr ⟨HS.out,h12,HH.out,rfl,HBL.out⟩))⟩,HB3.out⟩
   ·have HH:Hid (¬ Hist l):=hh
    clear hh
    rcases ht with ⟨t3,t4,t5⟩|⟨t3,t4,t5,t6⟩|⟨t3,t4,t5,t6⟩|⟨t3,t4,t5,t6,t7⟩
    all_goals
     go_enter Tryd.func28,Tryd.ntmps28
     go_wp2_with fail
     refine (rhistory_any _ l _ HE.out).mono ?_
     rintro e w1 ⟨⟨b,rfl,hb⟩,hb1⟩
     have hbt:b=false:=by
      cases b with
      |false=>rfl
      |true=>exact absurd (hb.1 rfl) HH.out
     subst hbt
     have HB1:Hid (Below w.heap.size w w1):=hb1
     clear hb hb1
     go_wp2_with fail
     go_ret2
     exact ⟨⟨false,30,rfl,.inr (.inr (.inl ⟨HS.out,h12,HH.out,rfl,rfl⟩))⟩,HB1.out⟩
  ·have h12':12<l.length:=by omega
   rcases ht with ⟨t3,t4,t5⟩|⟨t3,t4,t5,t6⟩|⟨t3,t4,t5,t6⟩|⟨t3,t4,t5,t6,t7⟩
   all_goals
    go_enter Tryd.func28,Tryd.ntmps28
    go_wp2_with fail
    go_ret2
    first|exact ⟨⟨false,3,rfl,.inr (.inl ⟨HS.out,h12',rfl,rfl⟩)⟩,Below.refl _ _⟩|exact ⟨.inl ⟨3,rfl,.inr (.inl ⟨HS.out,h12',rfl,rfl⟩)⟩,Below.refl _ _⟩
 ·have HS:Hid (¬ Ee ob st):=hS
  have ht:=not_starts_tests hS
  clear hS
  rcases ht with t1|⟨t1,t2⟩|⟨t1,t2,⟨t3,t4⟩|⟨t3,t4,t5⟩|⟨t3,t4,t5,t6⟩|⟨t3,t4,t5,t6,t7⟩⟩
  all_goals
   go_enter Tryd.func28,Tryd.ntmps28
   go_wp2_with fail
   go_ret2
   first|exact ⟨⟨false,1,rfl,.inl ⟨HS.out,rfl,rfl⟩⟩,Below.refl _ _⟩|exact ⟨.inl ⟨1,rfl,.inl ⟨HS.out,rfl,rfl⟩⟩,Below.refl _ _⟩
theorem evs_get:∀ (l:List Ev) (i:Nat),(l.flatMap evL)[i]? = (l[i / 8]?).bind fun e=>(evL e)[i % 8]?
 | [],i=>by simp
 |e :: r,i=>by
  have hl:(evL e).length=8:=rfl
  rw[List.flatMap_cons]
  by_cases hi:i<8
  ·rw[List.getElem?_append_left (by omega)]
   have h1:i / 8=0:=by omega
   have h2:i % 8=i:=by omega
   simp[h1,h2]
  ·rw[List.getElem?_append_right (by omega),evs_get r,hl]
   have h1:i / 8=(i - 8) / 8+1:=by omega
   have h2:(i - 8) % 8=i % 8:=by omega
   rw[h1,h2]
   simp
theorem own_sl {w:World}{base:Nat}{v:Value}{evs:List Ev}(h:w.ownsRow base 93 8 v evs.length (evs.flatMap evL)):SL 8 evL w v evs:=by
 rcases h.2 with ⟨rfl,h0⟩|⟨g,cap,cur,rfl,hb,hh,h1,h2,h3,h4⟩
 ·have:evs=[]:=List.length_eq_zero_iff.1 h0
  subst this
  exact ⟨none,0,rfl,Nat.le_refl _,Nat.zero_le _,fun i a hi=>by simp at hi⟩
 ·refine ⟨_,cap,rfl,h1,h2,fun i a hi=>⟨g,0,rfl,(Array.getElem?_eq_some_iff.1 hh).1,fun j u hj=>?_⟩⟩
  have hi':=(List.getElem?_eq_some_iff.1 hi).1
  have hj8:j<8:=by have:=(List.getElem?_eq_some_iff.1 hj).1;simpa [evL] using this
  have hlt:i*8+j<evs.length*8:=by omega
  have hf:(evs.flatMap evL)[i*8+j]? = some u:=by
   rw[evs_get]
   have e1:(i*8+j) / 8=i:=by omega
   have e2:(i*8+j) % 8=j:=by omega
   rw[e1,e2,hi]
   exact hj
  rw[←h4,List.getElem?_take_of_lt hlt] at hf
  simp only[World.cell?,hh,Nat.zero_add]
  simpa using hf
theorem sl_evs {w:World}{v:Value}{l:List Ev}(h:SL 8 evL w v l):Evs w v l:=by
 obtain ⟨p,cap,rfl,h1,h2,h3⟩:=h
 refine ⟨p,cap,rfl,h1,h2,fun i hi=>?_⟩
 obtain ⟨blk,off,e,_,hr⟩:=h3 i _ (getD_some hi ev0)
 exact ⟨blk,off,e,hr⟩
theorem explained_any (ob st ops:Int) (hWC:WaysC ob st) (sv av tv:Value) (sc:List (List Call)) (an:List (List (Int×Int))) (tr:List Step) (w:World) (hs:SSw 4 callL w sv sc) (ha:SSw 2 ansL w av an) (ht:SLw 5 Gu w tv tr)
 (bn:sc.length≤8) (bl:∀ i,(sc.getD i []).length≤64) (ba:∀ i,(an.getD i []).length≤1048576) (bt:tr.length≤1048576)
 (hyes:(∀ i,i<sc.length->∀ k,k<(sc.getD i []).length->OpIn ops ((sc.getD i []).getD k Fg))->sumL sc sc.length≤12 ->
   Alike sc an∧∀ r,Ofs sc an 0 tr st0 r->∃ s,r=some s∧Ee ob st∧s.evs.length≤12∧Hist s.evs∧Lin (Bf ob st) (Cf ob st) s.evs) :
 Calls Tryd.prog 15 #[I ob,I st,I ops,sv,av,tv] w fun e w'=>e=.returned (.bool true)∧Below w.heap.size w w':=by
 have HWC:Hid (WaysC ob st):=hWC
 clear hWC
 have HSS:Hid (SSw 4 callL w sv sc):=hs
 have HSA:Hid (SSw 2 ansL w av an):=ha
 have HTT:Hid (SLw 5 Gu w tv tr):=ht
 obtain ⟨p,cap,rfl,p1,p2,p3⟩:=hs
 obtain ⟨q,caq,rfl,q1,q2,q3⟩:=ha
 obtain ⟨o,cao,rfl,o1,o2,o3⟩:=ht
 unfold maxLen at p2 q2 o2
 have P3:Hid (∀ i l,sc[i]? = some l->∃ blk off vi,p=some ⟨blk,off,none⟩∧w.cell? ⟨blk,off+i,none⟩=some vi∧SLw 4 callL w vi l):=p3
 have BA:Hid (∀ i,(an.getD i []).length≤1048576):=ba
 have BL:Hid (∀ i,(sc.getD i []).length≤64):=bl
 have HY:Hid (_->_->_):=hyes
 clear p3 q3 o3 ba bl hyes
 go_enter Tryd.func15,Tryd.ntmps15
 go_wp2_with fail
 go_loopw [13,14] (fun m i u=>∃ k:Nat,k≤sc.length∧i=.int .i64 k∧m=.int .i64 (sumL sc k:Nat)∧(∀ i,i<k->∀ j,j<(sc.getD i []).length->OpIn ops ((sc.getD i []).getD j Fg))∧u=w) (fun _ i _=>sc.length - (intOf i).toNat)
 case atStart=>exact ⟨0,Nat.zero_le _,rfl,rfl,fun i hi=>absurd hi (Nat.not_lt_zero _),rfl⟩
 case round =>
  obtain ⟨k,hk,rfl,rfl,hso,rfl⟩:=hrel
  by_cases hlt:k<sc.length
  ·obtain ⟨blk,off,vi,rfl,hc,⟨p2',cp2,rfl,i1,i2,i3⟩⟩:=P3.out k _ (getD_some hlt [])
   unfold maxLen at i2
   have HSO:Hid (∀ i,i<k->∀ j,j<(sc.getD i []).length->OpIn ops ((sc.getD i []).getD j Fg)):=hso
   have I3:Hid (∀ i a,(sc.getD k [])[i]? = some a->∃ blk off,p2'=some ⟨blk,off,none⟩∧blk<wr.heap.size∧wr.rangeAt blk (off+i*4) (callL a)):=i3
   have hsm:=sumL_le BL.out k
   have hbk:=BL.out k
   have HSU:Hid (sumL sc (k+1)=sumL sc k+(sc.getD k []).length):=rfl
   generalize hl:sc.getD k []=l at hc i1 I3 hbk HSU
   have HL:Hid (sc.getD k []=l):=hl
   generalize hgs:sumL sc k=sk at hsm HSU
   clear hso i3 hl hgs
   go_wp2_with fail
   go_loopw [15] (fun i u=>∃ j:Nat,j≤l.length∧i=.int .i64 j∧(∀ i,i<j->OpIn ops (l.getD i Fg))∧u=wr) (fun i _=>l.length - (intOf i).toNat)
   case atStart=>exact ⟨0,Nat.zero_le _,rfl,fun i hi=>absurd hi (Nat.not_lt_zero _),rfl⟩
   case round =>
    obtain ⟨j,hj,rfl,hso2,rfl⟩:=hrel
    have HS2:Hid (∀ i,i<j->OpIn ops (l.getD i Fg)):=hso2
    clear hso2
    by_cases hjl:j<l.length
    ·obtain ⟨b2,f2,rfl,hb2,hr⟩:=I3.out j _ (getD_some hjl Fg)
     have hcx:wr.cell? ⟨b2,f2+j*4,none⟩=some (I (l.getD j Fg).op):=by simpa using hr 0 _ rfl
     generalize hx:(l.getD j Fg).op=x at hcx
     have HX:Hid ((l.getD j Fg).op=x):=hx
     clear hr hx
     by_cases h1:x<1
     ·have t1:decide (x<1)=true:=decide_eq_true h1
      clear h1
      go_wp2_with fail
      go_ret
      exact ⟨rfl,Below.refl _ _⟩
     ·have t1:decide (x<1)=false:=decide_eq_false h1
      by_cases h2:x > ops
      ·have t2:decide (x > ops)=true:=decide_eq_true h2
       clear h1 h2
       go_wp2_with fail
       go_ret
       exact ⟨rfl,Below.refl _ _⟩
      ·have t2:decide (x > ops)=false:=decide_eq_false h2
       have HOK:Hid (OpIn ops (l.getD j Fg)):=⟨by rw[HX.out];omega,by rw[HX.out];omega⟩
       clear h1 h2
       go_wp2_with fail
       go_roundw
       case rel=>exact ⟨j+1,by omega,by go_num,C8 HS2.out HOK.out,trivial⟩
       case measure=>simp[intOf];omega
    ·have:j=l.length:=by omega
     subst this
     go_wp2_with fail
     go_roundw
     case rel =>
      refine ⟨k+1,by omega,by go_num,by rw[HSU.out];go_num,C8 HSO.out ?_,trivial⟩
      rw[HL.out]
      exact HS2.out
     case measure=>simp[intOf];omega
  ·have:k=sc.length:=by omega
   subst this
   have hsm:=sumL_le BL.out sc.length
   have HSO:Hid (∀ i,i<sc.length->∀ j,j<(sc.getD i []).length->OpIn ops ((sc.getD i []).getD j Fg)):=hso
   clear hso
   generalize hgs:sumL sc sc.length=sk at hsm
   have HGS:Hid (sumL sc sc.length=sk):=hgs
   clear hgs
   by_cases h12:sk > 12
   ·have t1:decide ((sk:Int) > 12)=true:=decide_eq_true (by omega)
    clear h12
    go_wp2_with fail
    go_ret
    exact ⟨rfl,Below.refl _ _⟩
   ·have t1:decide ((sk:Int) > 12)=false:=decide_eq_false (by omega)
    obtain ⟨hal,hof⟩:=HY.out HSO.out (by rw[HGS.out];omega)
    have HAL:Hid (Alike sc an):=hal
    have HOF:Hid (∀ r,Ofs sc an 0 tr st0 r->∃ s,r=some s∧Ee ob st∧s.evs.length≤12∧Hist s.evs∧Lin (Bf ob st) (Cf ob st) s.evs):=hof
    clear h12 hal hof
    go_wp2_with fail
    refine (rof_any _ _ _ sc an tr _ HSS.out HSA.out HTT.out (by omega) BA.out bt).mono ?_
    rintro e w1 ⟨⟨r,hr1,_,hr2⟩,hb1⟩
    obtain ⟨s,rfl,hS,hl12,hH,hL⟩:=HOF.out r (hr1 HAL.out)
    rcases hr2 with ⟨h,_⟩|⟨s',v,hs',rfl,hown⟩
    ·cases h
    cases hs'
    have HOWN:Hid (w1.ownsRow wr.heap.size 93 8 v s.evs.length (s.evs.flatMap evL)):=hown
    have HB1:Hid (Below wr.heap.size wr w1):=hb1
    have HF:Hid (Ee ob st∧s.evs.length≤12∧Hist s.evs∧Lin (Bf ob st) (Cf ob st) s.evs):=⟨hS,hl12,hH,hL⟩
    clear hr1 hown hb1 hS hl12 hH hL
    go_wp2_with fail
    refine (rlinear_any ob st HWC.out _ s.evs _ (sl_evs (own_sl HOWN.out))).mono ?_
    rintro e w2 ⟨⟨b,c,rfl,hL⟩,hb2⟩
    obtain ⟨rfl,rfl⟩:c=0∧b=true:=by
     obtain ⟨hS,hl,hH,hLin⟩:=HF.out
     rcases hL with ⟨h,_⟩|⟨_,h,_⟩|⟨_,_,h,_⟩|⟨_,_,_,h1,h2⟩
     ·exact absurd hS h
     ·omega
     ·exact absurd hH h
     ·exact ⟨h1,h2.2 hLin⟩
    have HB2:Hid (Below wr.heap.size wr w2):=A0 HB1.out hb2
    clear hL hb2
    go_wp2_with fail
    go_ret
    exact ⟨rfl,HB2.out⟩
end Go.Proofs.YtaofjdoielmobaaDoor.R3
namespace Go.Proofs.YtaofjdoielmobaaDoor.Gen
open Go Go.Lift Go.Conc Go.RowKit
theorem run4 (W:World) (hGl:Gl W) (n0:Int) {sp:Option Addr}{sb so scap:Nat}{sched:List Int}(hS:InI W sp sb so sched) {p:Option Addr}{b o n cap:Nat}{pc:Nat->Option Addr}{ln cp rb:Nat->Nat}{cl:Nat->List Cl}(hC:InS W p b o n pc ln cp rb cl) :
 ∃ M last o w' t',runNT Tryd.prog (M+1) (solo (G (Frame.enter Tryd.prog 4 #[.slice sp sched.length scap,I n0,.slice p n cap] .normal) []) W) #[]=(.ended o w',t') ∧
   runN Tryd.prog M (solo (G (Frame.enter Tryd.prog 4 #[.slice sp sched.length scap,I n0,.slice p n cap] .normal) []) W)=.next last∧step Tryd.prog last=.ended o w'∧Go.Conc.Good Tryd.prog (PostT W) last o w' t':=by
 have e:Frame.enter Tryd.prog 4 #[.slice sp sched.length scap,I n0,.slice p n cap] .normal=(base 4).at { tmps:=#[.slice sp sched.length scap,I n0,.slice p n cap]++Array.replicate 33 undef,defers:=[] } [.code LB4]:=enter_at (fn:=Tryd.f4) (c:=LB4) _ Tryd.func4 (by rfl)
 rw[e,solo_eq_crowd]
 have A:Alone #[G ((base 4).at { tmps:=#[.slice sp sched.length scap,I n0,.slice p n cap]++Array.replicate 33 undef,defers:=[] } [.code LB4]) []] W #[] (fun _=>0):=⟨leavers_one _ _,0,Nat.zero_le _,past_nil⟩
 obtain ⟨N1,gs1,a1,w1,sl1,T1,q1,r1,z1,h1,⟨bd,ad,od,qd,rd,oe,kd,⟨d1,rfl⟩,hoe,hback,rfl⟩,A1⟩:=Dj A rfl none (Stop:=fun g w'=>∃ (bd:Frame) (ad:Act) (od:Array Oper) (qd:Nat) (rd:List Nat) (oe:Oper) (kd:List Item),(∃ d,w'=W.at d)∧od[qd]? = some oe ∧
  (∀ (Ch:Nat->Prop) (Stop:Goroutine->World->Prop) (w1:World),(∀ a,Fl 36 [(0,.slice sp sched.length scap),(1,I n0),(2,.slice p n cap),(7,.bool true)] a->GoesI Tryd.prog true (DT (ScZ zn) Ch) Stop (G ((base 4).at a [.code P4]) []) w1)->GoesI Tryd.prog true (DT (ScZ zn) Ch) Stop (G (bd.at (ad.put oe.dst (.bool true)) (.inRegion od rd :: kd)) []) w1) ∧
  g=G ((base 7).at { tmps:=Array.replicate 26 undef,defers:=[] } [.code B7]) [bd.at ad (.inRegion od (qd :: rd) :: kd)])
  (law4_in _ _ _ (fun w' bd ad od qd rd oe kd hw ho hback=>GoesI.stop fun d=>⟨bd,ad,od,qd,rd,oe,kd,by obtain ⟨d0,rfl⟩:=hw;exact ⟨d,rfl⟩,ho,hback,rfl⟩))
 obtain ⟨N2,gs2,w2,sl2,T2,q2,r2,h2,A2,g2⟩:=oawake_all hoe sl1 A1 (w:=W.at d1) (show Gl (W.at d1) from ⟨hGl.a,hGl.b,hGl.c⟩) h1
 have g2':Grows W w2:=⟨g2.size,g2.old,g2.os,g2.output⟩
 have hS2:=hS.grows g2'
 have hC2:=hC.grows g2'
 obtain ⟨N3,gs3,a3,w3,sl3,T3',q3,r3,z3,h3,⟨wb,bk,sc,bd,ad,od,qd,rd,oe,kd,hnew,hoe3,hend3,rfl⟩,A3⟩:=Dj A2 h2 sl2 (Stop:=fun g w'=>∃ (wb bk:Nat) (sc:Value) (bd:Frame) (ad:Act) (od:Array Oper) (qd:Nat) (rd:List Nat) (oe:Oper) (kd:List Item),IsNew w2 sched wb bk sc w'∧od[qd]? = some oe ∧
  (∀ (Ch:Nat->Prop) (Stop:Goroutine->World->Prop) (w2:World) (A:Value) (E:Int),(∀ a,Fl 36 [(1,I n0),(2,.slice p n cap),(7,.bool true),(8,Pt wb 0),(9,A),(10,I E)] a->GoesI Tryd.prog true (DT (ScZ zn) Ch) Stop (G ((base 4).at a [.code (.seq l4c P4s)]) []) w2) ->
    GoesI Tryd.prog true (DT (ScZ zn) Ch) Stop (G (bd.at (ad.put oe.dst (.tuple #[A,I E])) (.inRegion od rd :: kd)) []) w2) ∧
  g=G ((base 9).at { tmps:=#[Pt wb 0,I n0,.slice p n cap]++Array.replicate 37 undef,defers:=[] } [.code yB]) [bd.at ad (.inRegion od (qd :: rd) :: kd)])
  (hback (fun _=>False) _ w2 (law4_b sp scap sb so sched hS2.at_ hS2.len hS2.cell _ _ (Rel.refl w2) (fun c hc=>hc.elim) (fun v' w' wb bk sc bd ad od qd rd oe kd hr hn hnew ho hend=>GoesI.stop fun d=>⟨wb,bk,sc,bd,ad,od,qd,rd,oe,kd,by
    have e:(w'.at d).heap=v'.heap:=hr.eq
    have hgr:Grows v' (w'.at d):=⟨by rw[e];exact Nat.le_refl _,fun b _=>by rw[e],hr.os,hr.output⟩
    refine ⟨(hnew.mem.grows hgr).mem,?_,hnew.new,⟨by rw[e];exact hnew.old.size,fun b hb=>by rw[e];exact hnew.old.old b hb,hr.os.trans hnew.old.os,hr.output.trans hnew.old.output⟩⟩
    obtain ⟨c,m,h⟩:=hnew.opn
    exact ⟨c,m,by rw[e];exact h⟩,ho,hend,rfl⟩)))
 have g3:Grows W w3:=g2'.trans' hnew.old
 have hC3:=hC2.grows hnew.old
 have fin:∀ (N4:Nat) (gs4:Array Goroutine) (w4:World) (sl4:Option (Nat×Nat)) (T4:Trace) (q4:Nat->Nat) (a4:Goroutine),runNT Tryd.prog N4 (crowd gs3 w3 sl3) T3'=(.next (crowd gs4 w4 sl4),T4)->gs4[0]? = some a4->Alone gs4 w4 T4 q4->(∃ a' todo,a'.defers=[]∧a'.tmps.getD 6 undef=.bool true∧Grows W w4∧a4=G { (base 4).at a' todo with mode:=.returning } []) ->
  ∃ M last o w' t',runNT Tryd.prog (M+1) (crowd #[G ((base 4).at { tmps:=#[.slice sp sched.length scap,I n0,.slice p n cap]++Array.replicate 33 undef,defers:=[] } [.code LB4]) []] W none) #[]=(.ended o w',t')∧runN Tryd.prog M (crowd #[G ((base 4).at { tmps:=#[.slice sp sched.length scap,I n0,.slice p n cap]++Array.replicate 33 undef,defers:=[] } [.code LB4]) []] W none)=.next last∧step Tryd.prog last=.ended o w'∧Go.Conc.Good Tryd.prog (PostT W) last o w' t':=by
  intro N4 gs4 w4 sl4 T4 q4 a4 r4 h4 A4 ⟨a',todo,hd,h6,g4,ea⟩
  subst ea
  obtain ⟨M5,last,o,w',t',e1,e2,e3,e4⟩:=alone_ends A4 h4 sl4 (Post:=PostT W) (fun B d=>⟨rfl,.bool true,#[],end4 hd h6,fun e he=>by simp at he,rfl,⟨g4.size,g4.old,g4.os,g4.output⟩⟩)
  have hrun:=runNT_then (runNT_then (runNT_then r1 r2) r3) r4
  refine ⟨N1+N2+N3+N4+M5,last,o,w',t',?_,?_,e3,e4⟩
  ·rw[Nat.add_assoc,runNT_add,hrun];exact e1
  ·rw[runN_add,←runNT_fst Tryd.prog _ _ #[],hrun];exact e2
 by_cases hyes:(∀ k,k<n->ln k≤64)∧(0<n∧n≤8)∧1≤n0∧n0≤1000
 ·obtain ⟨h64,hn8,hx0,hx1⟩:=hyes
  obtain ⟨s,rfl⟩:∃ s:Nat,n0=(s:Int):=⟨n0.toNat,by omega⟩
  have hs0:0<s:=by omega
  have hs1:s≤1000:=by omega
  have hl64:∀ j,j<n->(cl j).length≤64:=fun j hj=>by rw[hC.len j hj];exact h64 j hj
  have hlens:∀ caps pk N K,lens (scrs (mcO s) 25 caps pk N n K pc ln cp rb cl)≤512:=fun caps pk N K=>Nat.le_trans (lens_scrs _ _ _ _ _ _ _ _ _ _ _ _ hl64) (by omega)
  have hpp:=hC.at_ hn8.1
  subst hpp
  have hG3:=hGl.grows g3
  have hGlt:=hGl.lt
  have hpf:∀ b,glP w3 b≠none->¬ Own (newS wb bk w2.heap.size sc sched) [] b∧b≠(newS wb bk w2.heap.size sc sched).bk:=fun b hb=>by
   have hb':=glP_in hb
   have hs2:=g2'.size
   exact ⟨fun h=>by have:=hnew.new b (.inl h);omega,fun h=>by have:=hnew.new b (.inr h);omega⟩
  have hends:=fun caps pk N cv (K:List (Nat×Int)) (hK:K.map (·.2)=List.replicate (2*s) 0) S1 l1 hH=>once_ends (cl:=cl) (N:=n) (S:=nv { Gp (newS wb bk w2.heap.size sc sched) cv (List.replicate (2*s) (0:Int)).length with ran:=true }) (S1:=S1) (l0:=fun _=>.done []) (l1:=l1) (K:=K) hs0 (scrs_len (mcO s) 25 caps pk N n K pc ln cp rb cl) hn8.2 (hlens caps pk N K) (scrs_calls _ _ _ _ _ _ _ _ _ _ _ _) (scrs_ans _ _ _ _ _ _ _ _ _ _ _ _ (fun j hj=>hC.len j hj)) rfl rfl rfl rfl (by show List.replicate _ (0:Int)=_;simp) hK hH
  obtain ⟨N4,gs4,w4,sl4,T4,q4,caps,pk,N,cv,K,S',S1,l1,m,p',r4,z4,h4,A4,hK,hnv,hH,hT,O⟩:=oplay_all s hs0 hs1 (pk0:=glP w3) (glP_fl hG3) (S:=newS wb bk w2.heap.size sc sched) (n:=n) (sb:=b) (so:=o) (cap:=cap) (pc:=pc) (ln:=ln) (cp:=cp) (rb:=rb) (cl:=cl) hoe3 sl3 300000 A3 h3 hnew.mem rfl rfl rfl hnew.opn (glP_has w3) hpf (glP_row hG3) (asked_of hC2 hnew h64 hn8.1) hn8 (fun caps pk N K=>by
   have:=hlens caps pk N K
   show 0+2*_≤1000000
   omega) (by have:=hS.len;show sched.length≤_;omega) (fun x hx=>hS.inr x hx) (fun _=>.done []) (fun caps pk N cv K hK S1 l1 hH=>(hends caps pk N cv K hK S1 l1 hH).1)
  obtain ⟨hsm,vw,hvs,_⟩:=(hends caps pk N cv K hK S1 l1 hH).2 _ _ hT
  obtain ⟨L,hLe⟩:∃ L,L=vw.L:=⟨_,rfl⟩
  have t1:p'.S.tr=flat L:=by rw[hLe];exact hvs.tr
  have t2:p'.S.n=L.length:=by rw[hLe];exact hvs.n
  have hSn:S'.n=L.length:=by have:=congrArg TS.n hnv;exact this.trans t2
  have hStr:S'.tr=flat L:=by have:=congrArg TS.tr hnv;exact this.trans t1
  have hSw:S'.wb=wb:=by
   have h5:=congrArg TS.wb hnv
   have h6:=(turns_wb hT).trans (hires_wb hH)
   exact h5.trans h6
  have hn1:S'.n≤400000:=by
   have:S'.n=p'.S.n:=by have:=congrArg TS.n hnv;exact this
   omega
  have hg34:∀ b,b<w2.heap.size->w4.heap[b]? = w3.heap[b]?:=fun b hb=>by
   have hs:=hnew.old.size
   exact (O.old b (by omega) (fun h=>by have:=hnew.new b (.inl h);omega) (fun h=>by have:=hnew.new b (.inr h);omega)).1
  have hgW:Grows W w4:=⟨by have:=g3.size;have:=O.size;omega,fun b hb=>by rw[hg34 b (by have:=g2'.size;omega)];exact g3.old b hb,O.os.trans g3.os,O.out.trans g3.output⟩
  have hC4:=hC.grows hgW
  subst hSw
  have hans:R3.SSw 2 R3.ansL w4 (.slice (some ⟨N+1,0,none⟩) n n) (anL n fun i=>(p'.l i).ans):=ss_answers h64 hn8.2 O.rows (fun j hj=>⟨(O.ans j hj).1,(O.ans j hj).2.1⟩)
  have hscr:R3.SSw 4 R3.callL w4 (.slice (some ⟨b,o,none⟩) n cap) (scL n cl):=ss_scripts hC4 h64 hn8.2
  have hX:∀ (u:World) (tv:Value),Grows w4 u->R3.SLw 5 R3.Gu u tv (L.map Ey)->Calls Tryd.prog 15 #[I 5,I (s:Int),I 4,.slice (some ⟨b,o,none⟩) n cap,.slice (some ⟨N+1,0,none⟩) n n,tv] u fun e w'=>e=.returned (.bool true)∧Below u.heap.size u w':=fun u tv hg ht =>
   R3.explained_any 5 (s:Int) 4 (R3.waysC_onces (s:Int) hx0 hx1) _ _ tv (scL n cl) (anL n fun i=>(p'.l i).ans) (L.map Ey) u (SSw_grows hg hscr) (SSw_grows hg hans) ht (by rw[Es];exact hn8.2)
    (fun i=>by
      by_cases hi:i<n
      ·rw[scL_get cl hi,List.length_map,hC.len i hi];exact h64 i hi
      ·rw[List.getD_eq_getElem?_getD,List.getElem?_eq_none (by rw[Es];omega)];exact Nat.zero_le _)
    (fun i=>by
      by_cases hi:i<n
      ·rw[anL_get _ hi]
       have:=(O.ans i hi).1
       have:=h64 i hi
       omega
      ·rw[List.getD_eq_getElem?_getD,List.getElem?_eq_none (by rw[anL_len];omega)];exact Nat.zero_le _)
    (by rw[List.length_map];omega)
    (fun hop h12=>once_lin hs0 hs1 (fun _=>rfl) (scrs_len _ _ _ _ _ _ _ _ _ _ _ _) hn8.2 (scrs_calls _ _ _ _ _ _ _ _ _ _ _ _) (scrs_ans _ _ _ _ _ _ _ _ _ _ _ _ (fun j hj=>hC.len j hj)) rfl rfl rfl rfl (by show List.replicate _ (0:Int)=_;simp) hK hH hT t1 hop h12)
  obtain ⟨N5,gs5,a5,w5,sl5,T5,q5,r5,z5,h5,hs5,A5⟩:=Dj A4 h4 sl4 (hend3 (fun _=>False) (fun g w'=>∃ a' todo,a'.defers=[]∧a'.tmps.getD 6 undef=.bool true∧Grows W w'∧g=G { (base 4).at a' todo with mode:=.returning } []) w4 _ 0 (fun a hA=>law4_yes (v:=w4) (S:=S') O.mem.rep hStr hSn hn1 hX (Rel.refl w4) (fun c hc=>hc.elim) (show Fl 36 [(1,I (s:Int)),(2,.slice (some ⟨b,o,none⟩) n cap),(8,Pt S'.wb 0),(9,.slice (some ⟨N+1,0,none⟩) n n),(7,.bool true),(10,I 0)] a from hA.sub (by simp)) (fun a' v' w' todo hr hgr hd h6=>GoesI.stop fun d=>⟨a',todo,hd,h6,by
   have e:(w'.at d).heap=v'.heap:=hr.eq
   have:=hgW.trans' hgr
   exact ⟨by rw[e];exact this.size,fun b hb=>by rw[e];exact this.old b hb,hr.os.trans this.os,hr.output.trans this.output⟩,rfl⟩)))
  exact fin _ gs5 w5 sl5 T5 q5 a5 (runNT_then r4 r5) h5 A5 hs5
 ·obtain ⟨E,hE0,hE⟩:∃ E:Int,(E=1∨E=2)∧(Refused n ln E∨((∀ k,k<n->ln k≤64)∧(0<n∧n≤8)∧(n0<1∨1000<n0)∧E=1)):=by
   by_cases h64:∀ k,k<n->ln k≤64
   ·by_cases hn8:0<n∧n≤8
    ·refine ⟨1,.inl rfl,.inr ⟨h64,hn8,?_,rfl⟩⟩
     have:¬ (1≤n0∧n0≤1000):=fun h=>hyes ⟨h64,hn8,h⟩
     omega
    ·exact ⟨1,.inl rfl,.inl (.inr ⟨h64,by omega,rfl⟩)⟩
   ·refine ⟨2,.inr rfl,.inl (.inl ⟨?_,rfl⟩)⟩
    simp only[Classical.not_forall] at h64
    obtain ⟨k,hk,hk2⟩:=h64
    exact ⟨k,hk,by omega⟩
  obtain ⟨N5,gs5,a5,w5,sl5,T5,q5,r5,z5,h5,hs5,A5⟩:=Dj A3 h3 sl3 (Stop:=fun g w'=>∃ a' todo,a'.defers=[]∧a'.tmps.getD 6 undef=.bool true∧Grows W w'∧g=G { (base 4).at a' todo with mode:=.returning } []) (oplay_no (S:=newS wb bk w2.heap.size sc sched) (v:=w3) n0 p n cap pc ln cp (fun k hk=>⟨b,o,hC3.at_ (by omega),hC3.row k hk⟩) hC.n rfl hnew.mem hE [] hoe3 (Rel.refl w3) (fun c hc=>hc.elim) (fun v' w' hr hn hgv=>hend3 (fun _=>False) _ w' _ E (fun a hA=>law4_no hE0 hr hn (show Fl 36 [(1,I n0),(2,.slice p n cap),(8,Pt wb 0),(9,.slice none 0 0),(7,.bool true),(10,I E)] a from hA.sub (by simp)) (fun a' v'' w'' todo hr' hgr hd h6=>GoesI.stop fun d=>⟨a',todo,hd,h6,by
   have e:(w''.at d).heap=v''.heap:=hr'.eq
   have:Grows W v':=g3.trans' hgv
   have:=this.trans' hgr
   exact ⟨by rw[e];exact this.size,fun b hb=>by rw[e];exact this.old b hb,hr'.os.trans this.os,hr'.output.trans this.output⟩,rfl⟩))))
  exact fin _ gs5 w5 sl5 T5 q5 a5 r5 h5 A5 hs5
end Go.Proofs.YtaofjdoielmobaaDoor.Gen
namespace Go.Proofs.YtaofjdoielmobaaDoor.Gen
open Go Go.Lift Go.Conc
open Go.ChangeShapes Go.WideShapes Go.ChangeAt Go.RowKit Go.Joins Go.Deep
theorem op_knob:ownKnob Tryd.prog.godebug=none:=by kernel_rfl
theorem op_cells3:Tryd.prog.cellsOf 3=1:=by kernel_rfl
theorem op_cells39:Tryd.prog.cellsOf 35=4:=by kernel_rfl
theorem op_cells37:Tryd.prog.cellsOf 33=1:=by kernel_rfl
theorem op_bytes3:Tryd.prog.bytesOf 3=8:=by kernel_rfl
theorem op_bytes37:Tryd.prog.bytesOf 33=24:=by kernel_rfl
def clV (c:Cl):List Value:=[I c.po,I c.ca,I c.cb,I c.cc]
theorem inr_of {n:Int}(h:(Lit.int .i64 n).wf=true):InR n:=by
 have:=bounds_i64 h
 unfold InR
 omega
section
variable {H:Type}{enc:TypeId×Value->H}{w:World}
theorem ints_in {r:Reach}{b0:Nat}{v:Value}{d:DataW H}{ps:List MemPlace}(hv:Value.okWide Tryd.prog w r b0 22 v) (h:DataW.Trod enc Tryd.prog w 0 (fun _=>true) true 22 v d ps) (hsz:∀ elems spare,d=.slice elems spare->(elems.length+spare.length)*Tryd.prog.bytesOf 3≤reachBytes) :
 ∃ (p:Option Addr) (cap b o:Nat) (xs:List Int),v=.slice p xs.length cap∧InI w p b o xs:=by
 obtain ⟨a0,len0,cap0,rfl⟩:=okWide_slice Tryd.underlying22 hv
 obtain ⟨fuel,hf⟩:=h
 rcases open_ints Tryd.underlying22 Tryd.underlying3 op_cells3 hf with ⟨hcs,_⟩|⟨x,l,c,zs,hcs,_,hl,hm,hz,hx,hcell,hwf⟩
 ·simp[Value.cells] at hcs
  obtain ⟨rfl,rfl,rfl⟩:=hcs
  exact ⟨none,0,0,0,[],rfl,⟨fun h=>by simp at h,fun k x hk=>by simp at hk,fun x hx=>by simp at hx,Nat.zero_le _⟩⟩
 ·simp[Value.cells] at hcs
  obtain ⟨rfl,rfl,rfl⟩:=hcs
  have hz':zs.length=cap0:=by simpa using hz
  have ht:(zs.take len0).length=len0:=by rw[List.length_take];omega
  have hb:=hsz _ _ (congrArg Prod.fst hx)
  have hlz:∀ (k:IntKind) (l:List Int),(ChangeShapes.lits (H:=H) k l).length=l.length:=fun k l=>by simp[ChangeShapes.lits]
  rw[op_bytes3,hlz,hlz,ht] at hb
  have hlen:len0≤17592186043904:=by unfold reachBytes at hb;omega
  obtain ⟨b,off,spot⟩:=x
  by_cases h0:len0=0
  ·subst h0
   exact ⟨_,_,0,0,[],rfl,⟨fun h=>by simp at h,fun k x hk=>by simp at hk,fun x hx=>by simp at hx,Nat.zero_le _⟩⟩
  ·have hspot:spot=none:=by simpa [Addr.add] using World.cell?_spot (hcell 0 (by omega))
   subst hspot
   refine ⟨_,_,b,off,zs.take len0,by rw[ht],⟨fun _=>rfl,fun i a hi=>?_,fun x hx=>inr_of (hwf x (List.mem_of_mem_take hx)),by rw[ht];exact hlen⟩⟩
   have hil:i<len0:=by have:=(List.getElem?_eq_some_iff.1 hi).1;omega
   have hc:=hcell i (by omega)
   have hadd:(⟨b,off,none⟩:Addr).add i=⟨b,off+i,none⟩:=by unfold Addr.add;split<;>simp_all
   rw[hadd] at hc
   have ha:zs.getD i 0=a:=by
    rw[List.getElem?_take_of_lt hil] at hi
    rw[List.getD_eq_getElem?_getD,hi]
    rfl
   rw[ha] at hc
   exact hc
theorem clV_open:∀ fuel cs (y:DataW H×List MemPlace),cs.length=4->DataW.trod enc Tryd.prog w 0 (fun _=>true) true fuel 35 cs=some y->∃ a,cs=clV a∧InR a.ca∧a.ok:=by
 intro fuel cs y hl h
 obtain ⟨xs,k,hk,hxy,_,hxl,hf⟩:=DataW.trod_struct Tryd.underlying35 h
 match xs,hxl,cs,hl with
 | [y0,y1,y2,y3],_,[c0,c1,c2,c3],_ =>
  have g0:=hf 0 _ rfl
  have g1:=hf 1 _ rfl
  have g2:=hf 2 _ rfl
  have g3:=hf 3 _ rfl
  simp[op_cells3] at g0 g1 g2 g3
  obtain ⟨a0,e0,_,f0⟩:=DataW.trod_int Tryd.underlying3 g0
  obtain ⟨a1,e1,_,f1⟩:=DataW.trod_int Tryd.underlying3 g1
  obtain ⟨a2,e2,_,f2⟩:=DataW.trod_int Tryd.underlying3 g2
  obtain ⟨a3,e3,_,f3⟩:=DataW.trod_int Tryd.underlying3 g3
  simp at e0 e1 e2 e3
  subst e0 e1 e2 e3
  exact ⟨⟨a0,a1,a2,a3⟩,rfl,inr_of f1,inr_of f2,inr_of f3⟩
def Sc (w:World) (v:Value) (q:Option Addr×Nat×Nat×List Cl):Prop :=
 v=.slice q.1 q.2.2.2.length q.2.1∧(0<q.2.2.2.length->q.1=some ⟨q.2.2.1,roOf q.1,none⟩)∧(∀ (k:Nat) (c:Cl),q.2.2.2[k]? = some c->w.cell? ⟨q.2.2.1,roOf q.1+k*4,none⟩=some (I c.po)∧w.cell? ⟨q.2.2.1,roOf q.1+k*4+1,none⟩=some (I c.ca)∧w.cell? ⟨q.2.2.1,roOf q.1+k*4+2,none⟩=some (I c.cb)∧w.cell? ⟨q.2.2.1,roOf q.1+k*4+3,none⟩=some (I c.cc))∧∀ c∈q.2.2.2,InR c.ca∧c.ok
theorem script_in {fuel:Nat}{cs:List Value}{y:DataW H×List MemPlace}(h:DataW.trod enc Tryd.prog w 0 (fun _=>true) true fuel 33 cs=some y):∃ v q,cs=[v]∧Sc w v q:=by
 rcases open_slice Tryd.underlying33 h with ⟨hcs,hx⟩|⟨ad,len,cap,m,k,D,Pl,hcs,_,hl,hm,hmm,hxe,hx⟩
 ·exact ⟨_,(none,0,0,[]),hcs,rfl,fun h=>by simp at h,fun k c h=>by simp at h,fun c hc=>by simp at hc⟩
 ·simp only[if_true] at hmm
  subst hmm
  have each:∀ i,i<len->∃ a:Cl,(∀ j,j<4->w.cell? ((ad.add (i*4)).add j)=(clV a)[j]?)∧InR a.ca∧a.ok:=by
   intro i hi
   obtain ⟨cs',h1,h2⟩:=hx i (by omega)
   rw[op_cells39] at h1
   obtain ⟨_,hlen,hc⟩:=World.cells?_some h1
   obtain ⟨a,rfl,ha⟩:=clV_open _ _ _ hlen h2
   exact ⟨a,hc,ha⟩
  have ie:Inhabited Cl:=⟨⟨0,0,0,0⟩⟩
  obtain ⟨q,hq⟩:=choose_lt each
  obtain ⟨b,off,spot⟩:=ad
  by_cases h0:len=0
  ·subst h0
   exact ⟨_,(some ⟨b,off,spot⟩,m,0,[]),hcs,rfl,fun h=>by simp at h,fun k c h=>by simp at h,fun c hc=>by simp at hc⟩
  ·have c01:w.cell? (((⟨b,off,spot⟩:Addr).add (0*4)).add 0)=some (I (q 0).po):=(hq 0 (by omega)).1 0 (by omega)
   have hspot:spot=none:=by
    have:=World.cell?_spot c01
    simpa [Addr.add] using this
   subst hspot
   have hadd:∀ (o j:Nat),(⟨b,o,none⟩:Addr).add j=⟨b,o+j,none⟩:=by intro o j;unfold Addr.add;split<;>simp_all
   refine ⟨_,(some ⟨b,off,none⟩,m,b,(List.range len).map q),hcs,?_,fun _=>rfl,fun i a hi=>?_,fun c hc=>?_⟩
   ·simp
   ·have hil:i<len:=by simpa using (List.getElem?_eq_some_iff.1 hi).1
    have ha:a=q i:=by simp[hil] at hi;exact hi.symm
    subst ha
    have k0:=(hq i hil).1 0 (by omega)
    have k1:=(hq i hil).1 1 (by omega)
    have k2:=(hq i hil).1 2 (by omega)
    have k3:=(hq i hil).1 3 (by omega)
    rw[hadd,hadd] at k0 k1 k2 k3
    exact ⟨k0,k1,k2,k3⟩
   ·obtain ⟨i,hi,rfl⟩:=List.mem_map.1 hc
    exact (hq i (List.mem_range.1 hi)).2
theorem scripts_in {r:Reach}{b0:Nat}{v:Value}{d:DataW H}{ps:List MemPlace}(hv:Value.okWide Tryd.prog w r b0 23 v) (h:DataW.Trod enc Tryd.prog w 0 (fun _=>true) true 23 v d ps) (hsz:∀ elems spare,d=.slice elems spare->(elems.length+spare.length)*Tryd.prog.bytesOf 33≤reachBytes) :
 ∃ (p:Option Addr) (b o n cap:Nat) (pc:Nat->Option Addr) (ln cp rb:Nat->Nat) (cl:Nat->List Cl),v=.slice p n cap∧InS w p b o n pc ln cp rb cl:=by
 obtain ⟨a0,len0,cap0,rfl⟩:=okWide_slice Tryd.underlying23 hv
 obtain ⟨fuel,hf⟩:=h
 have nothing:∀ p cap,∃ (p':Option Addr) (b o n cap':Nat) (pc:Nat->Option Addr) (ln cp rb:Nat->Nat) (cl:Nat->List Cl),(Value.slice p 0 cap)=.slice p' n cap'∧InS w p' b o n pc ln cp rb cl:=fun p cap =>
  ⟨p,0,0,0,cap,fun _=>none,fun _=>0,fun _=>0,fun _=>0,fun _=>[],rfl,⟨fun h=>by omega,fun k hk=>by omega,fun k hk=>by omega,fun k hk=>by omega,fun k hk=>by omega,fun k hk=>by omega,Nat.zero_le _⟩⟩
 rcases open_slice Tryd.underlying23 hf with ⟨hcs,_⟩|⟨ad,len,cap,m,k,D,Pl,hcs,_,hl,hm,hmm,hxe,hx⟩
 ·simp[Value.cells] at hcs
  obtain ⟨rfl,rfl,rfl⟩:=hcs
  exact nothing _ _
 ·simp[Value.cells] at hcs
  obtain ⟨rfl,rfl,rfl⟩:=hcs
  simp only[if_true] at hmm
  subst hmm
  have hb:=hsz _ _ (congrArg Prod.fst hxe)
  rw[op_bytes37] at hb
  simp only[List.length_map,List.length_range] at hb
  have hlen:len0≤17592186043904:=by unfold reachBytes at hb;omega
  have each:∀ i,i<len0->∃ q:Option Addr×Nat×Nat×List Cl,∃ v,w.cell? ((ad.add (i*1)).add 0)=some v∧Sc w v q:=by
   intro i hi
   obtain ⟨cs',h1,h2⟩:=hx i (by omega)
   rw[op_cells37] at h1
   obtain ⟨_,hlen,hc⟩:=World.cells?_some h1
   obtain ⟨v,q,rfl,hq⟩:=script_in h2
   exact ⟨q,v,hc 0 (by omega),hq⟩
  have ie:Inhabited (Option Addr×Nat×Nat×List Cl):=⟨(none,0,0,[])⟩
  obtain ⟨q,hq⟩:=choose_lt each
  obtain ⟨b,off,spot⟩:=ad
  by_cases h0:len0=0
  ·subst h0
   exact nothing _ _
  ·obtain ⟨v0,hv0,_⟩:=hq 0 (by omega)
   have hspot:spot=none:=by
    have:=World.cell?_spot hv0
    simpa [Addr.add] using this
   subst hspot
   have hadd:∀ (o j:Nat),(⟨b,o,none⟩:Addr).add j=⟨b,o+j,none⟩:=by intro o j;unfold Addr.add;split<;>simp_all
   refine ⟨some ⟨b,off,none⟩,b,off,len0,_,fun i=>(q i).1,fun i=>(q i).2.2.2.length,fun i=>(q i).2.1,fun i=>(q i).2.2.1,fun i=>(q i).2.2.2,rfl,⟨fun _=>rfl,fun i hi=>?_,fun _ _=>rfl,fun i hi h=>?_,fun i hi k c hc=>?_,fun i hi c hc=>?_,hlen⟩⟩
   ·obtain ⟨v,h1,h2⟩:=hq i hi
    rw[hadd,hadd,Nat.mul_one,h2.1] at h1
    exact h1
   ·obtain ⟨v,h1,h2⟩:=hq i hi
    exact h2.2.1 h
   ·obtain ⟨v,h1,h2⟩:=hq i hi
    exact h2.2.2.1 k c hc
   ·obtain ⟨v,h1,h2⟩:=hq i hi
    exact h2.2.2.2 c hc
end
theorem grows_frame {W w':World}(h:Grows W w') (may:MemPlace->Prop):W.keptBut w' may:=by
 refine ⟨h.os,h.output,fun i hi=>?_⟩
 rw[h.old i hi]
 split<;>simp_all
theorem grows_same {W w':World}(h:Grows W w') {p:MemPlace}(hp:p.block<W.heap.size):W.sameAt w' p:=by
 cases p with
 |cell b o=>exact World.cell?_of_block (w:=W) (h.old b hp)
 |map b=>exact h.old b hp
theorem op_laid:laidOutB Tryd.prog=true:=by kernel_rfl
theorem grows_trod {H:Type}{enc:TypeId×Value->H}{t:TypeId}(hr:Tryd.prog.readableRec t=true) (hrow:t<Tryd.prog.types.size) {W W':World}{v:Value}{d:DataW H}{ps:List MemPlace}
 (h:DataW.Trod enc Tryd.prog W 0 (fun _=>true) true t v d ps) (hb:Grows W W') (hlt:∀ x∈ps,x.block<W.heap.size) :
 DataW.Trod enc Tryd.prog W' 0 (fun b=>decide (b<W.heap.size)) true t v d ps :=
 WideElems.Trod_stays op_laid hr hrow h (fun x hx=>grows_same hb (hlt x hx)) (fun x hx=>by simpa using hlt x hx)
end Go.Proofs.YtaofjdoielmobaaDoor.Gen
namespace Go.Proofs.YtaofjdoielmobaaDoor
open Go Go.Lift Go.Conc
open Go.ChangeShapes Go.WideShapes Go.ChangeAt Go.RowKit Go.Joins Go.Deep
open Gen
section
variable {H:Type}{enc:TypeId×Value->H}
theorem leaving_and {a:Assume}{C:Checked}{os:Os}{f:FuncId}{fn:Func}{s:ChangeSpec}{X:World->Array Value->Prop}
 (hX:∀ (w w':World) (args:Array Value),w.heap=w'.heap->X w args->X w' args)
 (own:ownKnob C.prog.godebug=none) (started:os.Started) (hfn:C.prog.funcs[f]? = some fn)
 (wit:∃ (w:World) (tape:Tape) (i:Input),w.os=os∧(w.forCall tape i).Shaped C.prog∧i.vars=[]∧Input.okWide C.prog (w.forCall tape i) .any w.heap.size f i ∧
   ((s.pre enc C.prog fn [] false (w.forCall tape i).memory i.args∧X (w.forCall tape i).memory i.args)∧sizedMet enc C.prog fn (OpenSpec.ofChange s) false (w.forCall tape i).memory i.args)∧a.holds C.prog (lone (Frame.enter C.prog f i.args .normal) [] (w.forCall tape i)))
 (runs:∀ (W:World) (base:Nat) (args:Array Value) (ds gs:List (DataW H)) (before:List MemPlace),
   (∀ (j:Nat) t v,fn.params[j]? = some t->args[j]? = some v->Value.okWide C.prog W .any base t v) ->
   DataW.Whole enc C.prog fn.params.toList s.vars false W args.toList ds gs before ->
   (DataW.weightsEach C.prog (fn.params.toList++s.plain.varTypes C.prog) (ds++gs)).all (·≤reachBytes)=true->X W args ->
   ∃ M last o w' t',runNT C.prog (M+1) (solo (G (Frame.enter C.prog f args .normal) []) W) #[]=(.ended o w',t')∧runN C.prog M (solo (G (Frame.enter C.prog f args .normal) []) W)=.next last ∧
     step C.prog last=.ended o w'∧Conc.Good C.prog (fun v W'=>s.post enc C.prog fn false true false false W args v W') last o w' t') :
 ReturnsInLeavingWide a C os f .any (fun w args=>(s.pre enc C.prog fn [] false w args∧X w args)∧sizedMet enc C.prog fn (OpenSpec.ofChange s) false w args) (s.post enc C.prog fn false true false false):=by
 refine returnsInLeavingWide_of_good own started wit ?_
 intro w tape i _ _ _ hok hpre _
 obtain ⟨_,_,_,fn',hfn',_,_,_,_,hval⟩:=hok
 have e:fn'=fn:=Option.some.inj (hfn'.symm.trans hfn)
 subst e
 obtain ⟨⟨⟨ds,gs,before,hw,hc⟩,hx⟩,hz⟩:=hpre
 have hw':=DataW.Whole.of_heap (w':=w.forCall tape i) (by rfl) hw
 obtain ⟨M,last,o,w',t',h1,h2,h3,h4⟩:=runs (w.forCall tape i) w.heap.size i.args ds gs before hval hw' (hz.weights hw) (hX _ _ _ (by rfl) hx)
 exact ⟨M,last,o,w',t',h1,h2,h3,h4.mono fun v hp=>ChangeSpec.post_blind hp⟩
end
theorem fieldT0:(Tryd.prog.globals[0]?).map (·.type)=some 108:=by kernel_rfl
theorem fieldT1:(Tryd.prog.globals[1]?).map (·.type)=some 108:=by kernel_rfl
theorem fieldT2:(Tryd.prog.globals[2]?).map (·.type)=some 108:=by kernel_rfl
theorem cells108:Tryd.prog.cellsOf 108=2:=by kernel_rfl
theorem field_open {w:World}{fuel:Nat}{cs:List Value}{x y:Int}{p:List MemPlace}(h:DataW.trod (fun _=>()) Tryd.prog w 0 (fun _=>true) false fuel 108 cs=some (.agg [.lit (.int .i64 x),.lit (.int .i64 y)],p)):cs=[I x,I y]:=by
 obtain ⟨xs,k,hk,hxy,hl,hxl,hf⟩:=DataW.trod_struct Tryd.underlying108 h
 rw[cells108] at hl
 match xs,hxl,cs,hl with
 | [y0,y1],_,[c0,c1],_ =>
  have g0:=hf 0 _ rfl
  have g1:=hf 1 _ rfl
  simp[op_cells3] at g0 g1
  obtain ⟨a0,e0,f0,_⟩:=DataW.trod_int Tryd.underlying3 g0
  obtain ⟨a1,e1,f1,_⟩:=DataW.trod_int Tryd.underlying3 g1
  simp at e0 e1
  subst e0 e1 f0 f1
  simp at hxy
  obtain ⟨⟨rfl,rfl⟩,_⟩:=hxy
  rfl
theorem var_row {w:World}{n:String}{g:Nat}{cs:Array Value}(hg:Tryd.prog.globalNamed n=some g) (h:w.var? Tryd.prog n=some cs):∃ t f,w.heap[g]? = some (.cells cs t f):=by
 simp only[World.var?,hg,Option.bind_some] at h
 split at h
 ·rename_i c t f e
  cases h
  exact ⟨t,f,e⟩
 ·cases h
abbrev laidC : List (String × DataW Unit) := [("butler/kept.fieldState", Rows.laid_butler_kept_fieldState), ("butler/kept.fieldWho", Rows.laid_butler_kept_fieldWho), ("butler/kept.fieldCode", Rows.laid_butler_kept_fieldCode)]
theorem gS : Tryd.prog.globalNamed "butler/kept.fieldState" = some 0 := by kernel_rfl
theorem gC : Tryd.prog.globalNamed "butler/kept.fieldCode" = some 1 := by kernel_rfl
theorem gW : Tryd.prog.globalNamed "butler/kept.fieldWho" = some 2 := by kernel_rfl
theorem gl_laid {W:World}(h:laidMetH Tryd.prog laidC W):Gl W:=by
 have h':laidMet Tryd.prog laidC W:=h
 obtain ⟨ps,hv,_,_⟩:=h'
 obtain ⟨g,t,cs,fuel,p,q,e1,e2,e3,e4,hr,rfl⟩:=hv
 obtain ⟨g',t',cs',fuel',p',q',k1,k2,k3,k4,hr',rfl⟩:=hr
 obtain ⟨g'',t'',cs'',fuel'',p'',q'',l1,l2,l3,l4,hr'',rfl⟩:=hr'
 obtain rfl:=Option.some.inj (gS.symm.trans e1)
 obtain rfl:=Option.some.inj (gW.symm.trans k1)
 obtain rfl:=Option.some.inj (gC.symm.trans l1)
 obtain rfl:=Option.some.inj (fieldT0.symm.trans e2)
 obtain rfl:=Option.some.inj (fieldT2.symm.trans k2)
 obtain rfl:=Option.some.inj (fieldT1.symm.trans l2)
 have f1:=field_open e4
 have f2:=field_open k4
 have f3:=field_open l4
 obtain ⟨ty,fz,r1⟩:=var_row gS e3
 obtain ⟨ty',fz',r2⟩:=var_row gW k3
 obtain ⟨ty'',fz'',r3⟩:=var_row gC l3
 have c1:cs=#[I 0,I 2]:=by rw[←f1]
 have c2:cs'=#[I 2,I 8]:=by rw[←f2]
 have c3:cs''=#[I 10,I 20]:=by rw[←f3]
 subst c1 c2 c3
 exact ⟨⟨_,_,_,r1,rfl,rfl⟩,⟨_,_,_,r3,rfl,rfl⟩,⟨_,_,_,r2,rfl,rfl⟩⟩
noncomputable def laidW4 (os:Os):World:=World.laidAll Tryd.prog os laidC
theorem laidW4_met (os:Os) (args:Array Value):laidMetH Tryd.prog laidC ((laidW4 os).forCall (fun _ _=>0) ⟨#[],args,[]⟩).memory:=laidMet_laidAll (laid:=laidC) args (by kernel_rfl) (by kernel_rfl)
theorem onceLinear_lifted (os:Os) (started:os.Started) (H:Type) (enc:TypeId×Value->H) :
 ReturnsInLeavingWide {} Tryd.checked os 4 .any (fun w args=>(Rows.onceLinearSpec.pre enc Tryd.prog Tryd.f4 [] false w args∧laidMetH Tryd.prog laidC w)∧sizedMet enc Tryd.prog Tryd.f4 (OpenSpec.ofChange Rows.onceLinearSpec) false w args) (Rows.onceLinearSpec.post enc Tryd.prog Tryd.f4 false true false false):=by
 refine leaving_and (C:=Tryd.checked) (X:=fun w _=>laidMetH Tryd.prog laidC w) (fun _ _ _ hh h=>laidMet.of_heap (l:=laidC) hh h) op_knob started Tryd.func4
  (ChangeSpec.witness_at (enc:=enc) (C:=Tryd.checked) (os:=os) (X:=fun w _=>laidMetH Tryd.prog laidC w) false (laidW4 os) #[.slice none 0 0,.int .i64 0,.slice none 0 0] 8 (World.laidAll_os _ _ _) (by kernel_rfl) (by kernel_rfl) (by kernel_rfl) (by kernel_rfl) (by kernel_rfl) (laidW4_met os _)) ?_
 intro W base args ds gs before hval0 hW hsz0 hL
 have hval:∀ (j:Nat) t v,Tryd.f4.params[j]? = some t->args[j]? = some v->Value.okWide Tryd.prog W .any base t v:=hval0
 have hW':=hW
 obtain ⟨p,q,hA0,hV,rfl,_,_⟩:=hW
 have hA:DataW.TrodAll enc Tryd.prog W 0 (fun _=>true) true Tryd.f4.params.toList args.toList ds p:=hA0
 have hsz:(DataW.weightsEach Tryd.prog (Tryd.f4.params.toList++Rows.onceLinearSpec.plain.varTypes Tryd.prog) (ds++gs)).all (·≤reachBytes)=true:=hsz0
 rw[Tryd.params4] at hA hval hsz
 obtain ⟨v0,vs0,d0,ds0,p0,q0,hargs,rfl,rfl,h0,r0⟩:=trodAll_cons hA
 obtain ⟨v1,vs1,d1,ds1,p1,q1,rfl,rfl,rfl,h1,r1⟩:=trodAll_cons r0
 obtain ⟨v2,vs2,d2,ds2,p2,q2,rfl,rfl,rfl,h2,r2⟩:=trodAll_cons r1
 obtain ⟨rfl,rfl,rfl⟩:=trodAll_nil r2
 obtain rfl:args=#[v0,v1,v2]:=by cases args;simp_all
 obtain ⟨rfl,rfl⟩:=trodVars_none hV
 have k0:=h0
 have k1:=h1
 have k2:=h2
 have lt0:∀ x∈p0,x.block<W.heap.size:=by obtain ⟨m,hm⟩:=k0;exact DataW.trod_lt m _ _ _ hm
 have lt1:∀ x∈p1,x.block<W.heap.size:=by obtain ⟨m,hm⟩:=k1;exact DataW.trod_lt m _ _ _ hm
 have lt2:∀ x∈p2,x.block<W.heap.size:=by obtain ⟨m,hm⟩:=k2;exact DataW.trod_lt m _ _ _ hm
 obtain ⟨sp,scap,sb,so,sched,e0,hS⟩:=ints_in (hval 0 22 v0 rfl rfl) h0 (fun el sp e=>sized_slice hsz (j:=0) rfl (by rw[e];rfl) Tryd.underlying22)
 obtain ⟨x0,hx0,j1,j2,j3⟩:=open_int Tryd.underlying3 (hval 1 3 v1 rfl rfl) h1
 obtain ⟨cp0,b,o,n,cap,pc,ln,cp,rb,cl,e2,hC⟩:=scripts_in (hval 2 23 v2 rfl rfl) h2 (fun el sp e=>sized_slice hsz (j:=2) rfl (by rw[e];rfl) Tryd.underlying23)
 clear hA0 hval0 hsz0
 subst e0 hx0 e2
 simp only[List.append_nil] at hW'
 obtain ⟨M,last,o',w',t',g1,g2,g3,g4⟩:=run4 (scap:=scap) (cap:=cap) W (gl_laid hL) x0 hS hC
 refine ⟨M,last,o',w',t',g1,g2,g3,g4.mono fun v hF=>?_⟩
 obtain ⟨rfl,bel⟩:PostT W v w':=hF
 exact ⟨_,_,_,[],_,[],hW',trodAll_mk1 (shut_bool Tryd.underlying4 _),
  (trodAll_cons_mk (grows_trod (by kernel_rfl) (of_decide_eq_true (by kernel_rfl)) k0 bel lt0)
  (trodAll_cons_mk (grows_trod (by kernel_rfl) (of_decide_eq_true (by kernel_rfl)) k1 bel lt1)
  (trodAll_cons_mk (grows_trod (by kernel_rfl) (of_decide_eq_true (by kernel_rfl)) k2 bel lt2) trodAll_mk0))),rfl,grows_frame bel _,fun h=>by cases h⟩
theorem onceLinear_holds:Rows.OnceLinearSaid :=
 OpenClaim.holds_of_wide_leaving 4 Tryd.f4 rfl rfl rfl rfl rfl rfl rfl ⟨rfl,rfl,rfl,rfl,rfl⟩ rfl rfl rfl rfl rfl (by kernel_rfl) Tryd.func4 (by kernel_rfl)
  (of_decide_eq_true (by kernel_rfl)) (by unfold Func.isWrapper;first|(rw[if_pos (by decide +kernel)];kernel_rfl)|(rw[if_neg (by decide +kernel)];exact ⟨rfl,rfl⟩))
  (fun os started H enc _=>onceLinear_lifted os started H enc)
end Go.Proofs.YtaofjdoielmobaaDoor
namespace Go.Proofs.YtaofjdoielmobaaDoor
open Go
theorem card_goes4 {p:Pinned}{s:OpenSpec}{c:OpenClaim}{kinds:List LaidKind}{tests:Bool}{har:Bool×String}{lk:Bool}(Lk:Looks)
 (hc:c.holds p s) (hw:c.wfByText s=true) (htie:c.laidByTextAt Lk p kinds tests)
 (hst:c.start=.entering) (hnb:c.noBlocks=false∧c.again=false) (hm:p.checked.prog.mainIs=some (har.1,har.2.toList)) (hn:(!har.1&&har.2.isEmpty&&!lk)=false)
 (hl:∀ f fn,p.checked.prog.funcNamed c.func=some f->p.checked.prog.funcs[f]? = some fn->lk=p.checked.prog.looks []∧∀ (j:Nat) t,fn.params[j]? = some t->p.checked.prog.wantsStandIn t=false)
 (hg:true=c.goesBy p.checked.prog) :
 Claim7.holds p (.plain s) { stood:={ row:=c,standIns:=[],harness:=har,looks:=lk },kinds:=[],alts:=[],goes:=true,laidByText:=true,laidKinds:=kinds,laidTests:=tests,laidLooks:=Lk }:=by
 have h6:Claim7.isSixth { stood:={ row:=c,standIns:=[],harness:=har,looks:=lk },kinds:=[] }=false:=by simpa [Claim7.isSixth] using hn
 have h1:=Claim7.new_of_sixth hc har lk hst hnb hm h6 hl
 obtain ⟨_,rest⟩:=h1
 exact ⟨⟨hw,rest⟩,fun D hD=>(by cases hD),htie,(fun h=>by cases h),hg⟩
theorem onceLinear_card:Rows.OnceLinearCardSaid :=
 card_goes4 .later onceLinear_holds (by kernel_rfl) onceLinear_row_tie rfl ⟨rfl,rfl⟩ (by kernel_rfl) rfl
  (fun f fn hf hfn=>by
    obtain rfl : f = 4 := Option.some.inj ((show Tryd.prog.funcNamed "butler/butlerlaw07.OnceLinear" = some 4 by kernel_rfl).symm.trans hf) |>.symm
    obtain rfl:fn=Tryd.f4:=(Option.some.inj (Tryd.func4.symm.trans hfn)).symm
    exact ⟨by kernel_rfl,fun j t ht=>by
     rw[Tryd.params4] at ht
     have hm:t∈[22,3,23]:=by simpa using Array.mem_of_getElem? ht
     have hall:([22,3,23].all fun u=>!Tryd.prog.wantsStandIn u)=true:=by kernel_rfl
     exact (show Tryd.prog.wantsStandIn t=false by simpa using List.all_eq_true.1 hall t hm)⟩)
  (by kernel_rfl)
#print axioms onceLinear_card
end Go.Proofs.YtaofjdoielmobaaDoor
