/- StackLinear, part 17 of 32: R3RefLin, R3ExplA. -/
import Derived.Test.YtbbhahigofeacaaDoorStackLinear01
import Derived.Test.YtbbhahigofeacaaDoorStackLinear11
import Derived.Test.YtbbhahigofeacaaDoorStackLinear13
import Derived.Test.YtbbhahigofeacaaDoorStackLinear16
set_option linter.unusedSimpArgs false
set_option linter.unusedVariables false
set_option maxHeartbeats 4000000
set_option maxRecDepth 100000
noncomputable section
namespace Go.Proofs.YtbbhahigofeacaaDoor.R3
open Go.RowKit Go.Proofs.YtbbhahigofeacaaDoor.His Go.Deep Go.Maps
variable {w:World} {ob st:Int}
theorem left_none (n:Nat):left 0 n=n:=by
 induction n with
 |zero=>rfl
 |succ n ih=>rw[left_no (by simp),ih]
theorem met_first {base:Nat}{lv:Value}{N:Nat}(hb:base<=w.heap.size) (W:World) (hW:W=(w.alloc (.cells (madeCells #[Value.slice none 0 0] N) 137)).alloc (.cells #[I ob,I st,lv,.slice (some ⟨w.heap.size,0,none⟩) N N] 108)):
 Met W base (w.heap.size+1) w.heap.size lv ob st N (λ_=>[]):=by
 subst hW;have hs:(w.alloc (.cells (madeCells #[Value.slice none 0 0] N) 137)).heap.size=w.heap.size+1:=by simp
 have hn:∀ j v,#[I ob,I st,lv,Value.slice (some ⟨w.heap.size,0,none⟩) N N][j]? = some v->((w.alloc (.cells (madeCells #[Value.slice none 0 0] N) 137)).alloc (.cells #[I ob,I st,lv,.slice (some ⟨w.heap.size,0,none⟩) N N] 108)).cell? ⟨w.heap.size+1,j,none⟩=some v:=λj v hj=>by rw[<-hs];have:=heap_alloc_new (w.alloc (.cells (madeCells #[Value.slice none 0 0] N) 137)) (.cells #[I ob,I st,lv,.slice (some ⟨w.heap.size,0,none⟩) N N] 108);simp only[World.cell?,this];simpa using hj
 refine ⟨hn 0 _ rfl,hn 1 _ rfl,hn 2 _ rfl,hn 3 _ rfl,hb,λ_=>.slice none 0 0,?_,λm _=>⟨⟨[],.inl ⟨rfl,rfl⟩,rfl,λi t h=>by simp at h⟩,λm' _ _ g hg=>nomatch hg⟩⟩;refine ⟨madeCells #[Value.slice none 0 0] N,?_,by simp[madeCells],λi hi=>?_⟩
 .rw[Below.heap_alloc _ _ _ (by simp)]
  exact heap_alloc_new w _
 simp[madeCells,hi,Nat.mod_one]
theorem info132:(Tryd.prog.info? 137).map (λi=>(i.zero,i.size,i.bytes))=some (some (.slice none 0 0),1,24):=by kernel_rfl
theorem make_met (n:Nat) (hn:n<=4096) (w:World):
 (Instr.makeSlice 106 (.int .i64 (n:Int)) (.int .i64 (n:Int))).run Tryd.prog w=.ok (.slice (some ⟨w.heap.size,0,none⟩) n n) (w.alloc (.cells (madeCells #[.slice none 0 0] n) 137)):=by
 cases hq:Tryd.prog.info? 137 with
 |none=>have:=info132;rw[hq] at this;cases this
 |some i =>have hi:=info132;rw[hq] at hi;simp only[Option.map_some,Option.some.injEq,Prod.mk.injEq] at hi;obtain ⟨hz,hs,hb⟩:=hi;have:=run_make (P:=Tryd.prog) w 106 137 i _ Tryd.underlying106 hq hz .i64 .i64 (n:Int) (n:Int) (by omega) (by omega) (by rw[hb];omega) (by omega);rw[hs] at this;rw[this];simp[Value.cells]
theorem starts_tests (h:Iw ob st):decide (ob<1)=false∧decide (ob > 5)=false ∧
 (((ob==2)=false∧(ob==4)=false∧(ob==5)=false)∨((ob==2)=true∧(st != 0)=false∧(ob==4)=false∧(ob==5)=false)∨((ob==2)=false∧(ob==4)=true∧decide (st<0)=false∧(ob==5)=false) ∨
   ((ob==2)=false∧(ob==4)=false∧(ob==5)=true∧decide (st<1)=false∧decide (st > 1000)=false)):=by
 rcases h with rfl|rfl|⟨rfl,rfl⟩|⟨rfl,h⟩|⟨rfl,h1,h2⟩
 simp;simp;simp;refine ⟨by simp,by simp,.inr (.inr (.inl ⟨by simp,by simp,by simp;omega,by simp⟩))⟩;refine ⟨by simp,by simp,.inr (.inr (.inr ⟨by simp,by simp,by simp,by simp;omega,by simp;omega⟩))⟩
theorem not_starts_tests (h:¬ Iw ob st):decide (ob<1)=true∨(decide (ob<1)=false∧decide (ob > 5)=true)∨(decide (ob<1)=false∧decide (ob > 5)=false ∧
 (((ob==2)=true∧(st != 0)=true)∨((ob==2)=false∧(ob==4)=true∧decide (st<0)=true) ∨
   ((ob==2)=false∧(ob==4)=false∧(ob==5)=true∧decide (st<1)=true)∨((ob==2)=false∧(ob==4)=false∧(ob==5)=true∧decide (st<1)=false∧decide (st > 1000)=true))):=by
 unfold Iw at h;by_cases h1:ob<1;exact .inl (by simpa using h1)
 .by_cases h2:ob > 5
  exact .inr (.inl ⟨by simpa using h1,by simpa using h2⟩)
  .refine .inr (.inr ⟨by simpa using h1,by simpa using h2,?_⟩)
   have:ob=2∨ob=4∨ob=5:=by omega
   rcases this with rfl|rfl|rfl;exact .inl ⟨by simp,by simp;omega⟩;exact .inr (.inl ⟨by simp,by simp,by simp;omega⟩)
   .by_cases h3:st<1
    exact .inr (.inr (.inl ⟨by simp,by simp,by simp,by simpa using h3⟩));exact .inr (.inr (.inr ⟨by simp,by simp,by simp,by simpa using h3,by simp;omega⟩))
theorem rlinear_any (ob st:Int) (hWC:WaysC ob st) (v:Value) (l:List Ev) (w:World) (hE:Evs w v l):
 Calls Tryd.prog 35 #[I ob,I st,v] w λe w'=>(∃ b c,e=.returned (.tuple #[.bool b,I c])∧LinOut ob st l b c)∧Below w.heap.size w w':=by
 have HWC:Hid (WaysC ob st):=hWC;clear hWC;have HE:Hid (Evs w v l):=hE;obtain ⟨p,cap,rfl,hcap,hmax,_⟩:=hE;unfold maxLen at hmax;by_cases hS:Iw ob st
 .have HS:Hid (Iw ob st):=hS
  obtain ⟨t1,t2,ht⟩:=starts_tests hS;clear hS;by_cases h12:l.length<=12
  .by_cases hh:Hist l
   .have HH:Hid (Hist l):=hh
    have hw:IntKind.i64.wrap ((2:Int) ^ l.length)=((2 ^ l.length:Nat):Int):=by
     have e2:((2:Int) ^ l.length)=((2 ^ l.length:Nat):Int):=by push_cast;rfl
     have e3:2 ^ l.length<=2 ^ 12:=Nat.pow_le_pow_right (by omega) h12;rw[e2,IntKind.wrap_i64];generalize 2 ^ l.length=z at e3;omega
    have hN4:2 ^ l.length<=4096:=Nat.pow_le_pow_right (by omega) h12;obtain ⟨N,hN⟩:∃ N,N=2 ^ l.length:=⟨_,rfl⟩
    have HN:Hid (N=2 ^ l.length):=hN;rw[<-hN] at hw hN4;have hmk:=make_met N hN4;clear hh hN;rcases ht with ⟨t3,t4,t5⟩|⟨t3,t4,t5,t6⟩|⟨t3,t4,t5,t6⟩|⟨t3,t4,t5,t6,t7⟩
    all_goals
     go_enter Tryd.func35,Tryd.ntmps35
     go_wp2_with fail;refine (rhistory_any _ l _ HE.out).mono ?_;rintro e w1 ⟨⟨b,rfl,hb⟩,hb1⟩;have hbt:b=true:=hb.2 HH.out;subst hbt;have HB1:Hid (Below w.heap.size w w1):=hb1;clear hb hb1;go_wp2_with fail;refine (first_any ob st HS.out _).mono ?_;rintro e w2 ⟨sv,rfl,hsi,hb2⟩;have HSI:Hid (SI w2 sv (Dq ob st)):=hsi;have HMET:Hid (Met w2 w.heap.size (w1.heap.size+1) w1.heap.size (.slice p l.length cap) ob st N (λ_=>[])):=(met_first HB1.out.size _ rfl).later hb2;have HB2:Hid (Below w.heap.size w w2):=A9 (Ae (Ae HB1.out _) _) hb2;clear hsi hb2;go_wp2_with fail;refine (goes_any ob st HWC.out l h12 w _ HE.out (w1.heap.size+1) w1.heap.size N HN.out l.length 0 (λ_=>[]) sv (Dq ob st) w2 (left_none _) (by rw[HN.out];exact Nat.two_pow_pos _) HB2.out HMET.out (λm _ t ht=>by simp at ht) (λm=>by simp) HSI.out (by rw[Nat.sub_self];exact stOk_first ob st)).mono ?_;rintro e w3 ⟨hb3,_,hor⟩;obtain ⟨b,rfl,hyes,hno⟩:=goesOut_bool hor;have HB3:Hid (Below w.heap.size w w3):=hb3;have hbl:b=true↔Lin (Bl ob st) (Dq ob st) l:=by
      rw[lin_iff HH.out];cases b with
      |true=>exact ⟨λ_=>hyes rfl,λ_=>rfl⟩
      |false=>exact ⟨λh=>(nomatch h),λh=>absurd h (hno rfl).1⟩
     have HBL:Hid (b=true↔Lin (Bl ob st) (Dq ob st) l):=hbl;clear hb3 hor hyes hno hbl;go_wp2_with fail
     go_ret2
     exact ⟨⟨b,0,rfl,.inr (.inr (.inr ⟨HS.out,h12,HH.out,rfl,HBL.out⟩))⟩,HB3.out⟩
   .have HH:Hid (¬ Hist l):=hh
    clear hh;rcases ht with ⟨t3,t4,t5⟩|⟨t3,t4,t5,t6⟩|⟨t3,t4,t5,t6⟩|⟨t3,t4,t5,t6,t7⟩
    all_goals
     go_enter Tryd.func35,Tryd.ntmps35
     go_wp2_with fail;refine (rhistory_any _ l _ HE.out).mono ?_;rintro e w1 ⟨⟨b,rfl,hb⟩,hb1⟩;have hbt:b=false:=by
      cases b with
      |false=>rfl
      |true=>exact absurd (hb.1 rfl) HH.out
     subst hbt;have HB1:Hid (Below w.heap.size w w1):=hb1;clear hb hb1;go_wp2_with fail
     go_ret2
     exact ⟨⟨false,30,rfl,.inr (.inr (.inl ⟨HS.out,h12,HH.out,rfl,rfl⟩))⟩,HB1.out⟩
  .have h12':12<l.length:=by omega
   rcases ht with ⟨t3,t4,t5⟩|⟨t3,t4,t5,t6⟩|⟨t3,t4,t5,t6⟩|⟨t3,t4,t5,t6,t7⟩
   all_goals
    go_enter Tryd.func35,Tryd.ntmps35
    go_wp2_with fail
    go_ret2
    first|exact ⟨⟨false,3,rfl,.inr (.inl ⟨HS.out,h12',rfl,rfl⟩)⟩,Below.refl _ _⟩|exact ⟨.inl ⟨3,rfl,.inr (.inl ⟨HS.out,h12',rfl,rfl⟩)⟩,Below.refl _ _⟩
 .have HS:Hid (¬ Iw ob st):=hS
  have ht:=not_starts_tests hS;clear hS;rcases ht with t1|⟨t1,t2⟩|⟨t1,t2,⟨t3,t4⟩|⟨t3,t4,t5⟩|⟨t3,t4,t5,t6⟩|⟨t3,t4,t5,t6,t7⟩⟩
  all_goals
   go_enter Tryd.func35,Tryd.ntmps35
   go_wp2_with fail
   go_ret2
   first|exact ⟨⟨false,1,rfl,.inl ⟨HS.out,rfl,rfl⟩⟩,Below.refl _ _⟩|exact ⟨.inl ⟨1,rfl,.inl ⟨HS.out,rfl,rfl⟩⟩,Below.refl _ _⟩
theorem evs_get:∀ (l:List Ev) (i:Nat),(l.flatMap evL)[i]? = (l[i / 8]?).bind λe=>(evL e)[i % 8]?
 | [],i=>by simp
 |e :: r,i=>by
  have hl:(evL e).length=8:=rfl;rw[List.flatMap_cons];by_cases hi:i<8
  .rw[Qn (by omega)]
   have h1:i / 8=0:=by omega
   have h2:i % 8=i:=by omega
   simp[h1,h2]
  .rw[List.getElem?_append_right (by omega),evs_get r,hl]
   have h1:i / 8=(i - 8) / 8+1:=by omega
   have h2:(i - 8) % 8=i % 8:=by omega
   rw[h1,h2];simp
theorem own_sl {base:Nat}{v:Value}{evs:List Ev}(h:w.ownsRow base 70 8 v evs.length (evs.flatMap evL)):SL 8 evL w v evs:=by
 rcases h.2 with ⟨rfl,h0⟩|⟨g,cap,cur,rfl,hb,hh,h1,h2,h3,h4⟩
 .have:evs=[]:=List.length_eq_zero_iff.1 h0
  subst this;exact ⟨none,0,rfl,Qi _,Nat.zero_le _,λi a hi=>by simp at hi⟩
 .refine ⟨_,cap,rfl,h1,h2,λi a hi=>⟨g,0,rfl,(Qb hh).1,λj u hj=>?_⟩⟩
  have hi':=(Qc hi).1;have hj8:j<8:=by have:=(Qc hj).1;simpa [evL] using this
  have hlt:i*8+j<evs.length*8:=by omega
  have hf:(evs.flatMap evL)[i*8+j]? = some u:=by
   rw[evs_get];have e1:(i*8+j) / 8=i:=by omega
   have e2:(i*8+j) % 8=j:=by omega
   rw[e1,e2,hi];exact hj
  rw[<-h4,List.getElem?_take_of_lt hlt] at hf;simp only[World.cell?,hh,Nat.zero_add];simpa using hf
theorem sl_evs {v:Value}{l:List Ev}(h:SL 8 evL w v l):Evs w v l:=by obtain ⟨p,cap,rfl,h1,h2,h3⟩:=h;refine ⟨p,cap,rfl,h1,h2,λi hi=>?_⟩;obtain ⟨blk,off,e,_,hr⟩:=h3 i _ (getD_some hi ev0);exact ⟨blk,off,e,hr⟩
end Go.Proofs.YtbbhahigofeacaaDoor.R3
