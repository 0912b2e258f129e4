/- StackLinear, part 30 of 32: StNn, StAw2, GRow, StAw3, StAw4. -/
import Derived.Test.YtbbhahigofeacaaDoorStackLinear01
import Derived.Test.YtbbhahigofeacaaDoorStackLinear04
import Derived.Test.YtbbhahigofeacaaDoorStackLinear09
import Derived.Test.YtbbhahigofeacaaDoorStackLinear10
import Derived.Test.YtbbhahigofeacaaDoorStackLinear25
import Derived.Test.YtbbhahigofeacaaDoorStackLinear26
import Derived.Test.YtbbhahigofeacaaDoorStackLinear29
import Derived.BigQuiet
import Derived.Conc.LeavingOf
import Derived.ProofKit
import Derived.OpenShut
import Derived.ChangeOld
import Derived.Lib.SmallJoins
import Derived.Deep.SlicePairs
set_option linter.unusedSimpArgs false
set_option linter.unusedVariables false
set_option maxHeartbeats 4000000
set_option maxRecDepth 100000
noncomputable section
namespace Go.Proofs.YtbbhahigofeacaaDoor.Gen
open Go Go.Lift Go.Conc Go.RowKit
open R1 (fstI verI hdI)
variable {B M b c rb s sb tb:Nat} {v w:World} {a:Act} {p:Option Addr} {Ch:Nat->Prop} {Stop:Goroutine->World->Prop} {main:Bool} {kb:List Nat} {h0 lk nx us vl:Int} {cs:List Frame}
structure ObjN (v:World) (S:TS) (xs:List Int) (pk:Nat->Option Obj) (S1:TS) (K:List (Nat×Int)) (u:World):Prop where
 size:v.heap.size<=u.heap.size
 has:Has pk u
 vals:K.map (·.2)=xs
 cels:∀ (j:Nat) (c:Nat×Int),K[j]? = some c->u.heap[c.1]? = some (.cells #[I 0,I c.2] 123 (0,0))∧v.heap.size<=c.1∧pk c.1=none
 nd:(K.map (·.1)).Nodup
 old:∀ b,b<v.heap.size->u.heap[b]? = v.heap[b]?
 os:u.os=v.os
 out:u.output=v.output
section
variable {v u u':World}{S S1:TS}{K:List (Nat×Int)}{xs:List Int}{pk:Nat->Option Obj}
theorem ObjN.lt (h:ObjN v S xs pk S1 K u) {o:Obj}(hb:pk b=some o):b<u.heap.size:=(Qb (h.has b o hb)).1
theorem ObjN.start (hpk:Has pk v):ObjN v S [] pk S1 [] v:=⟨Qi _,hpk,rfl,λj c h=>(by cases h),List.nodup_nil,λ_ _=>rfl,rfl,rfl⟩
theorem ObjN.grows (h:ObjN v S xs pk S1 K u) (g:Grows u u'):ObjN v S xs pk S1 K u':=by refine ⟨Qk h.size g.size,λb o hb=>by rw[g.old b (h.lt hb)];exact h.has b o hb,h.vals,λj c hc=>?_,h.nd,λb hb=>by rw[g.old b (by have:=h.size;omega)];exact h.old b hb,g.os.trans h.os,g.output.trans h.out⟩;have:=h.cels j c hc;exact ⟨by rw[g.old _ (Qb this.1).1];exact this.1,this.2⟩
theorem ObjN.same (h:ObjN v S xs pk S1 K u) (e:u'.heap=u.heap) (e1:u'.os=u.os) (e2:u'.output=u.output):ObjN v S xs pk S1 K u':=h.grows ⟨by rw[e];exact Qi _,λb _=>by rw[e],e1,e2⟩
theorem ObjN.push (h:ObjN v S xs pk S1 K u) {c:Array Value}{t:TypeId}(e:u'.heap=u.heap.push (.cells c t)) (e1:u'.os=u.os) (e2:u'.output=u.output):ObjN v S xs (padd pk u.heap.size (.cells c t)) S1 K u':=by
 have g:Grows u u':=⟨by rw[e];simp,λb hb=>by rw[e,Qg,if_neg (by omega)],e1,e2⟩
 have k:=h.grows g;refine ⟨k.size,λb o hb=>?_,k.vals,λj c' hc=>?_,k.nd,k.old,k.os,k.out⟩
 .by_cases hbu:b=u.heap.size
  .subst hbu
   rw[B7] at hb;cases hb;rw[e,Qo]
  rw[Av hbu] at hb;exact k.has b o hb
 .have q:=k.cels j c' hc
  have hlt:=(Qb (h.cels j c' hc).1).1;exact ⟨q.1,q.2.1,by rw[Av (by omega)];exact q.2.2⟩
theorem ObjN.set (h:ObjN v S xs pk S1 K u) {o o':Obj}(hb:pk b=some o) (hvb:v.heap.size<=b) (hw:∀ x,x≠b->u'.heap[x]? = u.heap[x]?) (hn:u'.heap[b]? = some o') (hs:u'.heap.size=u.heap.size) (e1:u'.os=u.os) (e2:u'.output=u.output) (hr:∃ c e f,o'=.cells c e f):ObjN v S xs (padd pk b o') S1 K u':=by
 refine ⟨by rw[hs];exact h.size,λx y hx=>?_,h.vals,λj c hc=>?_,h.nd,λx hx=>by rw[hw x (by omega)];exact h.old x hx,e1.trans h.os,e2.trans h.out⟩
 .by_cases e:x=b
  subst e;rw[B7] at hx;cases hx;exact hn;rw[Av e] at hx;rw[hw x e];exact h.has x y hx
 .have q:=h.cels j c hc
  have hne:c.1≠b:=λe=>by rw[e,hb] at q;cases q.2.2
  exact ⟨by rw[hw _ hne];exact q.1,q.2.1,by rw[Av hne];exact q.2.2⟩
theorem ObjN.cell (h:ObjN v S xs pk S1 K u) (x:Int) (hl:xs.length<=1000000):Calls Tryd.prog 41 #[.pointer none,I x] u (λe w'=>∃ cb,e=.returned (Pt cb 0)∧u.heap.size<=w'.heap.size∧∃ S2,ObjN v S (xs++[x]) pk S2 (K++[(cb,x)]) w'):=by
 refine ((body10n u x).calls Tryd.func41 rfl).mono ?_;rintro e w1 ⟨_,rfl,rfl,q1,q2,q3⟩;have g:Grows u w1:=⟨by rw[q1];simp,λb hb=>by rw[q1,Qg,if_neg (by omega)],q2,q3⟩
 have k:=h.grows g;refine ⟨u.heap.size,rfl,g.size,S1,k.size,k.has,by rw[List.map_append,k.vals];rfl,λj c hc=>?_,?_,k.old,k.os,k.out⟩
 .rw[List.getElem?_append] at hc
  split at hc;exact k.cels j c hc
  .have e0:j - K.length=0:=by rcases Nat.eq_zero_or_pos (j - K.length) with h0|h0;exact h0;rw[List.getElem?_eq_none (by simp;omega)] at hc;cases hc
   rw[e0] at hc;cases hc;refine ⟨by rw[q1,Qo],h.size,?_⟩;cases hp:pk u.heap.size with
   |none=>rfl
   |some o=>exact absurd (h.lt hp) (by omega)
 .rw[List.map_append,List.nodup_append]
  refine ⟨k.nd,by simp,λa ha b hb=>?_⟩;simp only[List.map_cons,List.map_nil,List.mem_cons,List.not_mem_nil,or_false] at hb;subst hb;obtain ⟨c,hc,rfl⟩:=List.mem_map.1 ha;obtain ⟨j,hj⟩:=List.mem_iff_getElem?.1 hc;have:=(Qb (h.cels j c hj).1).1;omega
end
theorem slotsNewN {u:World}{S S1:TS}{pk:Nat->Option Obj}(hO:ObjN v S [] pk S1 [] u) (hF:R1.Flds u) (n:Nat) (hn:n<=1000):Body Tryd.f24 #[.pointer none,I n] u (λr u'=>r=Pt (u.heap.size+1) 0∧∃ S2 K pk',ObjN v S (nxs n n) pk' S2 K u'∧SlN pk pk' n (u.heap.size+1) u.heap.size K):=by
 intro code hb;obtain rfl:=Qd hb;clear hb;have hmk:=make_slots n (by omega);rw[made_rowC n 1 94 [] (by simp)] at hmk;have hmx:(Builtin.max_ #[3,3] 3 #[I n,I 0])=pure (I n):=by show (pure (Value.int .i64 (if (0:Int) > n then 0 else n)):Sem Value)=_;rw[if_neg (by omega)]
 have hmn:(Builtin.min_ #[3,3] 3 #[I n,I 1000])=pure (I n):=by show (pure (Value.int .i64 (if (1000:Int)<n then 1000 else n)):Sem Value)=_;rw[if_neg (by omega)]
 have huv:v.heap.size<=u.heap.size:=hO.size;have HUV:Hid (v.heap.size<=u.heap.size):=⟨huv⟩
 have HN:Hid (n<=1000):=⟨hn⟩
 have HF:Hid (R1.Flds u):=⟨hF⟩
 have o1:=hO.push (u':=u.alloc (objC n 1 94 [])) (c:=(rowC (2*n) 1 []).toArray) (t:=94) rfl rfl rfl;have o2:=o1.push (u':=(u.alloc (objC n 1 94 [])).alloc (.cells #[.pointer none,.slice (some ⟨u.heap.size,0,none⟩) n n] 91)) (c:=#[.pointer none,.slice (some ⟨u.heap.size,0,none⟩) n n]) (t:=91) rfl rfl rfl;have hsz:(u.alloc (objC n 1 94 [])).heap.size=u.heap.size+1:=by simp
 rw[hsz] at o2;have HO:Hid _:=⟨o2⟩
 have HP:Hid (∀ b o,pk b=some o->b<u.heap.size):=⟨λb o hb=>hO.lt hb⟩
 clear hO o1 o2 hF huv hn;simp only[Tryd.ntmps24,Sz,Nat.reduceAdd,Nat.reduceSub,Sy]
 go_wp2_with (first
  |(go_at_call 43;refine (behind0_any n HN.out _).mono ?_;rintro e w1 ⟨rfl,rfl⟩))
 refine ((R1.shead_any (bh 0 n) 0 _ (HF.out.below (((Below.refl _ _).alloc (Qi _) _).alloc (by simp) _))).calls Tryd.func42 rfl).mono ?_;rintro e u3 ⟨r,rfl,rfl,hb3⟩;have HO3:Hid _:=⟨HO.out.grows (Dv hb3)⟩
 clear hb3 HF HO hmk hmx hmn;have hlt0:=HP.out;generalize hNN:u.heap.size=N at *
 go_wp2_with (first
  |(go_at_call 41;refine (HO3.out.cell (hdI (bh 0 n) 0) (by simp)).mono ?_;rintro e w4 ⟨c0,rfl,hs4,S2,o4⟩
    have HO4:Hid _:=⟨o4⟩
    have hB:=o4.has (N+1) _ (B7 _ _ _);have c5:w4.cell? ⟨N+1,0,none⟩=some (.pointer none):=cell_of hB rfl;have c6:w4.frozen? ⟨N+1,0,none⟩=false:=by simp[World.frozen?,hB]
    have c7:w4.cell? ⟨N+1,1,none⟩=some (.slice (some ⟨N,0,none⟩) n n):=cell_of hB rfl;have HB:Hid (w4.heap[N+1]? = _):=⟨hB⟩
    clear o4 hB HO3))
 go_loopw [27] (λi u'=>∃ (k:Nat) (K:List (Nat×Int)) (S1':TS) (pk':Nat->Option Obj),k<=n∧i=.int .i64 k∧K.length=1+2*k∧ObjN v S (nxs n k) pk' S1' K u'∧SlN pk pk' n (N+1) N K) (λi _=>n - (intOf i).toNat)
 case atStart =>
  refine ⟨0,[(c0,hdI (bh 0 n) 0)],S2,_,Nat.zero_le _,rfl,rfl,HO4.out.set (b:=N+1) (o':=.cells #[Pt c0 0,.slice (some ⟨N,0,none⟩) n n] 91 (0,0)) (B7 _ _ _) (by have:=HUV.out;omega) (λx hx=>Below.heap_setCell _ _ _ _ hx) ?_ (by simp[World.setCell]) rfl rfl ⟨_,_,_,rfl⟩,?_⟩
  .have:=heap_setCell_same (o:=0) HB.out (Pt c0 0)
   simpa using this
  .refine ⟨λb o hb=>?_,⟨_,rfl,B7 _ _ _⟩,?_⟩
   .have:=hlt0 b o hb
    rw[Av (by omega),Av (by omega),Av (by omega)];exact hb
   .rw[Av (by omega),Av (by omega),B7]
    rw[objC_none (K:=[(c0,hdI (bh 0 n) 0)]) (by simp)];rfl
 case round =>
  obtain ⟨k,K,S1',pk',hk,rfl,hK,hO,hS⟩:=hrel;have HOB:Hid (ObjN v S (nxs n k) pk' S1' K wr):=⟨hO⟩
  have HS:Hid (SlN pk pk' n (N+1) N K):=⟨hS⟩
  obtain ⟨cc,hcc,hbox⟩:=hS.box;have hB:=hO.has (N+1) _ hbox;have c1:wr.cell? ⟨N+1,1,none⟩=some (.slice (some ⟨N,0,none⟩) n n):=cell_of hB rfl;clear HO4 HB c5 c6 c7 hO hS hB;have HBX:Hid (pk' (N+1)=_):=⟨hbox⟩
  clear hbox;by_cases hlt:k<n
  .have hks:(k:Int)<(n:Int):=by omega
   go_wp2_with fail
   go_region_held3 (λu=>u.cell? ⟨N+1,1,none⟩=some (.slice (some ⟨N,0,none⟩) n n))
    (first|assumption|(simp[go_sem, *];done))
    (first
      |(go_at_call 43;refine (behind_any k n (by have:=HN.out;omega) HN.out _).mono ?_;rintro e w1 ⟨rfl,rfl⟩)
      |(go_at_call 41;refine ((HOB.out.same (u':=wr.drew) rfl rfl rfl).cell (bh (k+1) n) (by rw[Fb];have:=HN.out;omega)).mono ?_;rintro e w1 ⟨cb,rfl,hs1,S2,o2⟩
        have HO2:Hid (ObjN v S (nxs n k++[bh (k+1) n]) pk' S2 (K++[(cb,bh (k+1) n)]) w1):=⟨o2⟩
        have hN:=o2.has N _ HS.out.row;have c2:w1.cell? ⟨N+1,1,none⟩=some (.slice (some ⟨N,0,none⟩) n n):=cell_of (o2.has (N+1) _ HBX.out) rfl;obtain ⟨c3,c4⟩:=Ju (j:=k*2) hN (by omega) (by omega);have HN1:Hid (w1.heap[N]? = some (objC n 1 94 K)):=⟨hN⟩
        clear o2 hN))
   have O3:=HO2.out.set (b:=N) (o':=objC n 1 94 (K++[(cb,bh (k+1) n)])) (u':=w1.setCell ⟨N,k*2,none⟩ (.pointer (some ⟨cb,0,none⟩))) HS.out.row HUV.out (λx hx=>Below.heap_setCell _ _ _ _ hx) (Gq (j:=k*2) (cb,bh (k+1) n) HN1.out (by omega) (by omega)) (by simp[World.setCell]) rfl rfl ⟨_,_,_,rfl⟩;have HO3:Hid _:=⟨O3⟩
   clear O3 HO2 HN1 c2 c3 c4 hs1;generalize hW:w1.setCell ⟨N,k*2,none⟩ (.pointer (some ⟨cb,0,none⟩))=W at *;have hLK:(K++[(cb,bh (k+1) n)]).length=1+(k*2+1):=by rw[Qj,hK];simp;omega
   go_wp2_with fail
   go_region_held3 (λu=>u.cell? ⟨N+1,1,none⟩=some (.slice (some ⟨N,0,none⟩) n n))
    (first|assumption|(simp[go_sem, *];done))
    (first
      |(go_at_call 41;refine ((HO3.out.same (u':=W.drew) rfl rfl rfl).cell 0 (by rw[Qj,Fb];have:=HN.out;simp;omega)).mono ?_;rintro e w2 ⟨cb2,rfl,hs2,S3,o2⟩
        have HO5:Hid _:=⟨o2⟩
        have hN:=o2.has N _ (B7 _ _ _);have c2:w2.cell? ⟨N+1,1,none⟩=some (.slice (some ⟨N,0,none⟩) n n):=cell_of (o2.has (N+1) _ (by rw[Av (by omega)];exact HBX.out)) rfl;obtain ⟨c3,c4⟩:=Ju (j:=k*2+1) hN hLK (by omega);have HN2:Hid (w2.heap[N]? = some (objC n 1 94 (K++[(cb,bh (k+1) n)]))):=⟨hN⟩
        clear o2 hN))
   have hn3:=HN.out;go_wp2_with fail
   go_roundw
   case rel =>
    have O6:=HO5.out.set (b:=N) (o':=objC n 1 94 (K++[(cb,bh (k+1) n)]++[(cb2,0)])) (u':=w2.setCell ⟨N,k*2+1,none⟩ (.pointer (some ⟨cb2,0,none⟩))) (B7 _ _ _) HUV.out (λx hx=>Below.heap_setCell _ _ _ _ hx) (Gq (j:=k*2+1) (cb2,0) HN2.out hLK (by omega)) (by simp[World.setCell]) rfl rfl ⟨_,_,_,rfl⟩;refine ⟨k+1,K++[(cb,bh (k+1) n)]++[(cb2,0)],S3,_,by omega,by go_num,by rw[Qj,hLK];simp;omega,O6,λb o hb=>?_,?_,B7 _ _ _⟩
    .have:=hlt0 b o hb
     rw[Av (by omega),Av (by omega)];exact HS.out.old b o hb
    .refine ⟨cc,?_,?_⟩
     rw[List.append_assoc,Qn (by omega)];exact hcc;rw[Av (by omega),Av (by omega)];exact HBX.out
   case measure=>simp[intOf];omega
  .have:k=n:=by omega
   subst this;go_wp2_with fail;go_ret;subst hNN;exact ⟨_,rfl,rfl,S1',K,pk',HOB.out,HS.out⟩
theorem stackNewN {S:TS}{pk:Nat->Option Obj}(hO:ObjN v S [] pk S [] v) (hF:R1.Flds v) (n:Nat) (hn:n<=1000):Body Tryd.f49 #[.pointer none,I n] v (λr u'=>r=Pt (v.heap.size+1) 0∧∃ S2 K pk',ObjN v S (sts n n) pk' S2 K u'∧StkN pk pk' n (v.heap.size+1) (v.heap.size+3) (v.heap.size+2) v.heap.size K):=by
 intro code hb;obtain rfl:=Qd hb;clear hb;have hmk:=make_places n (by omega);rw[made_rowC n (2*n+2) 134 [] (by simp)] at hmk;have hmx:(Builtin.max_ #[3,3] 3 #[I n,I 0])=pure (I n):=by show (pure (Value.int .i64 (if (0:Int) > n then 0 else n)):Sem Value)=_;rw[if_neg (by omega)]
 have hmn:(Builtin.min_ #[3,3] 3 #[I n,I 1000])=pure (I n):=by show (pure (Value.int .i64 (if (1000:Int)<n then 1000 else n)):Sem Value)=_;rw[if_neg (by omega)]
 have HN:Hid (n<=1000):=⟨hn⟩
 have o1:=hO.push (u':=v.alloc (objC n (2*n+2) 134 [])) (c:=(rowC (2*n) (2*n+2) []).toArray) (t:=134) rfl rfl rfl;have o2:=o1.push (u':=(v.alloc (objC n (2*n+2) 134 [])).alloc (.cells #[.pointer none,.pointer none,.slice (some ⟨v.heap.size,0,none⟩) n n] 132)) (c:=#[.pointer none,.pointer none,.slice (some ⟨v.heap.size,0,none⟩) n n]) (t:=132) rfl rfl rfl;have hsz:(v.alloc (objC n (2*n+2) 134 [])).heap.size=v.heap.size+1:=by simp
 rw[hsz] at o2;have h24:=(slotsNewN o2 (hF.below (((Below.refl _ _).alloc (Qi _) _).alloc (by simp) _)) n hn).calls Tryd.func24 rfl;rw[show ((v.alloc (objC n (2*n+2) 134 [])).alloc (.cells #[.pointer none,.pointer none,.slice (some ⟨v.heap.size,0,none⟩) n n] 132)).heap.size=v.heap.size+2 by simp] at h24;have H24:Hid _:=⟨h24⟩
 have HP:Hid (∀ b o,pk b=some o->b<v.heap.size):=⟨λb o hb=>hO.lt hb⟩
 clear hO o1 o2 hF hn h24;simp only[Tryd.ntmps49,Sz,Nat.reduceAdd,Nat.reduceSub,Sy];go_wp2_with fail;refine H24.out.mono ?_;rintro e u3 ⟨r,rfl,rfl,S3,K3,pk3,o3,hs3⟩;clear H24 hmk hmx hmn;have hlt0:=HP.out;have hNv:v.heap.size<=v.heap.size:=Qi _;generalize hNN:v.heap.size=N at *;have hbx:=hs3.old (N+1) _ (B7 _ _ _);have hrw:=hs3.old N _ (by rw[Av (by omega),B7]);have hK3:K3.length=1+2*n:=by have:=congrArg List.length o3.vals;rw[List.length_map,Fb] at this;exact this
 have hB:=o3.has (N+1) _ hbx;have c0:u3.cell? ⟨N+1,0,none⟩=some (.pointer none):=cell_of hB rfl;have c1:u3.frozen? ⟨N+1,0,none⟩=false:=by simp[World.frozen?,hB]
 have O4:=o3.set (b:=N+1) (o':=.cells #[Pt (N+3) 0,.pointer none,.slice (some ⟨N,0,none⟩) n n] 132 (0,0)) (u':=u3.setCell ⟨N+1,0,none⟩ (Pt (N+3) 0)) hbx (by omega) (λx hx=>Below.heap_setCell _ _ _ _ hx) (by have:=heap_setCell_same (o:=0) hB (Pt (N+3) 0);simpa using this) (by simp[World.setCell]) rfl rfl ⟨_,_,_,rfl⟩;have HO4:Hid _:=⟨O4⟩
 have HS3:Hid _:=⟨hs3⟩
 have HRW:Hid _:=⟨hrw⟩
 clear O4 o3 hs3 hbx hB hrw
 go_wp2_with (first
  |(go_at_call 41;refine (HO4.out.cell 0 (by rw[Fb];have:=HN.out;omega)).mono ?_;rintro e w4 ⟨hc,rfl,hs4,S4,o4⟩
    have HO5:Hid _:=⟨o4⟩
    have hB:=o4.has (N+1) _ (B7 _ _ _);have c5:w4.cell? ⟨N+1,1,none⟩=some (.pointer none):=cell_of hB rfl;have c6:w4.frozen? ⟨N+1,1,none⟩=false:=by simp[World.frozen?,hB]
    have c7:w4.cell? ⟨N+1,2,none⟩=some (.slice (some ⟨N,0,none⟩) n n):=cell_of hB rfl;have HB:Hid (w4.heap[N+1]? = _):=⟨hB⟩
    clear o4 hB HO4 c0 c1))
 go_loopw [30] (λi u'=>∃ (k:Nat) (K:List (Nat×Int)) (S1':TS) (pk':Nat->Option Obj),k<=n∧i=.int .i64 k∧K.length=2*n+2+2*k∧ObjN v S (sts n k) pk' S1' K u'∧StkN pk pk' n (N+1) (N+3) (N+2) N K) (λi _=>n - (intOf i).toNat)
 case atStart =>
  have hold:=HS3.out.old;obtain ⟨cz,hcz,hbz⟩:=HS3.out.box;refine ⟨0,K3++[(hc,0)],S4,_,Nat.zero_le _,rfl,by rw[Qj,hK3];simp;omega,HO5.out.set (b:=N+1) (o':=.cells #[Pt (N+3) 0,Pt hc 0,.slice (some ⟨N,0,none⟩) n n] 132 (0,0)) (B7 _ _ _) (by omega) (λx hx=>Below.heap_setCell _ _ _ _ hx) ?_ (by simp[World.setCell]) rfl rfl ⟨_,_,_,rfl⟩,?_⟩
  .have:=heap_setCell_same (o:=1) HB.out (Pt hc 0)
   simpa using this
  .refine ⟨λb o hb=>?_,⟨cz,?_,?_⟩,?_,⟨(hc,0),?_,B7 _ _ _⟩,?_⟩
   .have:=hlt0 b o hb
    rw[Av (by omega),Av (by omega)];refine hold b o ?_;rw[Av (by omega),Av (by omega)];exact hb
   rw[Qn (by omega)];exact hcz;rw[Av (by omega),Av (by omega)];exact hbz;rw[Av (by omega),Av (by omega),K6 _ (by omega)];exact HS3.out.row;rw[show 2*n+1=K3.length by omega];simp;rw[Av (by omega),Av (by omega),objC_none (by rw[Qj,hK3];simp;omega)];exact HRW.out
 case round =>
  obtain ⟨k,K,S1',pk',hk,rfl,hK,hO,hS⟩:=hrel;have HOB:Hid (ObjN v S (sts n k) pk' S1' K wr):=⟨hO⟩
  have HS:Hid (StkN pk pk' n (N+1) (N+3) (N+2) N K):=⟨hS⟩
  obtain ⟨cc,hcc,hbox⟩:=hS.box;have hB:=hO.has (N+1) _ hbox;have c1:wr.cell? ⟨N+1,2,none⟩=some (.slice (some ⟨N,0,none⟩) n n):=cell_of hB rfl;clear HO5 HB c5 c6 c7 hO hS hB HS3 HRW;have HBX:Hid (pk' (N+1)=_):=⟨hbox⟩
  clear hbox;by_cases hlt:k<n
  .have hks:(k:Int)<(n:Int):=by omega
   go_wp2_with fail
   go_region_held3 (λu=>u.cell? ⟨N+1,2,none⟩=some (.slice (some ⟨N,0,none⟩) n n))
    (first|assumption|(simp[go_sem, *];done))
    (first
      |(go_at_call 41;refine ((HOB.out.same (u':=wr.drew) rfl rfl rfl).cell 0 (by rw[G0];have:=HN.out;omega)).mono ?_;rintro e w1 ⟨cb,rfl,hs1,S2,o2⟩
        have HO2:Hid (ObjN v S (sts n k++[0]) pk' S2 (K++[(cb,0)]) w1):=⟨o2⟩
        have hN:=o2.has N _ HS.out.row;have c2:w1.cell? ⟨N+1,2,none⟩=some (.slice (some ⟨N,0,none⟩) n n):=cell_of (o2.has (N+1) _ HBX.out) rfl;obtain ⟨c3,c4⟩:=Ju (j:=k*2) hN (by omega) (by omega);have HN1:Hid (w1.heap[N]? = some (objC n (2*n+2) 134 K)):=⟨hN⟩
        clear o2 hN))
   have O3:=HO2.out.set (b:=N) (o':=objC n (2*n+2) 134 (K++[(cb,0)])) (u':=w1.setCell ⟨N,k*2,none⟩ (.pointer (some ⟨cb,0,none⟩))) HS.out.row (by omega) (λx hx=>Below.heap_setCell _ _ _ _ hx) (Gq (j:=k*2) (cb,0) HN1.out (by omega) (by omega)) (by simp[World.setCell]) rfl rfl ⟨_,_,_,rfl⟩;have HO3:Hid _:=⟨O3⟩
   clear O3 HO2 HN1 c2 c3 c4 hs1;generalize hW:w1.setCell ⟨N,k*2,none⟩ (.pointer (some ⟨cb,0,none⟩))=W at *;have hLK:(K++[(cb,(0:Int))]).length=2*n+2+(k*2+1):=by rw[Qj,hK];simp;omega
   go_wp2_with fail
   go_region_held3 (λu=>u.cell? ⟨N+1,2,none⟩=some (.slice (some ⟨N,0,none⟩) n n))
    (first|assumption|(simp[go_sem, *];done))
    (first
      |(go_at_call 41;refine ((HO3.out.same (u':=W.drew) rfl rfl rfl).cell 0 (by rw[Qj,G0];have:=HN.out;simp;omega)).mono ?_;rintro e w2 ⟨cb2,rfl,hs2,S3,o2⟩
        have HO5:Hid _:=⟨o2⟩
        have hN:=o2.has N _ (B7 _ _ _);have c2:w2.cell? ⟨N+1,2,none⟩=some (.slice (some ⟨N,0,none⟩) n n):=cell_of (o2.has (N+1) _ (by rw[Av (by omega)];exact HBX.out)) rfl;obtain ⟨c3,c4⟩:=Ju (j:=k*2+1) hN hLK (by omega);have HN2:Hid (w2.heap[N]? = some (objC n (2*n+2) 134 (K++[(cb,0)]))):=⟨hN⟩
        clear o2 hN))
   have hn3:=HN.out;go_wp2_with fail
   go_roundw
   case rel =>
    have O6:=HO5.out.set (b:=N) (o':=objC n (2*n+2) 134 (K++[(cb,0)]++[(cb2,0)])) (u':=w2.setCell ⟨N,k*2+1,none⟩ (.pointer (some ⟨cb2,0,none⟩))) (B7 _ _ _) (by omega) (λx hx=>Below.heap_setCell _ _ _ _ hx) (Gq (j:=k*2+1) (cb2,0) HN2.out hLK (by omega)) (by simp[World.setCell]) rfl rfl ⟨_,_,_,rfl⟩;obtain ⟨cz,hcz,hbz⟩:=HS.out.sbox;refine ⟨k+1,K++[(cb,0)]++[(cb2,0)],S3,_,by omega,by go_num,by rw[Qj,hLK];simp;omega,O6,λb o hb=>?_,⟨cz,?_,?_⟩,?_,⟨cc,?_,?_⟩,B7 _ _ _⟩
    .have:=hlt0 b o hb
     rw[Av (by omega),Av (by omega)];exact HS.out.old b o hb
    rw[List.append_assoc,Qn (by omega)];exact hcz;rw[Av (by omega),Av (by omega)];exact hbz;rw[Av (by omega),Av (by omega),K6 _ (by omega),K6 _ (by omega)];exact HS.out.srow;rw[List.append_assoc,Qn (by omega)];exact hcc;rw[Av (by omega),Av (by omega)];exact HBX.out
   case measure=>simp[intOf];omega
  .have:k=n:=by omega
   subst this;go_wp2_with fail;go_ret;subst hNN;exact ⟨_,rfl,rfl,S1',K,pk',HOB.out,HS.out⟩
def hwB:Code:=Tryd.f27.body.getD .skip
def y0:Code:=seq1 hwB
def y1:Code:=seq1 (seq2 hwB)
def y2:Code:=seq1 (seq2 (seq2 hwB))
def y3:Code:=seq1 (seq2 (seq2 (seq2 hwB)))
def y4:Code:=seq1 (seq2 (seq2 (seq2 (seq2 hwB))))
def y5:Code:=seq1 (seq2 (seq2 (seq2 (seq2 (seq2 hwB)))))
def y6:Code:=seq1 (seq1 (seq2 (seq2 (seq2 (seq2 (seq2 (seq2 hwB)))))))
def y7:Code:=condA (seq2 (seq1 (seq2 (seq2 (seq2 (seq2 (seq2 (seq2 hwB))))))))
def y8:Code:=seq1 (seq2 (seq2 (seq2 (seq2 (seq2 (seq2 (seq2 hwB)))))))
def y9:Code:=seq1 (seq2 (seq2 (seq2 (seq2 (seq2 (seq2 (seq2 (seq2 hwB))))))))
def y10:Code:=seq1 (seq2 (seq2 (seq2 (seq2 (seq2 (seq2 (seq2 (seq2 (seq2 hwB)))))))))
def y11:Code:=seq1 (seq2 (seq2 (seq2 (seq2 (seq2 (seq2 (seq2 (seq2 (seq2 (seq2 hwB))))))))))
def y12:Code:=seq1 (seq2 (seq2 (seq2 (seq2 (seq2 (seq2 (seq2 (seq2 (seq2 (seq2 (seq2 hwB)))))))))))
def y13:Code:=(seq2 (seq2 (seq2 (seq2 (seq2 (seq2 (seq2 (seq2 (seq2 (seq2 (seq2 (seq2 hwB))))))))))))
def Y12:Code:=.seq y12 y13
def Y11:Code:=.seq y11 Y12
def Y10:Code:=.seq y10 Y11
def Y9:Code:=.seq y9 Y10
def Y8:Code:=.seq y8 Y9
def Y4:Code:=.seq y4 (.seq y5 (.seq (.seq y6 (.cond (.tmp 51) y7 .skip)) Y8))
def Y3:Code:=.seq y3 Y4
theorem eHwB:hwB=.seq y0 (.seq y1 (.seq y2 Y3)):=by kernel_rfl
theorem fine_y0:A7 Tryd.prog true LV y0:=Cc Cb extT (by kernel_rfl)
theorem fine_y1:A7 Tryd.prog true LV y1:=Cc Cb extT (by kernel_rfl)
theorem fine_y4:A7 Tryd.prog true LV y4:=Cc Cb extT (by kernel_rfl)
theorem fine_y5:A7 Tryd.prog true LV y5:=Cc Cb extT (by kernel_rfl)
theorem fine_y6:A7 Tryd.prog true LV y6:=Cc Cb extT (by kernel_rfl)
theorem fine_y12:A7 Tryd.prog true LV y12:=Cc Cb extT (by kernel_rfl)
theorem fine_y13:A7 Tryd.prog true LV y13:=Cc Cb extT (by kernel_rfl)
theorem y0_wp   (hA:Fl 137 [] a):y0.wp Tryd.prog (λe a' w'=>e=.normal∧Fl 137 [(0,.bool false)] a'∧w'.heap=v.heap∧w'.os=v.os∧w'.output=v.output) a v:=by
 obtain ⟨hsz,hd,hp⟩:=hA;obtain ⟨u,rfl,hg⟩:=litN hsz hd;clear hg hp hsz hd;unfold y0 hwB Tryd.f27 seq1;simp only[Qa,lits,Nat.reduceAdd];go_wp2_with fail;first|refine ⟨?_,rfl,rfl,rfl⟩|refine ⟨?_,rfl,rfl⟩|refine ⟨?_,rfl⟩|skip
 exact ⟨rfl,rfl,by
  intro p hp;simp only[Sm,or_false] at hp;rcases hp with rfl<;>first|rfl|exact congrArg I (by omega)|exact congrArg Value.bool (by simp)⟩
theorem y1_wp (hA:Fl 137 [(0,.bool false)] a):
 y1.wp Tryd.prog (λe a w'=>e=.normal∧∃ wb bk sc,Fl 137 [(0,.bool false),(1,Pt wb 0)] a∧IsNew v [] wb bk sc w') a v:=by
 have H7:Hid (Calls Tryd.prog 14 #[.slice none 0 0] v _):=⟨(body70 (v:=v) none 0).calls Tryd.func14 rfl⟩
 obtain ⟨hsz,hd,hp⟩:=hA;obtain ⟨u,rfl,hg⟩:=litN hsz hd;have u0:=(hg 0).symm.trans (hp (0,.bool false) (by simp));clear hg hp hsz hd;unfold y1 hwB Tryd.f27 seq2 seq1;simp only[Qa,lits,Nat.reduceAdd,u0];clear u0
 go_wp2_with (first
  |(go_at_call 14;refine H7.out.mono ?_;rintro e w1 ⟨_,rfl,wb,bk,sc,rfl,hnew⟩))
 exact ⟨wb,⟨rfl,rfl,by
  intro p hp;simp only[Sm,or_false] at hp;rcases hp with rfl|rfl<;>first|rfl|exact congrArg I (by omega)|exact congrArg Value.bool (by simp)⟩,bk,sc,hnew⟩
theorem y4_wp (hA:Fl 137 [(0,.bool false),(2,.slice (some ⟨M,0,none⟩) 1 1),(3,I 0),(5,I 1)] a):
 y4.wp Tryd.prog (λe a w'=>e=.normal∧Fl 137 [(0,.bool false),(2,.slice (some ⟨M,0,none⟩) 1 1),(3,I 0),(5,I 1),(6,Pt v.heap.size 0)] a∧w'.heap=v.heap.push (.cells #[.pointer none,I 0,.chan none,I 0,I 0,I 0,I 0] 87)∧w'.os=v.os∧w'.output=v.output) a v:=by
 have H7:Hid (Calls Tryd.prog 23 #[I 0] v _):=⟨(body11 v 0).calls Tryd.func23 rfl⟩
 obtain ⟨hsz,hd,hp⟩:=hA;obtain ⟨u,rfl,hg⟩:=litN hsz hd;have u0:=(hg 0).symm.trans (hp (0,.bool false) (by simp));have u2:=(hg 2).symm.trans (hp (2,.slice (some ⟨M,0,none⟩) 1 1) (by simp));have u3:=(hg 3).symm.trans (hp (3,I 0) (by simp));have u5:=(hg 5).symm.trans (hp (5,I 1) (by simp));clear hg hp hsz hd;unfold y4 hwB Tryd.f27 seq2 seq1;simp only[Qa,lits,Nat.reduceAdd,u0,u2,u3,u5];clear u0 u2 u3 u5
 go_wp2_with (first
  |(go_at_call 23;refine H7.out.mono ?_;rintro e w1 ⟨_,rfl,rfl,k1,k2,k3⟩))
 first|exact ⟨⟨rfl,rfl,by
  intro p hp;simp only[Sm,or_false] at hp;rcases hp with rfl|rfl|rfl|rfl|rfl<;>first|rfl|exact congrArg I (by omega)|exact congrArg Value.bool (by simp)⟩,k1,k2,k3⟩|exact ⟨rfl,rfl,by
  intro p hp;simp only[Sm,or_false] at hp;rcases hp with rfl|rfl|rfl|rfl|rfl<;>first|rfl|exact congrArg I (by omega)|exact congrArg Value.bool (by simp)⟩
theorem y5_wp (S:TS) {pk0:Nat->Option Obj}(hpk:Has pk0 v) (hG:GF pk0) (hA:Fl 137 [(0,.bool false),(2,.slice (some ⟨M,0,none⟩) 1 1),(3,I 0),(5,I 1),(6,Pt tb 0)] a):
 y5.wp Tryd.prog (λe a w'=>e=.normal∧Fl 137 [(0,.bool false),(2,.slice (some ⟨M,0,none⟩) 1 1),(3,I 0),(5,I 1),(6,Pt tb 0),(7,Pt (v.heap.size+1) 0)] a∧∃ S2 K pk',ObjN v S (sts 1 1) pk' S2 K w'∧StkN pk0 pk' 1 (v.heap.size+1) (v.heap.size+3) (v.heap.size+2) v.heap.size K) a v:=by
 have H7:Hid (Calls Tryd.prog 49 #[.pointer none,I ((1:Nat):Int)] v _):=⟨(stackNewN (S:=S) (ObjN.start hpk) (hG.flds hpk) 1 (by decide)).calls Tryd.func49 rfl⟩
 obtain ⟨hsz,hd,hp⟩:=hA;obtain ⟨u,rfl,hg⟩:=litN hsz hd;have u0:=(hg 0).symm.trans (hp (0,.bool false) (by simp));have u2:=(hg 2).symm.trans (hp (2,.slice (some ⟨M,0,none⟩) 1 1) (by simp));have u3:=(hg 3).symm.trans (hp (3,I 0) (by simp));have u5:=(hg 5).symm.trans (hp (5,I 1) (by simp));have u6:=(hg 6).symm.trans (hp (6,Pt tb 0) (by simp));clear hg hp hsz hd;unfold y5 hwB Tryd.f27 seq2 seq1;simp only[Qa,lits,Nat.reduceAdd,u0,u2,u3,u5,u6];clear u0 u2 u3 u5 u6
 go_wp2_with (first
  |(go_at_call 49;refine H7.out.mono ?_;rintro e w1 ⟨_,rfl,rfl,k1⟩))
 first|exact ⟨⟨rfl,rfl,by
  intro p hp;simp only[Sm,or_false] at hp;rcases hp with rfl|rfl|rfl|rfl|rfl|rfl<;>first|rfl|exact congrArg I (by omega)|exact congrArg Value.bool (by simp)⟩,k1⟩|exact ⟨rfl,rfl,by
  intro p hp;simp only[Sm,or_false] at hp;rcases hp with rfl|rfl|rfl|rfl|rfl|rfl<;>first|rfl|exact congrArg I (by omega)|exact congrArg Value.bool (by simp)⟩
theorem y6_wp {A0:Nat}(c0:v.cell? ⟨M,0,none⟩=some (.slice (some ⟨A0,0,none⟩) 6 6)) (hA:Fl 137 [(0,.bool false),(2,.slice (some ⟨M,0,none⟩) 1 1),(3,I 0),(5,I 1),(6,Pt tb 0),(7,Pt c 0)] a):y6.wp Tryd.prog (λe a' w'=>e=.normal∧Fl 137 [(0,.bool false),(2,.slice (some ⟨M,0,none⟩) 1 1),(3,I 0),(5,I 1),(6,Pt tb 0),(7,Pt c 0),(51,.bool false)] a'∧w'.heap=v.heap∧w'.os=v.os∧w'.output=v.output) a v:=by
 obtain ⟨hsz,hd,hp⟩:=hA;obtain ⟨u,rfl,hg⟩:=litN hsz hd;have u0:=(hg 0).symm.trans (hp (0,.bool false) (by simp));have u2:=(hg 2).symm.trans (hp (2,.slice (some ⟨M,0,none⟩) 1 1) (by simp));have u3:=(hg 3).symm.trans (hp (3,I 0) (by simp));have u5:=(hg 5).symm.trans (hp (5,I 1) (by simp));have u6:=(hg 6).symm.trans (hp (6,Pt tb 0) (by simp));have u7:=(hg 7).symm.trans (hp (7,Pt c 0) (by simp));clear hg hp hsz hd;unfold y6 hwB Tryd.f27 seq2 seq1;simp only[Qa,lits,Nat.reduceAdd,u0,u2,u3,u5,u6,u7];clear u0 u2 u3 u5 u6 u7;go_wp2_with fail;first|refine ⟨?_,rfl,rfl,rfl⟩|refine ⟨?_,rfl,rfl⟩|refine ⟨?_,rfl⟩|skip
 exact ⟨rfl,rfl,by
  intro p hp;simp only[Sm,or_false] at hp;rcases hp with rfl|rfl|rfl|rfl|rfl|rfl|rfl<;>first|rfl|exact congrArg I (by omega)|exact congrArg Value.bool (by simp)⟩
theorem y12_wp  (hA:Fl 137 [(0,.bool false),(2,.slice (some ⟨M,0,none⟩) 1 1),(3,I 0),(5,I 1),(6,Pt tb 0),(7,Pt c 0),(8,I 0),(9,I 80),(10,I 5),(11,I 0),(12,I 0),(13,I 90)] a):y12.wp Tryd.prog (λe a' w'=>e=.normal∧Fl 137 [(0,.bool false),(2,.slice (some ⟨M,0,none⟩) 1 1),(3,I 0),(5,I 1),(6,Pt tb 0),(7,Pt c 0),(8,I 0),(9,I 80),(10,I 5),(11,I 0),(12,I 0),(13,I 90),(14,.bool true)] a'∧w'.heap=v.heap∧w'.os=v.os∧w'.output=v.output) a v:=by
 obtain ⟨hsz,hd,hp⟩:=hA;obtain ⟨u,rfl,hg⟩:=litN hsz hd;have u0:=(hg 0).symm.trans (hp (0,.bool false) (by simp));have u2:=(hg 2).symm.trans (hp (2,.slice (some ⟨M,0,none⟩) 1 1) (by simp));have u3:=(hg 3).symm.trans (hp (3,I 0) (by simp));have u5:=(hg 5).symm.trans (hp (5,I 1) (by simp));have u6:=(hg 6).symm.trans (hp (6,Pt tb 0) (by simp));have u7:=(hg 7).symm.trans (hp (7,Pt c 0) (by simp));have u8:=(hg 8).symm.trans (hp (8,I 0) (by simp));have u9:=(hg 9).symm.trans (hp (9,I 80) (by simp));have u10:=(hg 10).symm.trans (hp (10,I 5) (by simp));have u11:=(hg 11).symm.trans (hp (11,I 0) (by simp));have u12:=(hg 12).symm.trans (hp (12,I 0) (by simp));have u13:=(hg 13).symm.trans (hp (13,I 90) (by simp));clear hg hp hsz hd;unfold y12 hwB Tryd.f27 seq2 seq1;simp only[Qa,lits,Nat.reduceAdd,u0,u2,u3,u5,u6,u7,u8,u9,u10,u11,u12,u13];clear u0 u2 u3 u5 u6 u7 u8 u9 u10 u11 u12 u13;go_wp2_with fail;first|refine ⟨?_,rfl,rfl,rfl⟩|refine ⟨?_,rfl,rfl⟩|refine ⟨?_,rfl⟩|skip
 exact ⟨rfl,rfl,by
  intro p hp;simp only[Sm,or_false] at hp;rcases hp with rfl|rfl|rfl|rfl|rfl|rfl|rfl|rfl|rfl|rfl|rfl|rfl|rfl<;>first|rfl|exact congrArg I (by omega)|exact congrArg Value.bool (by simp)⟩
theorem y13_wp {A0:Nat}(c0:v.cell? ⟨M,0,none⟩=some (.slice (some ⟨A0,0,none⟩) 6 6)) (c4:v.cell? ⟨A0,4,none⟩=some (I 80)) (c7:v.cell? ⟨A0,7,none⟩=some (I 8)) (c9:v.cell? ⟨A0,9,none⟩=some (I 7)) (c10:v.cell? ⟨A0,10,none⟩=some (I 90)) (hA:Fl 137 [(0,.bool false),(2,.slice (some ⟨M,0,none⟩) 1 1),(3,I 0),(5,I 1),(6,Pt tb 0),(7,Pt c 0),(8,I 0),(9,I 80),(10,I 5),(11,I 0),(12,I 0),(13,I 90),(14,.bool true)] a):y13.wp Tryd.prog (λe a' w'=>e=.ret∧Fl 137 [(0,.bool true)] a'∧w'.heap=v.heap∧w'.os=v.os∧w'.output=v.output) a v:=by
 obtain ⟨hsz,hd,hp⟩:=hA;obtain ⟨u,rfl,hg⟩:=litN hsz hd;have u0:=(hg 0).symm.trans (hp (0,.bool false) (by simp));have u2:=(hg 2).symm.trans (hp (2,.slice (some ⟨M,0,none⟩) 1 1) (by simp));have u3:=(hg 3).symm.trans (hp (3,I 0) (by simp));have u5:=(hg 5).symm.trans (hp (5,I 1) (by simp));have u6:=(hg 6).symm.trans (hp (6,Pt tb 0) (by simp));have u7:=(hg 7).symm.trans (hp (7,Pt c 0) (by simp));have u8:=(hg 8).symm.trans (hp (8,I 0) (by simp));have u9:=(hg 9).symm.trans (hp (9,I 80) (by simp));have u10:=(hg 10).symm.trans (hp (10,I 5) (by simp));have u11:=(hg 11).symm.trans (hp (11,I 0) (by simp));have u12:=(hg 12).symm.trans (hp (12,I 0) (by simp));have u13:=(hg 13).symm.trans (hp (13,I 90) (by simp));have u14:=(hg 14).symm.trans (hp (14,.bool true) (by simp));clear hg hp hsz hd;unfold y13 hwB Tryd.f27 seq2;simp only[Qa,lits,Nat.reduceAdd,u0,u2,u3,u5,u6,u7,u8,u9,u10,u11,u12,u13,u14];clear u0 u2 u3 u5 u6 u7 u8 u9 u10 u11 u12 u13 u14;go_wp2_with fail;first|refine ⟨?_,rfl,rfl,rfl⟩|refine ⟨?_,rfl,rfl⟩|refine ⟨?_,rfl⟩|skip
 exact ⟨rfl,rfl,by
  intro p hp;simp only[Sm,or_false] at hp;rcases hp with rfl<;>first|rfl|exact congrArg I (by omega)|exact congrArg Value.bool (by simp)⟩
theorem body36n (b:Nat) (c0:v.cell? ⟨b,0,none⟩=some (.slice p 1 1)):Body Tryd.f36 #[.pointer none,.slice (some ⟨b,0,none⟩) 1 1] v (λr v'=>r=I 1∧v'.heap=v.heap∧v'.os=v.os∧v'.output=v.output):=by
 intro code hb;obtain rfl:=Qd hb;clear hb;have h57:=(body57 (v:=v) (some ⟨b,0,none⟩) 1 1 (by decide) (λ_=>p) (λ_=>1) (λ_=>1) (λk hk=>⟨b,0,rfl,by
  obtain rfl:k=0:=by omega
  exact c0⟩)).calls Tryd.func57 rfl
 have H57:Hid (Calls Tryd.prog 57 #[.slice (some ⟨b,0,none⟩) 1 1] v (λe w'=>e=.returned (I 0)∧w'=v)):=⟨h57.mono (by rintro e w' ⟨r,rfl,rfl,⟨⟨k,hk,h⟩,_⟩|⟨_,rfl⟩⟩;exact absurd h (by decide);exact ⟨rfl,rfl⟩)⟩
 clear h57 c0;simp only[Tryd.ntmps36,Sz,Nat.reduceAdd,Nat.reduceSub,Sy]
 go_wp2_with (first
  |(go_at_call 57;refine H57.out.mono ?_;rintro e w1 ⟨rfl,rfl⟩))
 go_ret;exact ⟨_,rfl,rfl,rfl,rfl,rfl⟩
theorem k280n_wp {m:Int}(hA:Fl 30 [(0,.pointer none),(1,I m),(2,.slice (some ⟨b,0,none⟩) 1 1)] a):k280.wp Tryd.prog (λe a w'=>e=.normal∧Fl 30 [(0,.pointer none),(1,I m),(2,.slice (some ⟨b,0,none⟩) 1 1),(6,.slice none 0 0),(7,I 0)] a∧w'.heap=v.heap∧w'.os=v.os∧w'.output=v.output) a v:=by
 obtain ⟨hsz,hd,hp⟩:=hA;obtain ⟨u,rfl,hg⟩:=litN hsz hd;have u0:=(hg 0).symm.trans (hp (0,.pointer none) (by simp));have u1:=(hg 1).symm.trans (hp (1,I m) (by simp));have u2:=(hg 2).symm.trans (hp (2,.slice (some ⟨b,0,none⟩) 1 1) (by simp));clear hg hp hsz hd;unfold k280 B28 Tryd.f28 seq1;simp only[Qa,lits,Nat.reduceAdd,u0,u1,u2];clear u0 u1 u2;go_wp2_with fail;first|refine ⟨?_,rfl,rfl,rfl⟩|refine ⟨?_,rfl,rfl⟩|refine ⟨?_,rfl⟩|skip
 exact ⟨rfl,rfl,by
  intro p hp;simp only[Sm,or_false] at hp;rcases hp with rfl|rfl|rfl|rfl|rfl<;>first|rfl|exact congrArg I (by omega)|exact congrArg Value.bool (by simp)⟩
theorem k281_nil {m:Int}(c0:v.cell? ⟨b,0,none⟩=some (.slice p 1 1)) (hA:Fl 30 [(0,.pointer none),(1,I m),(2,.slice (some ⟨b,0,none⟩) 1 1),(6,.slice none 0 0),(7,I 0)] a):
 k281.wp Tryd.prog (λe a w'=>e=.ret∧∃ x,(results Tryd.f28 a.tmps).run Tryd.prog w'=.ok x w'∧x=.tuple #[.slice none 0 0,I 1]∧w'.heap=v.heap∧w'.os=v.os∧w'.output=v.output) a v:=by
 have H19:Hid (Calls Tryd.prog 36 #[.pointer none,.slice (some ⟨b,0,none⟩) 1 1] v _):=⟨(body36n b c0).calls Tryd.func36 rfl⟩
 obtain ⟨hsz,hd,hp⟩:=hA;obtain ⟨u,rfl,hg⟩:=litN hsz hd;have u0:=(hg 0).symm.trans (hp (0,.pointer none) (by simp));have u1:=(hg 1).symm.trans (hp (1,I m) (by simp));have u2:=(hg 2).symm.trans (hp (2,.slice (some ⟨b,0,none⟩) 1 1) (by simp));have u6:=(hg 6).symm.trans (hp (6,.slice none 0 0) (by simp));have u7:=(hg 7).symm.trans (hp (7,I 0) (by simp));clear hg hp hsz hd;unfold k281 B28 Tryd.f28 seq1 seq2;simp only[Qa,lits,Nat.reduceAdd,u0,u1,u2,u6,u7];clear u0 u1 u2 u6 u7
 go_wp2_with (first
  |(go_at_call 36;refine H19.out.mono ?_;rintro e w1 ⟨_,rfl,rfl,k1,k2,k3⟩))
 first
  |exact ⟨_,results_tmp2 (t:=6) (u:=7) rfl _ _ _,rfl,k1,k2,k3⟩
  |exact results_tmp2 (t:=6) (u:=7) rfl _ _ _
theorem tplay_nil (m:Int) (b:Nat) (c0:v.cell? ⟨b,0,none⟩=some (.slice p 1 1)) (cs:List Frame) {bc:Frame}{ac:Act}{ops:Array Oper}{q:Nat}{rest:List Nat}{oc:Oper}{k0:List Item}(hoc:ops[q]? = some oc)
 (hvw:Rel zn v w) (hn:Ai Ch v)
 (hk:∀ v' w',Rel zn v' w'->Ai Ch v'->v'.heap=v.heap->v'.os=v.os->v'.output=v.output->GoT zn main Ch Stop (G (bc.at (ac.put oc.dst (.tuple #[.slice none 0 0,I 1])) (.inRegion ops rest :: k0)) cs) w'):
 GoT zn main Ch Stop (G ((base 28).at { tmps:=#[.pointer none,I m,.slice (some ⟨b,0,none⟩) 1 1]++Array.replicate 27 undef,defers:=[] } [.code B28]) (bc.at ac (.inRegion ops (q :: rest) :: k0) :: cs)) w:=by
 rw[eB28];have hA0:Fl 30 [(0,.pointer none),(1,I m),(2,.slice (some ⟨b,0,none⟩) 1 1)] { tmps:=#[.pointer none,I m,.slice (some ⟨b,0,none⟩) 1 1]++Array.replicate 27 undef,defers:=[] }:=by simp only[Sy];exact ⟨rfl,rfl,(alC rfl<|alC rfl<|alC rfl<|alN)⟩
 refine Ab ?_;refine Ba (z:=zn) (wr:=true) (L:=LV) (I:=Ai Ch) hE G5 Az (λv v' w w' es hi hr ho he=>B0 v v' w w' es hi hr ho he) hvw fine_k280 hA0.2.1 (by simp[base]) hn (Q:=λa w'=>Fl 30 [(0,.pointer none),(1,I m),(2,.slice (some ⟨b,0,none⟩) 1 1),(6,.slice none 0 0),(7,I 0)] a∧w'.heap=v.heap∧w'.os=v.os∧w'.output=v.output) (λτ=>k280n_wp (v:=Ap v τ 0) hA0) ?_;rintro a0 v0 w0 ⟨hB0,e0,o0,u0⟩ hr0 hn0 -;refine Ab ?_;refine Hq (c:=k281) (f:=28) (fn:=Tryd.f28) (L:=LV) hE G5 hr0 hn0 Tryd.func28 fine_k281 hB0.2.1 hoc (R:=λr w'=>r=.tuple #[.slice none 0 0,I 1]∧w'.heap=v0.heap∧w'.os=v0.os∧w'.output=v0.output) (λτ=>k281_nil (v:=Ap v0 τ 0) (p:=p) (by rw[World.cell?_of_block (w:=v) (w':=Ap v0 τ 0) (by show v0.heap[_]? = _;rw[e0])];exact c0) hB0) (λr v' w' hR hr' hn'=>?_)
 obtain ⟨rfl,h1,h2,h3⟩:=hR;exact hk v' w' hr' hn' (h1.trans e0) (h2.trans o0) (h3.trans u0)
theorem taw_y8 {hd:Int}(hx:fstI h0=((0:Nat):Int)+1) (hvw:Rel zn v w) (hn:Ai Ch v) (h:Fst 1 c s sb rb tb kb B [h0,nx,us,hd,vl,lk] v) (hB:B<=v.heap.size) (hA:Fl 137 [(0,.bool false),(2,.slice (some ⟨M,0,none⟩) 1 1),(3,I 0),(5,I 1),(6,Pt tb 0),(7,Pt c 0)] a)
 (hk:∀ a' v' w',Rel zn v' w'->Ai Ch v'->Fst 1 c s sb rb tb kb B [hdI nx (verI h0+1),nx,1,hdI 1 (verI hd+1),5,fstI hd] v'->Fk B v v'->Fl 137 [(0,.bool false),(2,.slice (some ⟨M,0,none⟩) 1 1),(3,I 0),(5,I 1),(6,Pt tb 0),(7,Pt c 0),(8,I 0)] a'->GoT zn main Ch Stop (G ((base 27).at a' [.code Y9]) cs) w'):
 GoT zn main Ch Stop (G ((base 27).at a [.code (.seq y8 Y9)]) cs) w:=by
 obtain ⟨hsz,hdf,hpp⟩:=hA;obtain ⟨u,rfl,hg⟩:=litN hsz hdf;have u0:=(hg 0).symm.trans (hpp (0,.bool false) (by simp));have u2:=(hg 2).symm.trans (hpp (2,.slice (some ⟨M,0,none⟩) 1 1) (by simp));have u3:=(hg 3).symm.trans (hpp (3,I 0) (by simp));have u5:=(hg 5).symm.trans (hpp (5,I 1) (by simp));have u6:=(hg 6).symm.trans (hpp (6,Pt tb 0) (by simp));have u7:=(hg 7).symm.trans (hpp (7,Pt c 0) (by simp));clear hg hpp hsz hdf;have HA:Hid (Rel zn v w∧Ai Ch v):=⟨hvw,hn⟩
 clear hvw hn;refine Ab ?_;generalize hT:Y9=TT at hk ⊢;unfold y8 hwB Tryd.f27 seq2 seq1;simp only[Qa,lits,Nat.reduceAdd,u0,u2,u3,u5,u6,u7];clear u0 u2 u3 u5 u6 u7 hT;refine Ac ?_;simp only[Sz,Sr,Nat.reduceAdd];iterate 2
  (refine Ad rfl rfl (by decide) rfl λd K hK=>?_
   go_simp;refine hK _ ?_;clear hK K)
 refine Ao (f:=50) (fn:=Tryd.f50) (args:=#[Pt c 0,Pt tb 0,I 5]) (Ag _ _) rfl rfl (by decide) rfl (by simp[Act.eval]) Tryd.func50 (by decide) rfl ?_;refine fpush 5 hx h hB cs rfl HA.out.1 HA.out.2 (λv2 w2 r2 n2 h2 k2=>?_) _ rfl;have HK:Hid (∀ a',Fl 137 [(0,.bool false),(2,.slice (some ⟨M,0,none⟩) 1 1),(3,I 0),(5,I 1),(6,Pt tb 0),(7,Pt c 0),(8,I 0)] a'->GoT zn main Ch Stop (G ((base 27).at a' [.code TT]) cs) w2):=⟨λa' h=>hk a' v2 w2 r2 n2 h2 k2 h⟩
 clear hk h r2 n2 HA h2 k2 hB;refine Ad rfl rfl (by decide) rfl λd K hK=>?_;go_simp;refine hK _ ?_;clear hK K;refine Aa ?_;exact HK.out _ ⟨rfl,rfl,(alC rfl<|alC rfl<|alC rfl<|alC rfl<|alC rfl<|alC rfl<|alC rfl<|alN)⟩
theorem taw_y9 {hd:Int}(hx:fstI h0=0) (hvw:Rel zn v w) (hn:Ai Ch v) (h:Fst 1 c s sb rb tb kb B [h0,nx,us,hd,vl,lk] v) (hB:B<=v.heap.size) (hA:Fl 137 [(0,.bool false),(2,.slice (some ⟨M,0,none⟩) 1 1),(3,I 0),(5,I 1),(6,Pt tb 0),(7,Pt c 0),(8,I 0)] a)
 (hk:∀ a' v' w',Rel zn v' w'->Ai Ch v'->Fst 1 c s sb rb tb kb B [h0,nx,us,hd,vl,lk] v'->Fk B v v'->Fl 137 [(0,.bool false),(2,.slice (some ⟨M,0,none⟩) 1 1),(3,I 0),(5,I 1),(6,Pt tb 0),(7,Pt c 0),(8,I 0),(9,I 80)] a'->GoT zn main Ch Stop (G ((base 27).at a' [.code Y10]) cs) w'):
 GoT zn main Ch Stop (G ((base 27).at a [.code (.seq y9 Y10)]) cs) w:=by
 obtain ⟨hsz,hdf,hpp⟩:=hA;obtain ⟨u,rfl,hg⟩:=litN hsz hdf;have u0:=(hg 0).symm.trans (hpp (0,.bool false) (by simp));have u2:=(hg 2).symm.trans (hpp (2,.slice (some ⟨M,0,none⟩) 1 1) (by simp));have u3:=(hg 3).symm.trans (hpp (3,I 0) (by simp));have u5:=(hg 5).symm.trans (hpp (5,I 1) (by simp));have u6:=(hg 6).symm.trans (hpp (6,Pt tb 0) (by simp));have u7:=(hg 7).symm.trans (hpp (7,Pt c 0) (by simp));have u8:=(hg 8).symm.trans (hpp (8,I 0) (by simp));clear hg hpp hsz hdf;have HA:Hid (Rel zn v w∧Ai Ch v):=⟨hvw,hn⟩
 clear hvw hn;refine Ab ?_;generalize hT:Y10=TT at hk ⊢;unfold y9 hwB Tryd.f27 seq2 seq1;simp only[Qa,lits,Nat.reduceAdd,u0,u2,u3,u5,u6,u7,u8];clear u0 u2 u3 u5 u6 u7 u8 hT;refine Ac ?_;simp only[Sz,Sr,Nat.reduceAdd];iterate 2
  (refine Ad rfl rfl (by decide) rfl λd K hK=>?_
   go_simp;refine hK _ ?_;clear hK K)
 refine Ao (f:=50) (fn:=Tryd.f50) (args:=#[Pt c 0,Pt tb 0,I 6]) (Ag _ _) rfl rfl (by decide) rfl (by simp[Act.eval]) Tryd.func50 (by decide) rfl ?_;refine fpush_full 6 hx h hB cs rfl HA.out.1 HA.out.2 (λv2 w2 r2 n2 h2 k2=>?_) _ rfl;have HK:Hid (∀ a',Fl 137 [(0,.bool false),(2,.slice (some ⟨M,0,none⟩) 1 1),(3,I 0),(5,I 1),(6,Pt tb 0),(7,Pt c 0),(8,I 0),(9,I 80)] a'->GoT zn main Ch Stop (G ((base 27).at a' [.code TT]) cs) w2):=⟨λa' h=>hk a' v2 w2 r2 n2 h2 k2 h⟩
 clear hk h r2 n2 HA h2 k2 hB;refine Ad rfl rfl (by decide) rfl λd K hK=>?_;go_simp;refine hK _ ?_;clear hK K;refine Aa ?_;exact HK.out _ ⟨rfl,rfl,(alC rfl<|alC rfl<|alC rfl<|alC rfl<|alC rfl<|alC rfl<|alC rfl<|alC rfl<|alN)⟩
theorem taw_y10 {hd:Int}(hx:fstI hd=((0:Nat):Int)+1) (hus:us=1) (hvw:Rel zn v w) (hn:Ai Ch v) (h:Fst 1 c s sb rb tb kb B [h0,nx,us,hd,vl,lk] v) (hB:B<=v.heap.size) (hA:Fl 137 [(0,.bool false),(2,.slice (some ⟨M,0,none⟩) 1 1),(3,I 0),(5,I 1),(6,Pt tb 0),(7,Pt c 0),(8,I 0),(9,I 80)] a)
 (hk:∀ a' v' w',Rel zn v' w'->Ai Ch v'->Fst 1 c s sb rb tb kb B [hdI 1 (verI h0+1),fstI h0,0,hdI lk (verI hd+1),vl,lk] v'->Fk B v v'->Fl 137 [(0,.bool false),(2,.slice (some ⟨M,0,none⟩) 1 1),(3,I 0),(5,I 1),(6,Pt tb 0),(7,Pt c 0),(8,I 0),(9,I 80),(10,I vl),(11,I 0)] a'->GoT zn main Ch Stop (G ((base 27).at a' [.code Y11]) cs) w'):
 GoT zn main Ch Stop (G ((base 27).at a [.code (.seq y10 Y11)]) cs) w:=by
 obtain ⟨hsz,hdf,hpp⟩:=hA;obtain ⟨u,rfl,hg⟩:=litN hsz hdf;have u0:=(hg 0).symm.trans (hpp (0,.bool false) (by simp));have u2:=(hg 2).symm.trans (hpp (2,.slice (some ⟨M,0,none⟩) 1 1) (by simp));have u3:=(hg 3).symm.trans (hpp (3,I 0) (by simp));have u5:=(hg 5).symm.trans (hpp (5,I 1) (by simp));have u6:=(hg 6).symm.trans (hpp (6,Pt tb 0) (by simp));have u7:=(hg 7).symm.trans (hpp (7,Pt c 0) (by simp));have u8:=(hg 8).symm.trans (hpp (8,I 0) (by simp));have u9:=(hg 9).symm.trans (hpp (9,I 80) (by simp));clear hg hpp hsz hdf;have HA:Hid (Rel zn v w∧Ai Ch v):=⟨hvw,hn⟩
 clear hvw hn;refine Ab ?_;generalize hT:Y11=TT at hk ⊢;unfold y10 hwB Tryd.f27 seq2 seq1;simp only[Qa,lits,Nat.reduceAdd,u0,u2,u3,u5,u6,u7,u8,u9];clear u0 u2 u3 u5 u6 u7 u8 u9 hT;refine Ac ?_;simp only[Sz,Sr,Nat.reduceAdd];iterate 2
  (refine Ad rfl rfl (by decide) rfl λd K hK=>?_
   go_simp;refine hK _ ?_;clear hK K)
 refine Ao (f:=51) (fn:=Tryd.f51) (args:=#[Pt c 0,Pt tb 0]) (Ag _ _) rfl rfl (by decide) rfl (by simp[Act.eval]) Tryd.func51 (by decide) rfl ?_;refine fpop hx hus h hB cs rfl HA.out.1 HA.out.2 (λv2 w2 r2 n2 h2 k2=>?_) _ rfl;have HK:Hid (∀ a',Fl 137 [(0,.bool false),(2,.slice (some ⟨M,0,none⟩) 1 1),(3,I 0),(5,I 1),(6,Pt tb 0),(7,Pt c 0),(8,I 0),(9,I 80),(10,I vl),(11,I 0)] a'->GoT zn main Ch Stop (G ((base 27).at a' [.code TT]) cs) w2):=⟨λa' h=>hk a' v2 w2 r2 n2 h2 k2 h⟩
 clear hk h r2 n2 HA h2 k2 hB;iterate 5
  (refine Ad rfl rfl (by decide) rfl λd K hK=>?_
   go_simp;refine hK _ ?_;clear hK K)
 refine Aa ?_;exact HK.out _ ⟨rfl,rfl,(alC rfl<|alC rfl<|alC rfl<|alC rfl<|alC rfl<|alC rfl<|alC rfl<|alC rfl<|alC rfl<|alC rfl<|alN)⟩
theorem taw_y11 {hd:Int}(hx:fstI hd=0) (hvw:Rel zn v w) (hn:Ai Ch v) (h:Fst 1 c s sb rb tb kb B [h0,nx,us,hd,vl,lk] v) (hB:B<=v.heap.size) (hA:Fl 137 [(0,.bool false),(2,.slice (some ⟨M,0,none⟩) 1 1),(3,I 0),(5,I 1),(6,Pt tb 0),(7,Pt c 0),(8,I 0),(9,I 80),(10,I 5),(11,I 0)] a)
 (hk:∀ a' v' w',Rel zn v' w'->Ai Ch v'->Fst 1 c s sb rb tb kb B [h0,nx,us,hd,vl,lk] v'->Fk B v v'->Fl 137 [(0,.bool false),(2,.slice (some ⟨M,0,none⟩) 1 1),(3,I 0),(5,I 1),(6,Pt tb 0),(7,Pt c 0),(8,I 0),(9,I 80),(10,I 5),(11,I 0),(12,I 0),(13,I 90)] a'->GoT zn main Ch Stop (G ((base 27).at a' [.code Y12]) cs) w'):
 GoT zn main Ch Stop (G ((base 27).at a [.code (.seq y11 Y12)]) cs) w:=by
 obtain ⟨hsz,hdf,hpp⟩:=hA;obtain ⟨u,rfl,hg⟩:=litN hsz hdf;have u0:=(hg 0).symm.trans (hpp (0,.bool false) (by simp));have u2:=(hg 2).symm.trans (hpp (2,.slice (some ⟨M,0,none⟩) 1 1) (by simp));have u3:=(hg 3).symm.trans (hpp (3,I 0) (by simp));have u5:=(hg 5).symm.trans (hpp (5,I 1) (by simp));have u6:=(hg 6).symm.trans (hpp (6,Pt tb 0) (by simp));have u7:=(hg 7).symm.trans (hpp (7,Pt c 0) (by simp));have u8:=(hg 8).symm.trans (hpp (8,I 0) (by simp));have u9:=(hg 9).symm.trans (hpp (9,I 80) (by simp));have u10:=(hg 10).symm.trans (hpp (10,I 5) (by simp));have u11:=(hg 11).symm.trans (hpp (11,I 0) (by simp));clear hg hpp hsz hdf;have HA:Hid (Rel zn v w∧Ai Ch v):=⟨hvw,hn⟩
 clear hvw hn;refine Ab ?_;generalize hT:Y12=TT at hk ⊢;unfold y11 hwB Tryd.f27 seq2 seq1;simp only[Qa,lits,Nat.reduceAdd,u0,u2,u3,u5,u6,u7,u8,u9,u10,u11];clear u0 u2 u3 u5 u6 u7 u8 u9 u10 u11 hT;refine Ac ?_;simp only[Sz,Sr,Nat.reduceAdd];iterate 2
  (refine Ad rfl rfl (by decide) rfl λd K hK=>?_
   go_simp;refine hK _ ?_;clear hK K)
 refine Ao (f:=51) (fn:=Tryd.f51) (args:=#[Pt c 0,Pt tb 0]) (Ag _ _) rfl rfl (by decide) rfl (by simp[Act.eval]) Tryd.func51 (by decide) rfl ?_;refine fpop_empty hx h hB cs rfl HA.out.1 HA.out.2 (λv2 w2 r2 n2 h2 k2=>?_) _ rfl;have HK:Hid (∀ a',Fl 137 [(0,.bool false),(2,.slice (some ⟨M,0,none⟩) 1 1),(3,I 0),(5,I 1),(6,Pt tb 0),(7,Pt c 0),(8,I 0),(9,I 80),(10,I 5),(11,I 0),(12,I 0),(13,I 90)] a'->GoT zn main Ch Stop (G ((base 27).at a' [.code TT]) cs) w2):=⟨λa' h=>hk a' v2 w2 r2 n2 h2 k2 h⟩
 clear hk h r2 n2 HA h2 k2 hB;iterate 5
  (refine Ad rfl rfl (by decide) rfl λd K hK=>?_
   go_simp;refine hK _ ?_;clear hK K)
 refine Aa ?_;exact HK.out _ ⟨rfl,rfl,(alC rfl<|alC rfl<|alC rfl<|alC rfl<|alC rfl<|alC rfl<|alC rfl<|alC rfl<|alC rfl<|alC rfl<|alC rfl<|alC rfl<|alN)⟩
end Go.Proofs.YtbbhahigofeacaaDoor.Gen
namespace Go.Proofs.YtbbhahigofeacaaDoor.Gen
open Go Go.Lift Go.Conc
open Go.ChangeShapes Go.WideShapes Go.ChangeAt Go.RowKit Go.Joins Go.Deep
section
variable {H:Type}{enc:TypeId×Value->H}{w:World}{held:Bool}
end
end Go.Proofs.YtbbhahigofeacaaDoor.Gen
namespace Go.Proofs.YtbbhahigofeacaaDoor.Gen
open Go Go.Lift Go.Conc Go.RowKit
open Go.ConcN (upd upd_same upd_ne)
open R1 (fstI verI hdI)
variable {u v w:World} {main:Bool} {M c:Nat} {cs:List Frame}
structure Gl (w:World):Prop where
 a:∃ c t f,w.heap[0]? = some (.cells c t f)∧c[0]? = some (I 0)∧c[1]? = some (I 32)
 b:∃ c t f,w.heap[1]? = some (.cells c t f)∧c[0]? = some (I 32)∧c[1]? = some (I 30)
 c:∃ c t f,w.heap[2]? = some (.cells c t f)∧c[0]? = some (I 0)∧c[1]? = some (I 32)
 d:∃ c t f,w.heap[3]? = some (.cells c t f)∧c[0]? = some (I 32)∧c[1]? = some (I 30)
def glP (w:World) (b:Nat):Option Obj:=if b<4 then w.heap[b]? else none
theorem glP_lt {b:Nat}(h:glP w b≠none):b<4:=by unfold glP at h;split at h;assumption;exact absurd rfl h
theorem glP_has (w:World):Has (glP w) w:=λb o h=>by unfold glP at h;split at h;exact h;cases h
theorem Gl.gf (h:Gl w):GF (glP w):=⟨h.a,h.b,h.c,h.d⟩
theorem Gl.row (h:Gl w):∀ b o,glP w b=some o->∃ c e f,o=.cells c e f:=λb o hb=>by
 have hlt:=glP_lt (w:=w) (b:=b) (by rw[hb];simp);have hh:=glP_has w b o hb
 match b,hlt with
 |0,_=>obtain ⟨c,t,f,g,_⟩:=h.a;rw[g] at hh;cases hh;exact ⟨_,_,_,rfl⟩
 |1,_=>obtain ⟨c,t,f,g,_⟩:=h.b;rw[g] at hh;cases hh;exact ⟨_,_,_,rfl⟩
 |2,_=>obtain ⟨c,t,f,g,_⟩:=h.c;rw[g] at hh;cases hh;exact ⟨_,_,_,rfl⟩
 |3,_=>obtain ⟨c,t,f,g,_⟩:=h.d;rw[g] at hh;cases hh;exact ⟨_,_,_,rfl⟩
theorem Gl.size (h:Gl w):4<=w.heap.size:=by obtain ⟨c,t,f,g,_⟩:=h.d;have:=(Qb g).1;omega
theorem Gl.grow {w':World}(h:Gl w) (g:∀ b,b<w.heap.size->w'.heap[b]? = w.heap[b]?):Gl w':=by have hs:=h.size;have e:=λb (hb:b<4)=>g b (by omega);exact ⟨by rw[e 0 (by omega)];exact h.a,by rw[e 1 (by omega)];exact h.b,by rw[e 2 (by omega)];exact h.c,by rw[e 3 (by omega)];exact h.d⟩
theorem taw_y3 {Ch:Nat->Prop}{Stop:Goroutine->World->Prop}{a:Act}(hvw:Rel zn v w) (hn:Ai Ch v) (hA:Fl 137 [(0,.bool false),(2,.slice (some ⟨M,0,none⟩) 1 1),(3,I 0)] a)
 (hk:∀ a' v' w',Rel zn v' w'->Ai Ch v'->Grows v v'->Fl 137 [(0,.bool false),(2,.slice (some ⟨M,0,none⟩) 1 1),(3,I 0),(5,I 1)] a'->GoT zn main Ch Stop (G ((base 27).at a' [.code Y4]) cs) w'):
 GoT zn main Ch Stop (G ((base 27).at a [.code Y3]) cs) w:=by
 unfold Y3;obtain ⟨hsz,hd,hpp⟩:=hA;obtain ⟨u,rfl,hg⟩:=litN hsz hd;have u0:=(hg 0).symm.trans (hpp (0,.bool false) (by simp));have u2:=(hg 2).symm.trans (hpp (2,.slice (some ⟨M,0,none⟩) 1 1) (by simp));have u3:=(hg 3).symm.trans (hpp (3,I 0) (by simp));clear hg hpp hsz hd;refine Ab ?_;generalize hT:Y4=TT at hk ⊢;unfold y3 hwB Tryd.f27 seq2 seq1;simp only[Qa,lits,Nat.reduceAdd,u0,u2,u3];clear u0 u2 u3 hT;refine Ac ?_;simp only[Sz,Sr,Nat.reduceAdd];refine Cf (L:=LV) rfl rfl (by decide) (Bh Cb extT (by kernel_rfl)) hvw hn (v':=v) (x:=.agg #[I 1,I 0,I 0,I 0]) (by go_simp) rfl (λw2 hr2 hn2=>?_);refine Cf (L:=LV) rfl rfl (by decide) (Bh Cb extT (by kernel_rfl)) hr2 hn2 (v':=v.alloc (.cells #[I 1,I 0,I 0,I 0] 50)) (x:=.slice (some ⟨v.heap.size,0,none⟩) 1 1) (by go_simp) rfl (λw3 hr3 hn3=>?_);refine Cf (L:=LV) rfl rfl (by decide) (Bh Cb extT (by kernel_rfl)) hr3 hn3 (v':=(v.alloc (.cells #[I 1,I 0,I 0,I 0] 50)).alloc (.cells #[.slice (some ⟨v.heap.size,0,none⟩) 1 1] 45)) (x:=.slice (some ⟨v.heap.size+1,0,none⟩) 1 1) (by go_simp) rfl (λw4 hr4 hn4=>?_);refine Ao (f:=28) (fn:=Tryd.f28) (args:=#[.pointer none,I 2,.slice (some ⟨v.heap.size+1,0,none⟩) 1 1]) (Ag _ _) rfl rfl (by decide) rfl (by simp[Act.eval,Act.put]) Tryd.func28 (by decide) rfl ?_;have hb:((v.alloc (.cells #[I 1,I 0,I 0,I 0] 50)).alloc (.cells #[.slice (some ⟨v.heap.size,0,none⟩) 1 1] 45)).heap[v.heap.size+1]? = some (.cells #[.slice (some ⟨v.heap.size,0,none⟩) 1 1] 45):=by
  show ((v.heap.push _).push _)[v.heap.size+1]? = _;rw[Qg,if_pos (by simp)]
 have gg:Grows v ((v.alloc (.cells #[I 1,I 0,I 0,I 0] 50)).alloc (.cells #[.slice (some ⟨v.heap.size,0,none⟩) 1 1] 45)):=⟨by show _<=((v.heap.push _).push _).size;simp;omega,λb hb=>by show ((v.heap.push _).push _)[b]? = _;rw[Qg,if_neg (by simp;omega),Qg,if_neg (by omega)],rfl,rfl⟩
 refine tplay_nil 2 (v.heap.size+1) (cell_of hb rfl) cs rfl hr4 hn4 (λv5 w5 r5 n5 e5 o5 u5=>?_);have HK:Hid (∀ a',Fl 137 [(0,.bool false),(2,.slice (some ⟨M,0,none⟩) 1 1),(3,I 0),(5,I 1)] a'->GoT zn main Ch Stop (G ((base 27).at a' [.code TT]) cs) w5):=⟨λa' h=>hk a' v5 w5 r5 n5 (Jg gg (Lc e5 o5 u5)) h⟩
 clear hk hb gg r5 n5 e5 o5 u5 hr2 hr3 hr4 hn2 hn3 hn4 hvw hn;iterate 5
  (refine Ad rfl rfl (by decide) rfl λd K hK=>?_
   go_simp;refine hK _ ?_;clear hK K)
 refine Aa ?_;exact HK.out _ ⟨rfl,rfl,(alC rfl<|alC rfl<|alC rfl<|alC rfl<|alN)⟩
structure Done9 (M A0:Nat) (u:World):Prop where
 m0:u.cell? ⟨M,0,none⟩=some (.slice (some ⟨A0,0,none⟩) 6 6)
 x4:u.cell? ⟨A0,4,none⟩=some (I 80)
 x7:u.cell? ⟨A0,7,none⟩=some (I 8)
 x9:u.cell? ⟨A0,9,none⟩=some (I 7)
 x10:u.cell? ⟨A0,10,none⟩=some (I 90)
theorem Done9.go {A0:Nat}{u':World}(h:Done9 M A0 u) (g:∀ b,b<u.heap.size->u'.heap[b]? = u.heap[b]?):Done9 M A0 u':=by
 have hc:∀ (a:Addr) (x:Value),u.cell? a=some x->u'.cell? a=some x:=λa x ha=>by rw[World.cell?_of_block (w:=u) (w':=u') (g _ (World.block_lt_of_cell? _ _ ha))];exact ha
 exact ⟨hc _ _ h.m0,hc _ _ h.x4,hc _ _ h.x7,hc _ _ h.x9,hc _ _ h.x10⟩
theorem fst_new {v1 v2:World}{S S2:TS}{K:List (Nat×Int)}{pk':Nat->Option Obj}{tb:Nat}(hG:Gl v1) (ht:v1.heap[tb]? = some (.cells #[.pointer none,I 0,.chan none,I 0,I 0,I 0,I 0] 87)) (ho:ObjN v1 S (sts 1 1) pk' S2 K v2) (hs:StkN (glP v1) pk' 1 (v1.heap.size+1) (v1.heap.size+3) (v1.heap.size+2) v1.heap.size K):Fst 1 (v1.heap.size+1) (v1.heap.size+3) (v1.heap.size+2) v1.heap.size tb (K.map (·.1)) v1.heap.size [hdI 1 0,0,0,0,0,0] v2:=by
 have htb:=(Qb ht).1;have hM:=mineStk 1 #[Pt (v1.heap.size+1) 0] pk' K ⟨by decide,glP v1,_,_,_,_,hG.gf,rfl,hs,ho.vals⟩ ⟨0,0,0,0,0,[],none,0,0,undef,0,0,0,52,#[Pt (v1.heap.size+1) 0],pk',K.map (·.1)⟩ rfl rfl rfl rfl;have e0:=ho.vals;have hl:K.length=6:=by have:=congrArg List.length e0;rw[List.length_map,G0] at this;exact this
 obtain ⟨c0,q1,q2⟩:=hs.sbox;obtain ⟨c1,q3,q4⟩:=hs.box;refine ⟨?_,hG.gf.flds (λb o hb=>ho.has b o (hs.old b o hb)),cell_of (by rw[ho.old _ htb];exact ht) rfl,λj cb x hj hx=>?_,ho.nd,λcb hcb=>?_⟩
 .have f0:=ho.has _ _ q2
  have f1:=ho.has _ _ q4;have f2:=ho.has _ _ hs.srow;have f3:=ho.has _ _ hs.row;have hkj:∀ j,j<K.length->∃ c,K[j]? = some c∧(K.map (·.1))[j]? = some c.1:=λj hj=>⟨_,Qf hj,by rw[List.getElem?_map,Qf hj];rfl⟩
  refine ⟨⟨⟨c0.1,by rw[List.getElem?_map,q1];rfl,cell_of f0 rfl⟩,cell_of f0 rfl,λk hk=>?_,λk hk=>?_⟩,cell_of f1 rfl,⟨c1.1,by unfold hdJ;rw[List.getElem?_map,q3];rfl,cell_of f1 rfl⟩,cell_of f1 rfl,λk hk=>?_,λk hk=>?_,by decide⟩
  .obtain ⟨c,g1,g2⟩:=hkj (1+k*2) (by omega)
   exact ⟨c.1,by unfold nxJ;rw[Nat.mul_comm];exact g2,Ia f2 (by omega) g1⟩
  .obtain ⟨c,g1,g2⟩:=hkj (1+(k*2+1)) (by omega)
   exact ⟨c.1,by unfold usJ;rw[show 2+2*k=1+(k*2+1) by omega];exact g2,Ia f2 (by omega) g1⟩
  .obtain ⟨c,g1,g2⟩:=hkj (2*1+2+k*2) (by omega)
   exact ⟨c.1,by unfold vlJ;rw[Nat.mul_comm 2 k];exact g2,Ia f3 (by omega) g1⟩
  .obtain ⟨c,g1,g2⟩:=hkj (2*1+2+(k*2+1)) (by omega)
   exact ⟨c.1,by unfold lkJ;rw[show 2*1+3+2*k=2*1+2+(k*2+1) by omega];exact g2,Ia f3 (by omega) g1⟩
 .rw[List.getElem?_map,Option.map_eq_some_iff] at hj
  obtain ⟨p,h1,rfl⟩:=hj;have h2:=(ho.cels j p h1).1;have h3:(sts 1 1)[j]? = some p.2:=by rw[<-e0,List.getElem?_map,h1];rfl
  have h4:(sts 1 1)=[hdI 1 0,0,0,0,0,0]:=rfl;rw[h4] at h3;rw[hx] at h3;cases h3;exact h2
 .obtain ⟨p,hp,rfl⟩:=List.mem_map.1 hcb
  obtain ⟨j,hj⟩:=List.mem_iff_getElem?.1 hp;have h2:=ho.cels j p hj;have h4:=hG.size;have ne:∀ b o,pk' b=some o->p.1≠b:=λb o hb e=>by rw[e,hb] at h2;cases h2.2.2
  exact ⟨by omega,ne _ _ q4,ne _ _ q2,ne _ _ hs.srow,ne _ _ hs.row,by omega,h2.2.1⟩
theorem fst_hdV {f x:Int}(h0:0<=f) (h1:f<4294967296):fstI (hdI f (verI x+1))=f:=R1.fst_hd h0 h1 (by have:=R1.verI_in x;omega)
theorem v_hd (f v:Int) (h:0<=f∧f<4294967296) (hv:0<=v∧v<1073741824):verI (hdI f v)=v:=by rw[R1.ver_hd h.1 h.2 hv.1,Int.tmod_eq_emod_of_nonneg hv.1,Int.emod_eq_of_lt hv.1 hv.2]
theorem taw_tail {Ch:Nat->Prop}{Stop:Goroutine->World->Prop}{A0:Nat}{a:Act}{bc:Frame}{ac:Act}{ops:Array Oper}{q:Nat}{rest:List Nat}{oc:Oper}{k0:List Item}(hoc:ops[q]? = some oc) (S:TS) (hGl:Gl v) (hvw:Rel zn v w) (hn:Ai Ch v) (hD:Done9 M A0 v) (hA:Fl 137 [(0,.bool false),(2,.slice (some ⟨M,0,none⟩) 1 1),(3,I 0)] a)
 (hk:∀ v' w',Rel zn v' w'->Ai Ch v'->Grows v v'->GoT zn main Ch Stop (G (bc.at (ac.put oc.dst (.bool true)) (.inRegion ops rest :: k0)) cs) w'):
 GoT zn main Ch Stop (G ((base 27).at a [.code Y3]) (bc.at ac (.inRegion ops (q :: rest) :: k0) :: cs)) w:=by
 refine taw_y3 hvw hn hA (λa1 v1 w1 r1 n1 g1 hA1=>?_);unfold Y4;refine Ab ?_;refine Ba (z:=zn) (wr:=true) (L:=LV) (I:=Ai Ch) hE G5 Az (λv v' w w' es hi hr ho he=>B0 v v' w w' es hi hr ho he) r1 fine_y4 hA1.2.1 (by simp[base]) n1 (Q:=λa w'=>Fl 137 [(0,.bool false),(2,.slice (some ⟨M,0,none⟩) 1 1),(3,I 0),(5,I 1),(6,Pt v1.heap.size 0)] a∧w'.heap=v1.heap.push (.cells #[.pointer none,I 0,.chan none,I 0,I 0,I 0,I 0] 87)∧w'.os=v1.os∧w'.output=v1.output) (λτ=>y4_wp (v:=Ap v1 τ 0) hA1) ?_;rintro a2 v2 w2 ⟨hA2,e2,o2,u2⟩ r2 n2 -;have g2:Grows v1 v2:=grow_push e2 o2 u2;have G2:Gl v2:=(hGl.grow g1.old).grow g2.old;have ht2:v2.heap[v1.heap.size]? = some (.cells #[.pointer none,I 0,.chan none,I 0,I 0,I 0,I 0] 87):=by rw[e2];exact Qo
 refine Ab ?_;refine Ba (z:=zn) (wr:=true) (L:=LV) (I:=Ai Ch) hE G5 Az (λv v' w w' es hi hr ho he=>B0 v v' w w' es hi hr ho he) r2 fine_y5 hA2.2.1 (by simp[base]) n2 (Q:=λa w'=>Fl 137 [(0,.bool false),(2,.slice (some ⟨M,0,none⟩) 1 1),(3,I 0),(5,I 1),(6,Pt v1.heap.size 0),(7,Pt (v2.heap.size+1) 0)] a∧∃ S2 K pk',ObjN v2 S (sts 1 1) pk' S2 K w'∧StkN (glP v2) pk' 1 (v2.heap.size+1) (v2.heap.size+3) (v2.heap.size+2) v2.heap.size K) (λτ=>wp_mono (y5_wp (v:=Ap v2 τ 0) S (glP_has v2) G2.gf hA2) (λe a w' hq=>⟨hq.1,hq.2.1,by
  obtain ⟨S2,K,pk',ho,hs⟩:=hq.2.2;exact ⟨S2,K,pk',⟨ho.size,ho.has,ho.vals,ho.cels,ho.nd,ho.old,ho.os,ho.out⟩,hs⟩⟩)) ?_
 rintro a3 v3 w3 ⟨hA3,S2,K,pk',ho,hs⟩ r3 n3 -;have hF:=fst_new G2 ht2 ho hs;have g23:Grows v2 v3:=⟨ho.size,ho.old,ho.os,ho.out⟩
 have gv3:Grows v v3:=Jg g1 (Jg g2 g23);have hD3:=hD.go gv3.old;refine Ab ?_;refine Ab ?_;refine Ba (z:=zn) (wr:=true) (L:=LV) (I:=Ai Ch) hE G5 Az (λv v' w w' es hi hr ho he=>B0 v v' w w' es hi hr ho he) r3 fine_y6 hA3.2.1 (by simp[base]) n3 (Q:=λa w'=>Fl 137 [(0,.bool false),(2,.slice (some ⟨M,0,none⟩) 1 1),(3,I 0),(5,I 1),(6,Pt v1.heap.size 0),(7,Pt (v2.heap.size+1) 0),(51,.bool false)] a∧w'.heap=v3.heap∧w'.os=v3.os∧w'.output=v3.output) (λτ=>y6_wp (v:=Ap v3 τ 0) hD3.m0 hA3) ?_;rintro a4 v4 w4 ⟨hA4,e4,o4,u4⟩ r4 n4 -;refine Ax (t:=false) (hA4.at 51 (.bool false) (by simp)) ?_;simp only[if_false,Qh];refine Bo ?_;have hA4':Fl 137 [(0,.bool false),(2,.slice (some ⟨M,0,none⟩) 1 1),(3,I 0),(5,I 1),(6,Pt v1.heap.size 0),(7,Pt (v2.heap.size+1) 0)] a4:=hA4.sub (by simp);have g34:Grows v3 v4:=Lc e4 o4 u4;have hF4:=hF.grow g34;have hB4:v2.heap.size<=v4.heap.size:=Qk g23.size g34.size;have f1:fstI (hdI 1 0)=((0:Nat):Int)+1:=R1.fst_hd (by decide) (by decide) (by decide);unfold Y8;refine taw_y8 f1 r4 n4 hF4 hB4 hA4' (λa5 v5 w5 r5 n5 h5 k5 hA5=>?_);rw[v_hd 1 0 (by decide) (by decide),R1.verI_zero,R1.fstI_zero] at h5;have b5:=Qk hB4 k5.size;unfold Y9;refine taw_y9 (R1.fst_hd (by decide) (by decide) (by decide)) r5 n5 h5 b5 hA5 (λa6 v6 w6 r6 n6 h6 k6 hA6=>?_);have b6:=Qk b5 k6.size;unfold Y10;refine taw_y10 (R1.fst_hd (by decide) (by decide) (by decide)) rfl r6 n6 h6 b6 hA6 (λa7 v7 w7 r7 n7 h7 k7 hA7=>?_)
 have b7:=Qk b6 k7.size;unfold Y11;refine taw_y11 (fst_hdV (by decide) (by decide)) r7 n7 h7 b7 hA7 (λa8 v8 w8 r8 n8 h8 k8 hA8=>?_);have k9:=((k5.trans k6).trans k7).trans k8;have g8:Grows v v8:=by have s2:=g2.size;have s1:=g1.size;refine ⟨by have:=gv3.size;have:=g34.size;have:=k9.size;omega,λb hb=>?_,?_,?_⟩;rw[k9.old b (by omega),e4];exact gv3.old b hb;rw[k9.os,o4];exact gv3.os;rw[k9.out,u4];exact gv3.output
 have hD8:=hD.go g8.old;unfold Y12;refine Ab ?_;refine Ba (z:=zn) (wr:=true) (L:=LV) (I:=Ai Ch) hE G5 Az (λv v' w w' es hi hr ho he=>B0 v v' w w' es hi hr ho he) r8 fine_y12 hA8.2.1 (by simp[base]) n8 (Q:=λa w'=>Fl 137 [(0,.bool false),(2,.slice (some ⟨M,0,none⟩) 1 1),(3,I 0),(5,I 1),(6,Pt v1.heap.size 0),(7,Pt (v2.heap.size+1) 0),(8,I 0),(9,I 80),(10,I 5),(11,I 0),(12,I 0),(13,I 90),(14,.bool true)] a∧w'.heap=v8.heap∧w'.os=v8.os∧w'.output=v8.output) (λτ=>y12_wp (v:=Ap v8 τ 0) hA8) ?_;rintro a9 v9 w9 ⟨hA9,e9,o9,u9⟩ r9 n9 -;have g9:Grows v v9:=Jg g8 (Lc e9 o9 u9);have hD9:=hD.go g9.old;refine Hq (c:=y13) (f:=27) (fn:=Tryd.f27) (L:=LV) hE G5 r9 n9 Tryd.func27 fine_y13 hA9.2.1 hoc (R:=λr w'=>r=.bool true∧w'.heap=v9.heap∧w'.os=v9.os∧w'.output=v9.output) (λτ=>wp_mono (y13_wp (v:=Ap v9 τ 0) hD9.m0 hD9.x4 hD9.x7 hD9.x9 hD9.x10 hA9) (λe a' w' hq=>⟨hq.1,.bool true,by
  rw[results_tmp (t:=0) rfl];have:=hq.2.1.at 0 (.bool true) (by simp);rw[show a'.tmps.getD 0 undef=.bool true from this],rfl,hq.2.2⟩)) (λr v' w' hR hr' hn'=>?_)
 obtain ⟨rfl,h1,h2,h3⟩:=hR;exact hk v' w' hr' hn' (Jg g9 (Lc h1 h2 h3))
structure Set9 (v:World) (wb bk:Nat) (sc:Value) (c:Nat) (u:World):Prop where
 mem:Mem zn (newS wb bk v.heap.size sc []) [] u
 opn:Open u bk
 calls:u.heap[c]? = some (.cells #[I 1,I 7,I 0,I 0,I 1,I 8,I 0,I 0,I 1,I 9,I 0,I 0,I 2,I 0,I 0,I 0,I 2,I 0,I 0,I 0,I 2,I 0,I 0,I 0] 50)
 scr:u.heap[c+1]? = some (.cells #[.slice (some ⟨c,0,none⟩) 6 6] 45)
 own:∀ b,Own (newS wb bk v.heap.size sc []) [] b∨b=bk->v.heap.size<=b∧b<c
 old:Grows v u
theorem Set9.same {wb bk:Nat}{sc:Value}{u':World}(h:Set9 v wb bk sc c u) (e:u'.heap=u.heap) (e1:u'.os=u.os) (e2:u'.output=u.output):Set9 v wb bk sc c u':=by
 have g:Grows u u':=⟨by rw[e];exact Qi _,λb _=>by rw[e],e1,e2⟩
 refine ⟨(h.mem.grows g).mem,?_,by rw[e];exact h.calls,by rw[e];exact h.scr,h.own,⟨by rw[e];exact h.old.size,λb hb=>by rw[e];exact h.old.old b hb,e1.trans h.old.os,e2.trans h.old.output⟩⟩;obtain ⟨c,m,hh⟩:=h.opn;exact ⟨c,m,by rw[e];exact hh⟩
theorem tawake_in {Ch:Nat->Prop}{Stop:Goroutine->World->Prop}(cs:List Frame)
 (hk:∀ v' w' (wb bk:Nat) (sc:Value) (c:Nat) (bd:Frame) (ad:Act) (od:Array Oper) (qd:Nat) (rd:List Nat) (oe:Oper) (kd:List Item),Rel zn v' w'->Ai Ch v'->Set9 v wb bk sc c v'->od[qd]? = some oe ->
   (∀ (Ch:Nat->Prop) (Stop:Goroutine->World->Prop) (M:Nat) (w:World),(∀ a,Fl 137 [(0,.bool false),(2,.slice (some ⟨M,0,none⟩) 1 1),(3,I 0)] a->GoT zn main Ch Stop (G ((base 27).at a [.code Y3]) cs) w)->GoT zn main Ch Stop (G (bd.at (ad.put oe.dst (.tuple #[.slice (some ⟨M,0,none⟩) 1 1,I 0])) (.inRegion od rd :: kd)) cs) w) ->
   GoT zn main Ch Stop (G ((base 28).at { tmps:=#[Pt wb 0,I 2,.slice (some ⟨c+1,0,none⟩) 1 1]++Array.replicate 27 undef,defers:=[] } [.code B28]) (bd.at ad (.inRegion od (qd :: rd):: kd):: cs)) w') (hvw:Rel zn v w) (hn:Ai Ch v):
 GoT zn main Ch Stop (G ((base 27).at { tmps:=Array.replicate 137 undef,defers:=[] } [.code hwB]) cs) w:=by
 rw[eHwB];have hA:Fl 137 [] { tmps:=Array.replicate 137 undef,defers:=[] }:=⟨by simp,rfl,λp hp=>by cases hp⟩
 refine Ab ?_;refine Ba (z:=zn) (wr:=true) (L:=LV) (I:=Ai Ch) hE G5 Az (λv v' w w' es hi hr ho he=>B0 v v' w w' es hi hr ho he) hvw fine_y0 hA.2.1 (by simp[base]) hn (Q:=λa w'=>Fl 137 [(0,.bool false)] a∧w'.heap=v.heap∧w'.os=v.os∧w'.output=v.output) (λτ=>y0_wp (v:=Ap v τ 0) hA) ?_;rintro a0 v0 w0 ⟨hA0,e0,o0,u0⟩ hr0 hn0 -;refine Ab ?_;refine Ba (z:=zn) (wr:=true) (L:=LV) (I:=Ai Ch) hE G5 Az (λv v' w w' es hi hr ho he=>B0 v v' w w' es hi hr ho he) hr0 fine_y1 hA0.2.1 (by simp[base]) hn0
  (Q:=λa w'=>∃ wb bk sc,Fl 137 [(0,.bool false),(1,Pt wb 0)] a∧IsNew v0 [] wb bk sc w') (λτ=>?_) ?_
 .refine wp_mono (y1_wp (v:=Ap v0 τ 0) hA0) (λe a w' hq=>⟨hq.1,?_⟩)
  obtain ⟨_,wb,bk,sc,h1,h2⟩:=hq;exact ⟨wb,bk,sc,h1,⟨h2.mem,h2.opn,h2.new,⟨h2.old.size,h2.old.old,h2.old.os,h2.old.output⟩⟩⟩
 rintro a1 v1 w1 ⟨wb,bk,sc,hA,hnew⟩ hr1 hn1 -;have hset:Set9 v wb bk sc v1.heap.size ((v1.alloc (.cells #[I 1,I 7,I 0,I 0,I 1,I 8,I 0,I 0,I 1,I 9,I 0,I 0,I 2,I 0,I 0,I 0,I 2,I 0,I 0,I 0,I 2,I 0,I 0,I 0] 50)).alloc (.cells #[.slice (some ⟨v1.heap.size,0,none⟩) 6 6] 45)):=by
  have g1:Grows v1 ((v1.alloc (.cells #[I 1,I 7,I 0,I 0,I 1,I 8,I 0,I 0,I 1,I 9,I 0,I 0,I 2,I 0,I 0,I 0,I 2,I 0,I 0,I 0,I 2,I 0,I 0,I 0] 50)).alloc (.cells #[.slice (some ⟨v1.heap.size,0,none⟩) 6 6] 45)):=⟨by show _<=((v1.heap.push _).push _).size;simp;omega,λb hb=>by show ((v1.heap.push _).push _)[b]? = _;rw[Qg,if_neg (by simp;omega),Qg,if_neg (by omega)],rfl,rfl⟩
  have hm1:=hnew.mem;have hnn:=hnew.new;rw[e0] at hm1 hnn;refine ⟨(hm1.grows g1).mem,?_,?_,?_,λb hb=>⟨hnn b hb,?_⟩,⟨?_,λb hb=>?_,?_,?_⟩⟩
  .obtain ⟨c,m,h⟩:=hnew.opn
   exact ⟨c,m,by rw[g1.old _ (Qb h).1];exact h⟩
  .show ((v1.heap.push _).push _)[v1.heap.size]? = _
   rw[Qg,if_neg (by simp)];exact Qo
  .show ((v1.heap.push _).push _)[v1.heap.size+1]? = _
   rw[Qg,if_pos (by simp)]
  .rcases hb with hb|rfl
   exact hm1.lt hb
   .obtain ⟨c,m,h⟩:=hnew.opn
    exact (Qb h).1
  have:=hnew.old.size;have:=g1.size;rw[e0] at *;omega;rw[g1.old b (by have:=hnew.old.size;rw[e0] at this;omega),hnew.old.old b (by rw[e0];exact hb),e0];exact hnew.old.os.trans o0;exact hnew.old.output.trans u0
 clear hnew hr0 hn0 e0 o0 u0 hvw hn;obtain ⟨hsz,hd,hpp⟩:=hA;obtain ⟨u,rfl,hg⟩:=litN hsz hd;have u0:=(hg 0).symm.trans (hpp (0,.bool false) (by simp));have u1:=(hg 1).symm.trans (hpp (1,Pt wb 0) (by simp));clear hg hpp hsz hd;refine Ab ?_;generalize hT:Y3=TT at hk ⊢;unfold y2 hwB Tryd.f27 seq2 seq1;simp only[Qa,lits,Nat.reduceAdd,u0,u1];clear u0 u1 hT;refine Ac ?_;simp only[Sz,Sr,Nat.reduceAdd];refine Ad rfl rfl (by decide) rfl λd K hK=>?_;go_simp;refine hK _ ?_;clear hK K;refine Cf (L:=LV) rfl rfl (by decide) (Bh Cb extT (by kernel_rfl)) hr1 hn1 (v':=v1) (x:=.agg #[I 1,I 7,I 0,I 0]) (by go_simp) rfl (λwb0 hb0 hc0=>?_);refine Cf (L:=LV) rfl rfl (by decide) (Bh Cb extT (by kernel_rfl)) hb0 hc0 (v':=v1) (x:=.agg #[I 1,I 8,I 0,I 0]) (by go_simp) rfl (λwb1 hb1 hc1=>?_);refine Cf (L:=LV) rfl rfl (by decide) (Bh Cb extT (by kernel_rfl)) hb1 hc1 (v':=v1) (x:=.agg #[I 1,I 9,I 0,I 0]) (by go_simp) rfl (λwb2 hb2 hc2=>?_);refine Cf (L:=LV) rfl rfl (by decide) (Bh Cb extT (by kernel_rfl)) hb2 hc2 (v':=v1) (x:=.agg #[I 2,I 0,I 0,I 0]) (by go_simp) rfl (λwb3 hb3 hc3=>?_);refine Cf (L:=LV) rfl rfl (by decide) (Bh Cb extT (by kernel_rfl)) hb3 hc3 (v':=v1) (x:=.agg #[I 2,I 0,I 0,I 0]) (by go_simp) rfl (λwb4 hb4 hc4=>?_);refine Cf (L:=LV) rfl rfl (by decide) (Bh Cb extT (by kernel_rfl)) hb4 hc4 (v':=v1) (x:=.agg #[I 2,I 0,I 0,I 0]) (by go_simp) rfl (λwb5 hb5 hc5=>?_)
 refine Cf (L:=LV) rfl rfl (by decide) (Bh Cb extT (by kernel_rfl)) hb5 hc5 (v':=v1.alloc (.cells #[I 1,I 7,I 0,I 0,I 1,I 8,I 0,I 0,I 1,I 9,I 0,I 0,I 2,I 0,I 0,I 0,I 2,I 0,I 0,I 0,I 2,I 0,I 0,I 0] 50)) (x:=.slice (some ⟨v1.heap.size,0,none⟩) 6 6) (by go_simp) rfl (λw5 hr5 hn5=>?_);refine Cf (L:=LV) rfl rfl (by decide) (Bh Cb extT (by kernel_rfl)) hr5 hn5 (v':=((v1.alloc (.cells #[I 1,I 7,I 0,I 0,I 1,I 8,I 0,I 0,I 1,I 9,I 0,I 0,I 2,I 0,I 0,I 0,I 2,I 0,I 0,I 0,I 2,I 0,I 0,I 0] 50)).alloc (.cells #[.slice (some ⟨v1.heap.size,0,none⟩) 6 6] 45))) (x:=.slice (some ⟨v1.heap.size+1,0,none⟩) 1 1) (by go_simp) rfl (λw6 hr6 hn6=>?_);refine Ao (f:=28) (fn:=Tryd.f28) (args:=#[Pt wb 0,I 2,.slice (some ⟨v1.heap.size+1,0,none⟩) 1 1]) (Ag _ _) rfl rfl (by decide) rfl (by simp[Act.eval,Act.put]) Tryd.func28 (by decide) rfl ?_;refine hk _ w6 wb bk sc v1.heap.size _ _ _ _ _ _ _ hr6 hn6 hset rfl (λCh Stop M ww hg=>?_);clear hk hset hr1 hr5 hr6 hn1 hn5 hn6 hb0 hb1 hb2 hb3 hb4 hb5 hc0 hc1 hc2 hc3 hc4 hc5;iterate 5
  (refine Ad rfl rfl (by decide) rfl λd K hK=>?_
   go_simp;refine hK _ ?_;clear hK K)
 refine Aa ?_;exact hg _ ⟨rfl,rfl,(alC rfl<|alC rfl<|alC rfl<|alN)⟩
section
variable {wb bk base:Nat}{sc cv:Value}{b:Nat->Nat}{l0:Nat->Ph}
theorem hires_aw {caps:Array Value}{pk:Nat->Option Obj}{N:Nat}{S1:TS}{l1:Nat->Ph}(h:Hires (mcT 2) 0 (scrs (mcT 2) 52 caps pk N 1 (cellsT b) (λ_=>some ⟨c,0,none⟩) (λ_=>6) (λ_=>6) (λ_=>c) (λ_=>clsT)) (awST wb bk base sc cv 10) l0 S1 l1):
 ∃ tv0 tb0 gc0,(⟨S1,cellsT b,l1⟩:PSt)=awPT wb bk base sc cv tv0 tb0 gc0 b l0:=by
 have e:(scrs (mcT 2) 52 caps pk N 1 (cellsT b) (λ_=>some ⟨c,0,none⟩) (λ_=>6) (λ_=>6) (λ_=>c) (λ_=>clsT))=[scrOf (mcT 2) 52 caps pk N 1 ((cellsT b).map (·.1)) (λ_=>some ⟨c,0,none⟩) (λ_=>6) (λ_=>6) (λ_=>c) (λ_=>clsT) 0]:=rfl;rw[e] at h;cases h with
 |cons tv0 tb0 gc0 h =>
  cases h;exact ⟨tv0,tb0,gc0,rfl⟩
end
theorem asked9 {wb bk:Nat}{sc:Value}(s:Set9 v wb bk sc c u):Asked u (newS wb bk v.heap.size sc []) 1 (c+1) 0 (λ_=>some ⟨c,0,none⟩) (λ_=>6) (λ_=>6) (λ_=>c) (λ_=>clsT):=by
 refine ⟨λj hj=>⟨rfl,by decide⟩,λk hk=>?_,λh=>by have:=(s.own _ (.inl h)).2;omega,λj hj _=>⟨rfl,λh=>by have:=(s.own _ (.inl h)).2;omega⟩,λj hj k x hx=>?_,λj hj x hx=>?_⟩
 .obtain rfl:k=0:=by omega
  exact cell_of s.scr rfl
 .match k,hx with
  |0,hx=>cases hx;exact ⟨cell_of s.calls rfl,cell_of s.calls rfl,cell_of s.calls rfl,cell_of s.calls rfl⟩
  |1,hx=>cases hx;exact ⟨cell_of s.calls rfl,cell_of s.calls rfl,cell_of s.calls rfl,cell_of s.calls rfl⟩
  |2,hx=>cases hx;exact ⟨cell_of s.calls rfl,cell_of s.calls rfl,cell_of s.calls rfl,cell_of s.calls rfl⟩
  |3,hx=>cases hx;exact ⟨cell_of s.calls rfl,cell_of s.calls rfl,cell_of s.calls rfl,cell_of s.calls rfl⟩
  |4,hx=>cases hx;exact ⟨cell_of s.calls rfl,cell_of s.calls rfl,cell_of s.calls rfl,cell_of s.calls rfl⟩
  |5,hx=>cases hx;exact ⟨cell_of s.calls rfl,cell_of s.calls rfl,cell_of s.calls rfl,cell_of s.calls rfl⟩
  |k+6,hx=>simp[clsT] at hx
 .unfold clsT at hx
  simp only[Sm,or_false] at hx;rcases hx with rfl|rfl|rfl|rfl|rfl|rfl<;>decide
theorem K_ten {K:List (Nat×Int)}(hK:K.map (·.2)=sts 2 2):∃ b,K=cellsT b:=by
 have e:sts 2 2=[hdI 1 0,2,0,0,0,0,0,0,0,0]:=rfl;rw[e] at hK;have hl:K.length=10:=by have:=congrArg List.length hK;simpa using this
 refine ⟨λj=>((K[j]?).getD (0,0)).1,?_⟩
 match K,hK,hl with
 | [a,b,c,d,e,f,g,h,i,j],hK,_ =>simp only[List.map_cons,List.map_nil,List.cons.injEq,and_true] at hK;obtain ⟨h0,h1,h2,h3,h4,h5,h6,h7,h8,h9⟩:=hK;obtain ⟨a1,a2⟩:=a;obtain ⟨b1,b2⟩:=b;obtain ⟨c1,c2⟩:=c;obtain ⟨d1,d2⟩:=d;obtain ⟨e1,e2⟩:=e;obtain ⟨f1,f2⟩:=f;obtain ⟨g1,g2⟩:=g;obtain ⟨i1,i2⟩:=h;obtain ⟨j1,j2⟩:=i;obtain ⟨k1,k2⟩:=j;cases h0;cases h1;cases h2;cases h3;cases h4;cases h5;cases h6;cases h7;cases h8;cases h9;rfl
theorem tawake_all {bc:Frame}{ac:Act}{ops:Array Oper}{q0:Nat}{rest:List Nat}{oc:Oper}{k0:List Item}(hoc:ops[q0]? = some oc) {T:Trace}{gs:Array Goroutine}{q:Nat->Nat}(sl:Option (Nat×Nat)) (A:Alone gs w T q) (hGl:Gl w)
 (hg:gs[0]? = some (G ((base 27).at { tmps:=Array.replicate 137 undef,defers:=[] } [.code hwB]) (bc.at ac (.inRegion ops (q0 :: rest):: k0):: cs))):
 ∃ (N':Nat) (gs':Array Goroutine) (w':World) (sl':Option (Nat×Nat)) (T':Trace) (q':Nat->Nat),
   runNT Tryd.prog N' (crowd gs w sl) T=(.next (crowd gs' w' sl'),T')∧gs'[0]? = some (G (bc.at (ac.put oc.dst (.bool true)) (.inRegion ops rest :: k0)) cs)∧Alone gs' w' T' q'∧Grows w w':=by
 obtain ⟨N1,gs1,a1,w1,sl1,T1,q1,r1,z1,h1,⟨wb,bk,sc,c,bd,ad,od,qd,rd,oe,kd,s,hoe,hback,rfl⟩,A1⟩:=Ef A hg sl (Stop:=λg w'=>∃ (wb bk:Nat) (sc:Value) (c:Nat) (bd:Frame) (ad:Act) (od:Array Oper) (qd:Nat) (rd:List Nat) (oe:Oper) (kd:List Item),Set9 w wb bk sc c w'∧od[qd]? = some oe ∧
  (∀ (Ch:Nat->Prop) (Stop:Goroutine->World->Prop) (M:Nat) (w:World),(∀ a,Fl 137 [(0,.bool false),(2,.slice (some ⟨M,0,none⟩) 1 1),(3,I 0)] a->GoT zn true Ch Stop (G ((base 27).at a [.code Y3]) (bc.at ac (.inRegion ops (q0 :: rest) :: k0) :: cs)) w)->GoT zn true Ch Stop (G (bd.at (ad.put oe.dst (.tuple #[.slice (some ⟨M,0,none⟩) 1 1,I 0])) (.inRegion od rd :: kd)) (bc.at ac (.inRegion ops (q0 :: rest) :: k0) :: cs)) w) ∧
  g=G ((base 28).at { tmps:=#[Pt wb 0,I 2,.slice (some ⟨c+1,0,none⟩) 1 1]++Array.replicate 27 undef,defers:=[] } [.code B28]) (bd.at ad (.inRegion od (qd :: rd) :: kd) :: bc.at ac (.inRegion ops (q0 :: rest) :: k0) :: cs))
  (tawake_in _ (λv' w' wb bk sc c bd ad od qd rd oe kd hr hn hset ho hback=>GoesI.stop λd=>⟨wb,bk,sc,c,bd,ad,od,qd,rd,oe,kd,hset.same hr.eq hr.os hr.output,ho,hback,rfl⟩) (Rel.refl w) (λc hc=>hc.elim))
 have l0:Nat->Ph:=λ_=>.done [];have hG1:Gl w1:=hGl.grow s.old.old;have hpf:∀ b,glP w1 b≠none->¬ Own (newS wb bk w.heap.size sc []) [] b∧b≠(newS wb bk w.heap.size sc []).bk:=λb hb=>by have hb':=glP_lt hb;have h4:=hGl.size;exact ⟨λh=>by have:=(s.own b (.inl h)).1;omega,λh=>by have:=(s.own b (.inr h)).1;omega⟩
 obtain ⟨N2,gs2,w2,sl2,T2,q2,caps,pk,N,cv,K,S',S1,l1,m,p',r2,z2,h2,A2,hK,hnv,hH,hT,O⟩:=tplay_all 2 (by decide) (S:=newS wb bk w.heap.size sc []) (n:=1) (sb:=c+1) (so:=0) (cap:=1) (pc:=λ_=>some ⟨c,0,none⟩) (ln:=λ_=>6) (cp:=λ_=>6) (rb:=λ_=>c) (cl:=λ_=>clsT) hoe sl1 34 A1 h1 s.mem rfl rfl rfl s.opn hG1.gf (glP_has w1) hpf hG1.row (asked9 s) (by decide) (λcaps pk N K=>by show 0+2*(6+0)<=1000000;decide) (by show 0<=4611686018427387904;decide) (by show ∀ x∈([]:List Int),_;simp) l0 (λcaps pk N cv K hK S1 l1 hH=>by obtain ⟨b,rfl⟩:=K_ten hK;obtain ⟨tv0,tb0,gc0,e⟩:=hires_aw (wb:=wb) (bk:=bk) (base:=w.heap.size) (sc:=sc) (cv:=cv) hH;exact ⟨34,_,Qi _,by rw[e];exact turns_of 34 _ (awt_runs wb bk _ sc cv tv0 tb0 gc0 b l0),by rw[awt_n];decide⟩)
 obtain ⟨b,rfl⟩:=K_ten hK;obtain ⟨tv0,tb0,gc0,e⟩:=hires_aw (wb:=wb) (bk:=bk) (base:=w.heap.size) (sc:=sc) (cv:=cv) hH;have hT':Turns (mcT 2) m (⟨S1,cellsT b,l1⟩:PSt) p':=hT;rw[e] at hT';have hp:=turns_det hT' (turns_of 34 _ (awt_runs wb bk w.heap.size sc cv tv0 tb0 gc0 b l0));have hans:=awt_ans wb bk w.heap.size sc cv tv0 tb0 gc0 b l0;rw[<-hp] at hans;have a0:=(O.ans 0 (by decide)).2.1 (by decide);rw[hans] at a0;have hD:Done9 (N+1) (N+4+3*0+2) w2:=⟨O.rows 0 (by decide),cell_of a0 rfl,cell_of a0 rfl,cell_of a0 rfl,cell_of a0 rfl⟩
 have hold:∀ b,b<w.heap.size->w2.heap[b]? = w.heap[b]?:=λb hb=>by
  have hs1:=s.old.size;have hno:¬ (Own (newS wb bk w.heap.size sc []) [] b∨b=bk):=λh=>by have:=(s.own b h).1;omega
  have h5:=O.old b (by omega) (λh=>hno (.inl h)) (λh=>hno (.inr h));rw[h5.1,s.old.old b hb]
 have hG2:Gl w2:=hGl.grow hold;obtain ⟨N3,gs3,a3,w3,sl3,T3,q3,r3,z3,h3,⟨rfl,hg3⟩,A3⟩:=Ef A2 h2 sl2 (hback (λ_=>False) (λg w'=>g=G (bc.at (ac.put oc.dst (.bool true)) (.inRegion ops rest :: k0)) cs∧Grows w2 w') (N+1) w2 (λa hA=>taw_tail hoc (newS wb bk w.heap.size sc []) hG2 (Rel.refl w2) (λc hc=>hc.elim) hD hA (λv' w' hr hn hgr=>GoesI.stop λd=>⟨rfl,hgr.toAt hr d⟩)));refine ⟨N1+N2+N3,gs3,w3,sl3,T3,q3,runNT_then (runNT_then r1 r2) r3,h3,A3,⟨by have:=s.old.size;have:=O.size;have:=hg3.size;omega,λb hb=>?_,hg3.os.trans (O.os.trans s.old.os),hg3.output.trans (O.out.trans s.old.output)⟩⟩;rw[hg3.old b (by have:=O.size;have:=s.old.size;omega),hold b hb]
end Go.Proofs.YtbbhahigofeacaaDoor.Gen
