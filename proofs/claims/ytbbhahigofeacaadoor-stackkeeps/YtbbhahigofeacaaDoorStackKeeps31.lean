/- Of the proof of StackKeeps. Part 31 of 33. (Joined, by program, and written short, of: StNn, StAw2, GRow.) -/
import Derived.Test.YtbbhahigofeacaaDoorStackKeeps21
import Derived.Test.YtbbhahigofeacaaDoorStackKeeps22
import Derived.Test.YtbbhahigofeacaaDoorStackKeeps24
import Derived.Test.YtbbhahigofeacaaDoorStackKeeps29
import Derived.Test.YtbbhahigofeacaaDoorStackKeeps30
import Derived.BigQuiet
import Derived.Conc.LeavingOf
import Derived.ProofKit
import Derived.OpenShut
import Derived.ChangeOld
import Derived.Lib.SmallJoins
import Derived.Deep.SlicePairs
set_option linter.unusedSimpArgs false
set_option linter.unusedVariables false
set_option maxHeartbeats 4000000
set_option maxRecDepth 100000
namespace Go.Proofs.YtbbhahigofeacaaDoor.Gen
open Go Go.Lift Go.Conc Go.RowKit
open R1 (fstI verI hdI)
structure ObjN (v:World) (S:TS) (xs:List Int) (pk:Nat->Option Obj) (S1:TS) (K:List (Nat×Int)) (u:World):Prop where
 size:v.heap.size≤u.heap.size
 has:Has pk u
 vals:K.map (·.2)=xs
 cels:∀ (j:Nat) (c:Nat×Int),K[j]? = some c->u.heap[c.1]? = some (.cells #[I 0,I c.2] 123 (0,0))∧v.heap.size≤c.1∧pk c.1=none
 nd:(K.map (·.1)).Nodup
 old:∀ b,b<v.heap.size->u.heap[b]? = v.heap[b]?
 os:u.os=v.os
 out:u.output=v.output
section
variable {v u u':World}{S S1:TS}{K:List (Nat×Int)}{xs:List Int}{pk:Nat->Option Obj}
theorem ObjN.lt (h:ObjN v S xs pk S1 K u) {b:Nat}{o:Obj}(hb:pk b=some o):b<u.heap.size:=(Array.getElem?_eq_some_iff.1 (h.has b o hb)).1
theorem ObjN.start (hpk:Has pk v):ObjN v S [] pk S1 [] v:=⟨Nat.le_refl _,hpk,rfl,fun j c h=>(by cases h),List.nodup_nil,fun _ _=>rfl,rfl,rfl⟩
theorem ObjN.grows (h:ObjN v S xs pk S1 K u) (g:Grows u u'):ObjN v S xs pk S1 K u':=by
 refine ⟨Nat.le_trans h.size g.size,fun b o hb=>by rw[g.old b (h.lt hb)];exact h.has b o hb,h.vals,fun j c hc=>?_,h.nd,fun b hb=>by rw[g.old b (by have:=h.size;omega)];exact h.old b hb,g.os.trans h.os,g.output.trans h.out⟩
 have:=h.cels j c hc
 exact ⟨by rw[g.old _ (Array.getElem?_eq_some_iff.1 this.1).1];exact this.1,this.2⟩
theorem ObjN.same (h:ObjN v S xs pk S1 K u) (e:u'.heap=u.heap) (e1:u'.os=u.os) (e2:u'.output=u.output):ObjN v S xs pk S1 K u':=h.grows ⟨by rw[e];exact Nat.le_refl _,fun b _=>by rw[e],e1,e2⟩
theorem ObjN.push (h:ObjN v S xs pk S1 K u) {c:Array Value}{t:TypeId}(e:u'.heap=u.heap.push (.cells c t)) (e1:u'.os=u.os) (e2:u'.output=u.output):ObjN v S xs (padd pk u.heap.size (.cells c t)) S1 K u':=by
 have g:Grows u u':=⟨by rw[e];simp,fun b hb=>by rw[e,Array.getElem?_push,if_neg (by omega)],e1,e2⟩
 have k:=h.grows g
 refine ⟨k.size,fun b o hb=>?_,k.vals,fun j c' hc=>?_,k.nd,k.old,k.os,k.out⟩
 ·by_cases hbu:b=u.heap.size
  ·subst hbu
   rw[Bt] at hb
   cases hb
   rw[e,Array.getElem?_push_size]
  ·rw[Av hbu] at hb;exact k.has b o hb
 ·have q:=k.cels j c' hc
  have hlt:=(Array.getElem?_eq_some_iff.1 (h.cels j c' hc).1).1
  exact ⟨q.1,q.2.1,by rw[Av (by omega)];exact q.2.2⟩
theorem ObjN.set (h:ObjN v S xs pk S1 K u) {b:Nat}{o o':Obj}(hb:pk b=some o) (hvb:v.heap.size≤b) (hw:∀ x,x≠b->u'.heap[x]? = u.heap[x]?) (hn:u'.heap[b]? = some o') (hs:u'.heap.size=u.heap.size) (e1:u'.os=u.os) (e2:u'.output=u.output) (hr:∃ c e f,o'=.cells c e f):ObjN v S xs (padd pk b o') S1 K u':=by
 refine ⟨by rw[hs];exact h.size,fun x y hx=>?_,h.vals,fun j c hc=>?_,h.nd,fun x hx=>by rw[hw x (by omega)];exact h.old x hx,e1.trans h.os,e2.trans h.out⟩
 ·by_cases e:x=b
  ·subst e;rw[Bt] at hx;cases hx;exact hn
  ·rw[Av e] at hx;rw[hw x e];exact h.has x y hx
 ·have q:=h.cels j c hc
  have hne:c.1≠b:=fun e=>by rw[e,hb] at q;cases q.2.2
  exact ⟨by rw[hw _ hne];exact q.1,q.2.1,by rw[Av hne];exact q.2.2⟩
theorem ObjN.cell (h:ObjN v S xs pk S1 K u) (x:Int) (hl:xs.length≤1000000):Calls Tryd.prog 41 #[.pointer none,I x] u (fun e w'=>∃ cb,e=.returned (Pt cb 0)∧u.heap.size≤w'.heap.size∧∃ S2,ObjN v S (xs++[x]) pk S2 (K++[(cb,x)]) w'):=by
 refine ((body10n u x).calls Tryd.func41 rfl).mono ?_
 rintro e w1 ⟨_,rfl,rfl,q1,q2,q3⟩
 have g:Grows u w1:=⟨by rw[q1];simp,fun b hb=>by rw[q1,Array.getElem?_push,if_neg (by omega)],q2,q3⟩
 have k:=h.grows g
 refine ⟨u.heap.size,rfl,g.size,S1,k.size,k.has,by rw[List.map_append,k.vals];rfl,fun j c hc=>?_,?_,k.old,k.os,k.out⟩
 ·rw[List.getElem?_append] at hc
  split at hc
  ·exact k.cels j c hc
  ·have e0:j - K.length=0:=by
    rcases Nat.eq_zero_or_pos (j - K.length) with h0|h0
    ·exact h0
    ·rw[List.getElem?_eq_none (by simp;omega)] at hc;cases hc
   rw[e0] at hc
   cases hc
   refine ⟨by rw[q1,Array.getElem?_push_size],h.size,?_⟩
   cases hp:pk u.heap.size with
   |none=>rfl
   |some o=>exact absurd (h.lt hp) (by omega)
 ·rw[List.map_append,List.nodup_append]
  refine ⟨k.nd,by simp,fun a ha b hb=>?_⟩
  simp only[List.map_cons,List.map_nil,List.mem_cons,List.not_mem_nil,or_false] at hb
  subst hb
  obtain ⟨c,hc,rfl⟩:=List.mem_map.1 ha
  obtain ⟨j,hj⟩:=List.mem_iff_getElem?.1 hc
  have:=(Array.getElem?_eq_some_iff.1 (h.cels j c hj).1).1
  omega
end
theorem slotsNewN {v u:World}{S S1:TS}{pk:Nat->Option Obj}(hO:ObjN v S [] pk S1 [] u) (hF:R1.Flds u) (n:Nat) (hn:n≤1000):Body Tryd.f24 #[.pointer none,I n] u (fun r u'=>r=Pt (u.heap.size+1) 0∧∃ S2 K pk',ObjN v S (nxs n n) pk' S2 K u'∧SlN pk pk' n (u.heap.size+1) u.heap.size K):=by
 intro code hb
 obtain rfl:=Option.some.inj hb
 clear hb
 have hmk:=make_slots n (by omega)
 rw[made_rowC n 1 94 [] (by simp)] at hmk
 have hmx:(Builtin.max_ #[3,3] 3 #[I n,I 0])=pure (I n):=by
  show (pure (Value.int .i64 (if (0:Int) > n then 0 else n)):Sem Value)=_
  rw[if_neg (by omega)]
 have hmn:(Builtin.min_ #[3,3] 3 #[I n,I 1000])=pure (I n):=by
  show (pure (Value.int .i64 (if (1000:Int)<n then 1000 else n)):Sem Value)=_
  rw[if_neg (by omega)]
 have huv:v.heap.size≤u.heap.size:=hO.size
 have HUV:Hid (v.heap.size≤u.heap.size):=⟨huv⟩
 have HN:Hid (n≤1000):=⟨hn⟩
 have HF:Hid (R1.Flds u):=⟨hF⟩
 have o1:=hO.push (u':=u.alloc (objC n 1 94 [])) (c:=(rowC (2*n) 1 []).toArray) (t:=94) rfl rfl rfl
 have o2:=o1.push (u':=(u.alloc (objC n 1 94 [])).alloc (.cells #[.pointer none,.slice (some ⟨u.heap.size,0,none⟩) n n] 91)) (c:=#[.pointer none,.slice (some ⟨u.heap.size,0,none⟩) n n]) (t:=91) rfl rfl rfl
 have hsz:(u.alloc (objC n 1 94 [])).heap.size=u.heap.size+1:=by simp
 rw[hsz] at o2
 have HO:Hid _:=⟨o2⟩
 have HP:Hid (∀ b o,pk b=some o->b<u.heap.size):=⟨fun b o hb=>hO.lt hb⟩
 clear hO o1 o2 hF huv hn
 simp only[Tryd.ntmps24,List.size_toArray,List.length_cons,List.length_nil,Nat.reduceAdd,Nat.reduceSub,Array.replicate_succ,Array.replicate_zero,List.push_toArray,List.append_toArray,List.nil_append,List.cons_append]
 go_wp2_with (first
  |(go_at_call 43;refine (behind0_any n HN.out _).mono ?_;rintro e w1 ⟨rfl,rfl⟩))
 refine ((R1.shead_any (bh 0 n) 0 _ (HF.out.below (((Below.refl _ _).alloc (Nat.le_refl _) _).alloc (by simp) _))).calls Tryd.func42 rfl).mono ?_
 rintro e u3 ⟨r,rfl,rfl,hb3⟩
 have HO3:Hid _:=⟨HO.out.grows (Dl hb3)⟩
 clear hb3 HF HO hmk hmx hmn
 have hlt0:=HP.out
 generalize hNN:u.heap.size=N at *
 go_wp2_with (first
  |(go_at_call 41;refine (HO3.out.cell (hdI (bh 0 n) 0) (by simp)).mono ?_;rintro e w4 ⟨c0,rfl,hs4,S2,o4⟩
    have HO4:Hid _:=⟨o4⟩
    have hB:=o4.has (N+1) _ (Bt _ _ _)
    have c5:w4.cell? ⟨N+1,0,none⟩=some (.pointer none):=cell_of hB rfl
    have c6:w4.frozen? ⟨N+1,0,none⟩=false:=by simp[World.frozen?,hB]
    have c7:w4.cell? ⟨N+1,1,none⟩=some (.slice (some ⟨N,0,none⟩) n n):=cell_of hB rfl
    have HB:Hid (w4.heap[N+1]? = _):=⟨hB⟩
    clear o4 hB HO3))
 go_loopw [27] (fun i u'=>∃ (k:Nat) (K:List (Nat×Int)) (S1':TS) (pk':Nat->Option Obj),k≤n∧i=.int .i64 k∧K.length=1+2*k∧ObjN v S (nxs n k) pk' S1' K u'∧SlN pk pk' n (N+1) N K) (fun i _=>n - (intOf i).toNat)
 case atStart =>
  refine ⟨0,[(c0,hdI (bh 0 n) 0)],S2,_,Nat.zero_le _,rfl,rfl,HO4.out.set (b:=N+1) (o':=.cells #[Pt c0 0,.slice (some ⟨N,0,none⟩) n n] 91 (0,0)) (Bt _ _ _) (by have:=HUV.out;omega) (fun x hx=>Below.heap_setCell _ _ _ _ hx) ?_ (by simp[World.setCell]) rfl rfl ⟨_,_,_,rfl⟩,?_⟩
  ·have:=heap_setCell_same (o:=0) HB.out (Pt c0 0)
   simpa using this
  ·refine ⟨fun b o hb=>?_,⟨_,rfl,Bt _ _ _⟩,?_⟩
   ·have:=hlt0 b o hb
    rw[Av (by omega),Av (by omega),Av (by omega)]
    exact hb
   ·rw[Av (by omega),Av (by omega),Bt]
    rw[objC_none (K:=[(c0,hdI (bh 0 n) 0)]) (by simp)]
    rfl
 case round =>
  obtain ⟨k,K,S1',pk',hk,rfl,hK,hO,hS⟩:=hrel
  have HOB:Hid (ObjN v S (nxs n k) pk' S1' K wr):=⟨hO⟩
  have HS:Hid (SlN pk pk' n (N+1) N K):=⟨hS⟩
  obtain ⟨cc,hcc,hbox⟩:=hS.box
  have hB:=hO.has (N+1) _ hbox
  have c1:wr.cell? ⟨N+1,1,none⟩=some (.slice (some ⟨N,0,none⟩) n n):=cell_of hB rfl
  clear HO4 HB c5 c6 c7 hO hS hB
  have HBX:Hid (pk' (N+1)=_):=⟨hbox⟩
  clear hbox
  by_cases hlt:k<n
  ·have hks:(k:Int)<(n:Int):=by omega
   go_wp2_with fail
   go_region_held3 (fun u=>u.cell? ⟨N+1,1,none⟩=some (.slice (some ⟨N,0,none⟩) n n))
    (first|assumption|(simp[go_sem, *];done))
    (first
      |(go_at_call 43;refine (behind_any k n (by have:=HN.out;omega) HN.out _).mono ?_;rintro e w1 ⟨rfl,rfl⟩)
      |(go_at_call 41;refine ((HOB.out.same (u':=wr.drew) rfl rfl rfl).cell (bh (k+1) n) (by rw[Ek];have:=HN.out;omega)).mono ?_;rintro e w1 ⟨cb,rfl,hs1,S2,o2⟩
        have HO2:Hid (ObjN v S (nxs n k++[bh (k+1) n]) pk' S2 (K++[(cb,bh (k+1) n)]) w1):=⟨o2⟩
        have hN:=o2.has N _ HS.out.row
        have c2:w1.cell? ⟨N+1,1,none⟩=some (.slice (some ⟨N,0,none⟩) n n):=cell_of (o2.has (N+1) _ HBX.out) rfl
        obtain ⟨c3,c4⟩:=I7 (j:=k*2) hN (by omega) (by omega)
        have HN1:Hid (w1.heap[N]? = some (objC n 1 94 K)):=⟨hN⟩
        clear o2 hN))
   have O3:=HO2.out.set (b:=N) (o':=objC n 1 94 (K++[(cb,bh (k+1) n)])) (u':=w1.setCell ⟨N,k*2,none⟩ (.pointer (some ⟨cb,0,none⟩))) HS.out.row HUV.out (fun x hx=>Below.heap_setCell _ _ _ _ hx) (F6 (j:=k*2) (cb,bh (k+1) n) HN1.out (by omega) (by omega)) (by simp[World.setCell]) rfl rfl ⟨_,_,_,rfl⟩
   have HO3:Hid _:=⟨O3⟩
   clear O3 HO2 HN1 c2 c3 c4 hs1
   generalize hW:w1.setCell ⟨N,k*2,none⟩ (.pointer (some ⟨cb,0,none⟩))=W at *
   have hLK:(K++[(cb,bh (k+1) n)]).length=1+(k*2+1):=by rw[List.length_append,hK];simp;omega
   go_wp2_with fail
   go_region_held3 (fun u=>u.cell? ⟨N+1,1,none⟩=some (.slice (some ⟨N,0,none⟩) n n))
    (first|assumption|(simp[go_sem, *];done))
    (first
      |(go_at_call 41;refine ((HO3.out.same (u':=W.drew) rfl rfl rfl).cell 0 (by rw[List.length_append,Ek];have:=HN.out;simp;omega)).mono ?_;rintro e w2 ⟨cb2,rfl,hs2,S3,o2⟩
        have HO5:Hid _:=⟨o2⟩
        have hN:=o2.has N _ (Bt _ _ _)
        have c2:w2.cell? ⟨N+1,1,none⟩=some (.slice (some ⟨N,0,none⟩) n n):=cell_of (o2.has (N+1) _ (by rw[Av (by omega)];exact HBX.out)) rfl
        obtain ⟨c3,c4⟩:=I7 (j:=k*2+1) hN hLK (by omega)
        have HN2:Hid (w2.heap[N]? = some (objC n 1 94 (K++[(cb,bh (k+1) n)]))):=⟨hN⟩
        clear o2 hN))
   have hn3:=HN.out
   go_wp2_with fail
   go_roundw
   case rel =>
    have O6:=HO5.out.set (b:=N) (o':=objC n 1 94 (K++[(cb,bh (k+1) n)]++[(cb2,0)])) (u':=w2.setCell ⟨N,k*2+1,none⟩ (.pointer (some ⟨cb2,0,none⟩))) (Bt _ _ _) HUV.out (fun x hx=>Below.heap_setCell _ _ _ _ hx) (F6 (j:=k*2+1) (cb2,0) HN2.out hLK (by omega)) (by simp[World.setCell]) rfl rfl ⟨_,_,_,rfl⟩
    refine ⟨k+1,K++[(cb,bh (k+1) n)]++[(cb2,0)],S3,_,by omega,by go_num,by rw[List.length_append,hLK];simp;omega,O6,fun b o hb=>?_,?_,Bt _ _ _⟩
    ·have:=hlt0 b o hb
     rw[Av (by omega),Av (by omega)]
     exact HS.out.old b o hb
    ·refine ⟨cc,?_,?_⟩
     ·rw[List.append_assoc,List.getElem?_append_left (by omega)];exact hcc
     ·rw[Av (by omega),Av (by omega)];exact HBX.out
   case measure=>simp[intOf];omega
  ·have:k=n:=by omega
   subst this
   go_wp2_with fail
   go_ret
   subst hNN
   exact ⟨_,rfl,rfl,S1',K,pk',HOB.out,HS.out⟩
theorem stackNewN {v:World}{S:TS}{pk:Nat->Option Obj}(hO:ObjN v S [] pk S [] v) (hF:R1.Flds v) (n:Nat) (hn:n≤1000):Body Tryd.f49 #[.pointer none,I n] v (fun r u'=>r=Pt (v.heap.size+1) 0∧∃ S2 K pk',ObjN v S (sts n n) pk' S2 K u'∧StkN pk pk' n (v.heap.size+1) (v.heap.size+3) (v.heap.size+2) v.heap.size K):=by
 intro code hb
 obtain rfl:=Option.some.inj hb
 clear hb
 have hmk:=make_places n (by omega)
 rw[made_rowC n (2*n+2) 134 [] (by simp)] at hmk
 have hmx:(Builtin.max_ #[3,3] 3 #[I n,I 0])=pure (I n):=by
  show (pure (Value.int .i64 (if (0:Int) > n then 0 else n)):Sem Value)=_
  rw[if_neg (by omega)]
 have hmn:(Builtin.min_ #[3,3] 3 #[I n,I 1000])=pure (I n):=by
  show (pure (Value.int .i64 (if (1000:Int)<n then 1000 else n)):Sem Value)=_
  rw[if_neg (by omega)]
 have HN:Hid (n≤1000):=⟨hn⟩
 have o1:=hO.push (u':=v.alloc (objC n (2*n+2) 134 [])) (c:=(rowC (2*n) (2*n+2) []).toArray) (t:=134) rfl rfl rfl
 have o2:=o1.push (u':=(v.alloc (objC n (2*n+2) 134 [])).alloc (.cells #[.pointer none,.pointer none,.slice (some ⟨v.heap.size,0,none⟩) n n] 132)) (c:=#[.pointer none,.pointer none,.slice (some ⟨v.heap.size,0,none⟩) n n]) (t:=132) rfl rfl rfl
 have hsz:(v.alloc (objC n (2*n+2) 134 [])).heap.size=v.heap.size+1:=by simp
 rw[hsz] at o2
 have h24:=(slotsNewN o2 (hF.below (((Below.refl _ _).alloc (Nat.le_refl _) _).alloc (by simp) _)) n hn).calls Tryd.func24 rfl
 rw[show ((v.alloc (objC n (2*n+2) 134 [])).alloc (.cells #[.pointer none,.pointer none,.slice (some ⟨v.heap.size,0,none⟩) n n] 132)).heap.size=v.heap.size+2 by simp] at h24
 have H24:Hid _:=⟨h24⟩
 have HP:Hid (∀ b o,pk b=some o->b<v.heap.size):=⟨fun b o hb=>hO.lt hb⟩
 clear hO o1 o2 hF hn h24
 simp only[Tryd.ntmps49,List.size_toArray,List.length_cons,List.length_nil,Nat.reduceAdd,Nat.reduceSub,Array.replicate_succ,Array.replicate_zero,List.push_toArray,List.append_toArray,List.nil_append,List.cons_append]
 go_wp2_with fail
 refine H24.out.mono ?_
 rintro e u3 ⟨r,rfl,rfl,S3,K3,pk3,o3,hs3⟩
 clear H24 hmk hmx hmn
 have hlt0:=HP.out
 have hNv:v.heap.size≤v.heap.size:=Nat.le_refl _
 generalize hNN:v.heap.size=N at *
 have hbx:=hs3.old (N+1) _ (Bt _ _ _)
 have hrw:=hs3.old N _ (by rw[Av (by omega),Bt])
 have hK3:K3.length=1+2*n:=by have:=congrArg List.length o3.vals;rw[List.length_map,Ek] at this;exact this
 have hB:=o3.has (N+1) _ hbx
 have c0:u3.cell? ⟨N+1,0,none⟩=some (.pointer none):=cell_of hB rfl
 have c1:u3.frozen? ⟨N+1,0,none⟩=false:=by simp[World.frozen?,hB]
 have O4:=o3.set (b:=N+1) (o':=.cells #[Pt (N+3) 0,.pointer none,.slice (some ⟨N,0,none⟩) n n] 132 (0,0)) (u':=u3.setCell ⟨N+1,0,none⟩ (Pt (N+3) 0)) hbx (by omega) (fun x hx=>Below.heap_setCell _ _ _ _ hx) (by have:=heap_setCell_same (o:=0) hB (Pt (N+3) 0);simpa using this) (by simp[World.setCell]) rfl rfl ⟨_,_,_,rfl⟩
 have HO4:Hid _:=⟨O4⟩
 have HS3:Hid _:=⟨hs3⟩
 have HRW:Hid _:=⟨hrw⟩
 clear O4 o3 hs3 hbx hB hrw
 go_wp2_with (first
  |(go_at_call 41;refine (HO4.out.cell 0 (by rw[Ek];have:=HN.out;omega)).mono ?_;rintro e w4 ⟨hc,rfl,hs4,S4,o4⟩
    have HO5:Hid _:=⟨o4⟩
    have hB:=o4.has (N+1) _ (Bt _ _ _)
    have c5:w4.cell? ⟨N+1,1,none⟩=some (.pointer none):=cell_of hB rfl
    have c6:w4.frozen? ⟨N+1,1,none⟩=false:=by simp[World.frozen?,hB]
    have c7:w4.cell? ⟨N+1,2,none⟩=some (.slice (some ⟨N,0,none⟩) n n):=cell_of hB rfl
    have HB:Hid (w4.heap[N+1]? = _):=⟨hB⟩
    clear o4 hB HO4 c0 c1))
 go_loopw [30] (fun i u'=>∃ (k:Nat) (K:List (Nat×Int)) (S1':TS) (pk':Nat->Option Obj),k≤n∧i=.int .i64 k∧K.length=2*n+2+2*k∧ObjN v S (sts n k) pk' S1' K u'∧StkN pk pk' n (N+1) (N+3) (N+2) N K) (fun i _=>n - (intOf i).toNat)
 case atStart =>
  have hold:=HS3.out.old
  obtain ⟨cz,hcz,hbz⟩:=HS3.out.box
  refine ⟨0,K3++[(hc,0)],S4,_,Nat.zero_le _,rfl,by rw[List.length_append,hK3];simp;omega,HO5.out.set (b:=N+1) (o':=.cells #[Pt (N+3) 0,Pt hc 0,.slice (some ⟨N,0,none⟩) n n] 132 (0,0)) (Bt _ _ _) (by omega) (fun x hx=>Below.heap_setCell _ _ _ _ hx) ?_ (by simp[World.setCell]) rfl rfl ⟨_,_,_,rfl⟩,?_⟩
  ·have:=heap_setCell_same (o:=1) HB.out (Pt hc 0)
   simpa using this
  ·refine ⟨fun b o hb=>?_,⟨cz,?_,?_⟩,?_,⟨(hc,0),?_,Bt _ _ _⟩,?_⟩
   ·have:=hlt0 b o hb
    rw[Av (by omega),Av (by omega)]
    refine hold b o ?_
    rw[Av (by omega),Av (by omega)]
    exact hb
   ·rw[List.getElem?_append_left (by omega)];exact hcz
   ·rw[Av (by omega),Av (by omega)];exact hbz
   ·rw[Av (by omega),Av (by omega),Ju _ (by omega)];exact HS3.out.row
   ·rw[show 2*n+1=K3.length by omega];simp
   ·rw[Av (by omega),Av (by omega),objC_none (by rw[List.length_append,hK3];simp;omega)];exact HRW.out
 case round =>
  obtain ⟨k,K,S1',pk',hk,rfl,hK,hO,hS⟩:=hrel
  have HOB:Hid (ObjN v S (sts n k) pk' S1' K wr):=⟨hO⟩
  have HS:Hid (StkN pk pk' n (N+1) (N+3) (N+2) N K):=⟨hS⟩
  obtain ⟨cc,hcc,hbox⟩:=hS.box
  have hB:=hO.has (N+1) _ hbox
  have c1:wr.cell? ⟨N+1,2,none⟩=some (.slice (some ⟨N,0,none⟩) n n):=cell_of hB rfl
  clear HO5 HB c5 c6 c7 hO hS hB HS3 HRW
  have HBX:Hid (pk' (N+1)=_):=⟨hbox⟩
  clear hbox
  by_cases hlt:k<n
  ·have hks:(k:Int)<(n:Int):=by omega
   go_wp2_with fail
   go_region_held3 (fun u=>u.cell? ⟨N+1,2,none⟩=some (.slice (some ⟨N,0,none⟩) n n))
    (first|assumption|(simp[go_sem, *];done))
    (first
      |(go_at_call 41;refine ((HOB.out.same (u':=wr.drew) rfl rfl rfl).cell 0 (by rw[Fb];have:=HN.out;omega)).mono ?_;rintro e w1 ⟨cb,rfl,hs1,S2,o2⟩
        have HO2:Hid (ObjN v S (sts n k++[0]) pk' S2 (K++[(cb,0)]) w1):=⟨o2⟩
        have hN:=o2.has N _ HS.out.row
        have c2:w1.cell? ⟨N+1,2,none⟩=some (.slice (some ⟨N,0,none⟩) n n):=cell_of (o2.has (N+1) _ HBX.out) rfl
        obtain ⟨c3,c4⟩:=I7 (j:=k*2) hN (by omega) (by omega)
        have HN1:Hid (w1.heap[N]? = some (objC n (2*n+2) 134 K)):=⟨hN⟩
        clear o2 hN))
   have O3:=HO2.out.set (b:=N) (o':=objC n (2*n+2) 134 (K++[(cb,0)])) (u':=w1.setCell ⟨N,k*2,none⟩ (.pointer (some ⟨cb,0,none⟩))) HS.out.row (by omega) (fun x hx=>Below.heap_setCell _ _ _ _ hx) (F6 (j:=k*2) (cb,0) HN1.out (by omega) (by omega)) (by simp[World.setCell]) rfl rfl ⟨_,_,_,rfl⟩
   have HO3:Hid _:=⟨O3⟩
   clear O3 HO2 HN1 c2 c3 c4 hs1
   generalize hW:w1.setCell ⟨N,k*2,none⟩ (.pointer (some ⟨cb,0,none⟩))=W at *
   have hLK:(K++[(cb,(0:Int))]).length=2*n+2+(k*2+1):=by rw[List.length_append,hK];simp;omega
   go_wp2_with fail
   go_region_held3 (fun u=>u.cell? ⟨N+1,2,none⟩=some (.slice (some ⟨N,0,none⟩) n n))
    (first|assumption|(simp[go_sem, *];done))
    (first
      |(go_at_call 41;refine ((HO3.out.same (u':=W.drew) rfl rfl rfl).cell 0 (by rw[List.length_append,Fb];have:=HN.out;simp;omega)).mono ?_;rintro e w2 ⟨cb2,rfl,hs2,S3,o2⟩
        have HO5:Hid _:=⟨o2⟩
        have hN:=o2.has N _ (Bt _ _ _)
        have c2:w2.cell? ⟨N+1,2,none⟩=some (.slice (some ⟨N,0,none⟩) n n):=cell_of (o2.has (N+1) _ (by rw[Av (by omega)];exact HBX.out)) rfl
        obtain ⟨c3,c4⟩:=I7 (j:=k*2+1) hN hLK (by omega)
        have HN2:Hid (w2.heap[N]? = some (objC n (2*n+2) 134 (K++[(cb,0)]))):=⟨hN⟩
        clear o2 hN))
   have hn3:=HN.out
   go_wp2_with fail
   go_roundw
   case rel =>
    have O6:=HO5.out.set (b:=N) (o':=objC n (2*n+2) 134 (K++[(cb,0)]++[(cb2,0)])) (u':=w2.setCell ⟨N,k*2+1,none⟩ (.pointer (some ⟨cb2,0,none⟩))) (Bt _ _ _) (by omega) (fun x hx=>Below.heap_setCell _ _ _ _ hx) (F6 (j:=k*2+1) (cb2,0) HN2.out hLK (by omega)) (by simp[World.setCell]) rfl rfl ⟨_,_,_,rfl⟩
    obtain ⟨cz,hcz,hbz⟩:=HS.out.sbox
    refine ⟨k+1,K++[(cb,0)]++[(cb2,0)],S3,_,by omega,by go_num,by rw[List.length_append,hLK];simp;omega,O6,fun b o hb=>?_,⟨cz,?_,?_⟩,?_,⟨cc,?_,?_⟩,Bt _ _ _⟩
    ·have:=hlt0 b o hb
     rw[Av (by omega),Av (by omega)]
     exact HS.out.old b o hb
    ·rw[List.append_assoc,List.getElem?_append_left (by omega)];exact hcz
    ·rw[Av (by omega),Av (by omega)];exact hbz
    ·rw[Av (by omega),Av (by omega),Ju _ (by omega),Ju _ (by omega)];exact HS.out.srow
    ·rw[List.append_assoc,List.getElem?_append_left (by omega)];exact hcc
    ·rw[Av (by omega),Av (by omega)];exact HBX.out
   case measure=>simp[intOf];omega
  ·have:k=n:=by omega
   subst this
   go_wp2_with fail
   go_ret
   subst hNN
   exact ⟨_,rfl,rfl,S1',K,pk',HOB.out,HS.out⟩
noncomputable def hwB:Code:=Tryd.f27.body.getD .skip
noncomputable def y0:Code:=seq1 hwB
noncomputable def y1:Code:=seq1 (seq2 hwB)
noncomputable def y2:Code:=seq1 (seq2 (seq2 hwB))
noncomputable def y3:Code:=seq1 (seq2 (seq2 (seq2 hwB)))
noncomputable def y4:Code:=seq1 (seq2 (seq2 (seq2 (seq2 hwB))))
noncomputable def y5:Code:=seq1 (seq2 (seq2 (seq2 (seq2 (seq2 hwB)))))
noncomputable def y6:Code:=seq1 (seq1 (seq2 (seq2 (seq2 (seq2 (seq2 (seq2 hwB)))))))
noncomputable def y7:Code:=condA (seq2 (seq1 (seq2 (seq2 (seq2 (seq2 (seq2 (seq2 hwB))))))))
noncomputable def y8:Code:=seq1 (seq2 (seq2 (seq2 (seq2 (seq2 (seq2 (seq2 hwB)))))))
noncomputable def y9:Code:=seq1 (seq2 (seq2 (seq2 (seq2 (seq2 (seq2 (seq2 (seq2 hwB))))))))
noncomputable def y10:Code:=seq1 (seq2 (seq2 (seq2 (seq2 (seq2 (seq2 (seq2 (seq2 (seq2 hwB)))))))))
noncomputable def y11:Code:=seq1 (seq2 (seq2 (seq2 (seq2 (seq2 (seq2 (seq2 (seq2 (seq2 (seq2 hwB))))))))))
noncomputable def y12:Code:=seq1 (seq2 (seq2 (seq2 (seq2 (seq2 (seq2 (seq2 (seq2 (seq2 (seq2 (seq2 hwB)))))))))))
noncomputable def y13:Code:=(seq2 (seq2 (seq2 (seq2 (seq2 (seq2 (seq2 (seq2 (seq2 (seq2 (seq2 (seq2 hwB))))))))))))
noncomputable def Y12:Code:=.seq y12 y13
noncomputable def Y11:Code:=.seq y11 Y12
noncomputable def Y10:Code:=.seq y10 Y11
noncomputable def Y9:Code:=.seq y9 Y10
noncomputable def Y8:Code:=.seq y8 Y9
noncomputable def Y4:Code:=.seq y4 (.seq y5 (.seq (.seq y6 (.cond (.tmp 51) y7 .skip)) Y8))
noncomputable def Y3:Code:=.seq y3 Y4
theorem eHwB:hwB=.seq y0 (.seq y1 (.seq y2 Y3)):=by kernel_rfl
theorem fine_y0:A7 Tryd.prog true LV y0:=B0 Bw extT (by kernel_rfl)
theorem fine_y1:A7 Tryd.prog true LV y1:=B0 Bw extT (by kernel_rfl)
theorem fine_y4:A7 Tryd.prog true LV y4:=B0 Bw extT (by kernel_rfl)
theorem fine_y5:A7 Tryd.prog true LV y5:=B0 Bw extT (by kernel_rfl)
theorem fine_y6:A7 Tryd.prog true LV y6:=B0 Bw extT (by kernel_rfl)
theorem fine_y12:A7 Tryd.prog true LV y12:=B0 Bw extT (by kernel_rfl)
theorem fine_y13:A7 Tryd.prog true LV y13:=B0 Bw extT (by kernel_rfl)
theorem y0_wp {v:World}{a:Act}   (hA:Fl 137 [] a):y0.wp Tryd.prog (fun e a' w'=>e=.normal∧Fl 137 [(0,.bool false)] a'∧w'.heap=v.heap∧w'.os=v.os∧w'.output=v.output) a v:=by
 obtain ⟨hsz,hd,hp⟩:=hA
 obtain ⟨u,rfl,hg⟩:=litN hsz hd
 clear hg hp hsz hd
 unfold y0 hwB Tryd.f27 seq1
 simp only[Option.getD_some,lits,Nat.reduceAdd]
 go_wp2_with fail
 first|refine ⟨?_,rfl,rfl,rfl⟩|refine ⟨?_,rfl,rfl⟩|refine ⟨?_,rfl⟩|skip
 exact ⟨rfl,rfl,by
  intro p hp
  simp only[List.mem_cons,List.not_mem_nil,or_false] at hp
  rcases hp with rfl<;>first|rfl|exact congrArg I (by omega)|exact congrArg Value.bool (by simp)⟩
theorem y1_wp {v:World}{a:Act}(hA:Fl 137 [(0,.bool false)] a) :
 y1.wp Tryd.prog (fun e a w'=>e=.normal∧∃ wb bk sc,Fl 137 [(0,.bool false),(1,Pt wb 0)] a∧IsNew v [] wb bk sc w') a v:=by
 have H7:Hid (Calls Tryd.prog 14 #[.slice none 0 0] v _):=⟨(body70 (v:=v) none 0).calls Tryd.func14 rfl⟩
 obtain ⟨hsz,hd,hp⟩:=hA
 obtain ⟨u,rfl,hg⟩:=litN hsz hd
 have u0:=(hg 0).symm.trans (hp (0,.bool false) (by simp))
 clear hg hp hsz hd
 unfold y1 hwB Tryd.f27 seq2 seq1
 simp only[Option.getD_some,lits,Nat.reduceAdd,u0]
 clear u0
 go_wp2_with (first
  |(go_at_call 14;refine H7.out.mono ?_;rintro e w1 ⟨_,rfl,wb,bk,sc,rfl,hnew⟩))
 exact ⟨wb,⟨rfl,rfl,by
  intro p hp
  simp only[List.mem_cons,List.not_mem_nil,or_false] at hp
  rcases hp with rfl|rfl<;>first|rfl|exact congrArg I (by omega)|exact congrArg Value.bool (by simp)⟩,bk,sc,hnew⟩
theorem y4_wp {v:World}{a:Act}{M:Nat}(hA:Fl 137 [(0,.bool false),(2,.slice (some ⟨M,0,none⟩) 1 1),(3,I 0),(5,I 1)] a) :
 y4.wp Tryd.prog (fun e a w'=>e=.normal∧Fl 137 [(0,.bool false),(2,.slice (some ⟨M,0,none⟩) 1 1),(3,I 0),(5,I 1),(6,Pt v.heap.size 0)] a∧w'.heap=v.heap.push (.cells #[.pointer none,I 0,.chan none,I 0,I 0,I 0,I 0] 87)∧w'.os=v.os∧w'.output=v.output) a v:=by
 have H7:Hid (Calls Tryd.prog 23 #[I 0] v _):=⟨(body11 v 0).calls Tryd.func23 rfl⟩
 obtain ⟨hsz,hd,hp⟩:=hA
 obtain ⟨u,rfl,hg⟩:=litN hsz hd
 have u0:=(hg 0).symm.trans (hp (0,.bool false) (by simp))
 have u2:=(hg 2).symm.trans (hp (2,.slice (some ⟨M,0,none⟩) 1 1) (by simp))
 have u3:=(hg 3).symm.trans (hp (3,I 0) (by simp))
 have u5:=(hg 5).symm.trans (hp (5,I 1) (by simp))
 clear hg hp hsz hd
 unfold y4 hwB Tryd.f27 seq2 seq1
 simp only[Option.getD_some,lits,Nat.reduceAdd,u0,u2,u3,u5]
 clear u0 u2 u3 u5
 go_wp2_with (first
  |(go_at_call 23;refine H7.out.mono ?_;rintro e w1 ⟨_,rfl,rfl,k1,k2,k3⟩))
 first|exact ⟨⟨rfl,rfl,by
  intro p hp
  simp only[List.mem_cons,List.not_mem_nil,or_false] at hp
  rcases hp with rfl|rfl|rfl|rfl|rfl<;>first|rfl|exact congrArg I (by omega)|exact congrArg Value.bool (by simp)⟩,k1,k2,k3⟩|exact ⟨rfl,rfl,by
  intro p hp
  simp only[List.mem_cons,List.not_mem_nil,or_false] at hp
  rcases hp with rfl|rfl|rfl|rfl|rfl<;>first|rfl|exact congrArg I (by omega)|exact congrArg Value.bool (by simp)⟩
theorem y5_wp {v:World}{a:Act}{M tb:Nat}(S:TS) {pk0:Nat->Option Obj}(hpk:Has pk0 v) (hG:GF pk0) (hA:Fl 137 [(0,.bool false),(2,.slice (some ⟨M,0,none⟩) 1 1),(3,I 0),(5,I 1),(6,Pt tb 0)] a) :
 y5.wp Tryd.prog (fun e a w'=>e=.normal∧Fl 137 [(0,.bool false),(2,.slice (some ⟨M,0,none⟩) 1 1),(3,I 0),(5,I 1),(6,Pt tb 0),(7,Pt (v.heap.size+1) 0)] a∧∃ S2 K pk',ObjN v S (sts 1 1) pk' S2 K w'∧StkN pk0 pk' 1 (v.heap.size+1) (v.heap.size+3) (v.heap.size+2) v.heap.size K) a v:=by
 have H7:Hid (Calls Tryd.prog 49 #[.pointer none,I ((1:Nat):Int)] v _):=⟨(stackNewN (S:=S) (ObjN.start hpk) (hG.flds hpk) 1 (by decide)).calls Tryd.func49 rfl⟩
 obtain ⟨hsz,hd,hp⟩:=hA
 obtain ⟨u,rfl,hg⟩:=litN hsz hd
 have u0:=(hg 0).symm.trans (hp (0,.bool false) (by simp))
 have u2:=(hg 2).symm.trans (hp (2,.slice (some ⟨M,0,none⟩) 1 1) (by simp))
 have u3:=(hg 3).symm.trans (hp (3,I 0) (by simp))
 have u5:=(hg 5).symm.trans (hp (5,I 1) (by simp))
 have u6:=(hg 6).symm.trans (hp (6,Pt tb 0) (by simp))
 clear hg hp hsz hd
 unfold y5 hwB Tryd.f27 seq2 seq1
 simp only[Option.getD_some,lits,Nat.reduceAdd,u0,u2,u3,u5,u6]
 clear u0 u2 u3 u5 u6
 go_wp2_with (first
  |(go_at_call 49;refine H7.out.mono ?_;rintro e w1 ⟨_,rfl,rfl,k1⟩))
 first|exact ⟨⟨rfl,rfl,by
  intro p hp
  simp only[List.mem_cons,List.not_mem_nil,or_false] at hp
  rcases hp with rfl|rfl|rfl|rfl|rfl|rfl<;>first|rfl|exact congrArg I (by omega)|exact congrArg Value.bool (by simp)⟩,k1⟩|exact ⟨rfl,rfl,by
  intro p hp
  simp only[List.mem_cons,List.not_mem_nil,or_false] at hp
  rcases hp with rfl|rfl|rfl|rfl|rfl|rfl<;>first|rfl|exact congrArg I (by omega)|exact congrArg Value.bool (by simp)⟩
theorem y6_wp {v:World}{a:Act}{M tb c A0:Nat}(c0:v.cell? ⟨M,0,none⟩=some (.slice (some ⟨A0,0,none⟩) 6 6)) (hA:Fl 137 [(0,.bool false),(2,.slice (some ⟨M,0,none⟩) 1 1),(3,I 0),(5,I 1),(6,Pt tb 0),(7,Pt c 0)] a):y6.wp Tryd.prog (fun e a' w'=>e=.normal∧Fl 137 [(0,.bool false),(2,.slice (some ⟨M,0,none⟩) 1 1),(3,I 0),(5,I 1),(6,Pt tb 0),(7,Pt c 0),(51,.bool false)] a'∧w'.heap=v.heap∧w'.os=v.os∧w'.output=v.output) a v:=by
 obtain ⟨hsz,hd,hp⟩:=hA
 obtain ⟨u,rfl,hg⟩:=litN hsz hd
 have u0:=(hg 0).symm.trans (hp (0,.bool false) (by simp))
 have u2:=(hg 2).symm.trans (hp (2,.slice (some ⟨M,0,none⟩) 1 1) (by simp))
 have u3:=(hg 3).symm.trans (hp (3,I 0) (by simp))
 have u5:=(hg 5).symm.trans (hp (5,I 1) (by simp))
 have u6:=(hg 6).symm.trans (hp (6,Pt tb 0) (by simp))
 have u7:=(hg 7).symm.trans (hp (7,Pt c 0) (by simp))
 clear hg hp hsz hd
 unfold y6 hwB Tryd.f27 seq2 seq1
 simp only[Option.getD_some,lits,Nat.reduceAdd,u0,u2,u3,u5,u6,u7]
 clear u0 u2 u3 u5 u6 u7
 go_wp2_with fail
 first|refine ⟨?_,rfl,rfl,rfl⟩|refine ⟨?_,rfl,rfl⟩|refine ⟨?_,rfl⟩|skip
 exact ⟨rfl,rfl,by
  intro p hp
  simp only[List.mem_cons,List.not_mem_nil,or_false] at hp
  rcases hp with rfl|rfl|rfl|rfl|rfl|rfl|rfl<;>first|rfl|exact congrArg I (by omega)|exact congrArg Value.bool (by simp)⟩
theorem y12_wp {v:World}{a:Act}{M tb c:Nat}  (hA:Fl 137 [(0,.bool false),(2,.slice (some ⟨M,0,none⟩) 1 1),(3,I 0),(5,I 1),(6,Pt tb 0),(7,Pt c 0),(8,I 0),(9,I 80),(10,I 5),(11,I 0),(12,I 0),(13,I 90)] a):y12.wp Tryd.prog (fun e a' w'=>e=.normal∧Fl 137 [(0,.bool false),(2,.slice (some ⟨M,0,none⟩) 1 1),(3,I 0),(5,I 1),(6,Pt tb 0),(7,Pt c 0),(8,I 0),(9,I 80),(10,I 5),(11,I 0),(12,I 0),(13,I 90),(14,.bool true)] a'∧w'.heap=v.heap∧w'.os=v.os∧w'.output=v.output) a v:=by
 obtain ⟨hsz,hd,hp⟩:=hA
 obtain ⟨u,rfl,hg⟩:=litN hsz hd
 have u0:=(hg 0).symm.trans (hp (0,.bool false) (by simp))
 have u2:=(hg 2).symm.trans (hp (2,.slice (some ⟨M,0,none⟩) 1 1) (by simp))
 have u3:=(hg 3).symm.trans (hp (3,I 0) (by simp))
 have u5:=(hg 5).symm.trans (hp (5,I 1) (by simp))
 have u6:=(hg 6).symm.trans (hp (6,Pt tb 0) (by simp))
 have u7:=(hg 7).symm.trans (hp (7,Pt c 0) (by simp))
 have u8:=(hg 8).symm.trans (hp (8,I 0) (by simp))
 have u9:=(hg 9).symm.trans (hp (9,I 80) (by simp))
 have u10:=(hg 10).symm.trans (hp (10,I 5) (by simp))
 have u11:=(hg 11).symm.trans (hp (11,I 0) (by simp))
 have u12:=(hg 12).symm.trans (hp (12,I 0) (by simp))
 have u13:=(hg 13).symm.trans (hp (13,I 90) (by simp))
 clear hg hp hsz hd
 unfold y12 hwB Tryd.f27 seq2 seq1
 simp only[Option.getD_some,lits,Nat.reduceAdd,u0,u2,u3,u5,u6,u7,u8,u9,u10,u11,u12,u13]
 clear u0 u2 u3 u5 u6 u7 u8 u9 u10 u11 u12 u13
 go_wp2_with fail
 first|refine ⟨?_,rfl,rfl,rfl⟩|refine ⟨?_,rfl,rfl⟩|refine ⟨?_,rfl⟩|skip
 exact ⟨rfl,rfl,by
  intro p hp
  simp only[List.mem_cons,List.not_mem_nil,or_false] at hp
  rcases hp with rfl|rfl|rfl|rfl|rfl|rfl|rfl|rfl|rfl|rfl|rfl|rfl|rfl<;>first|rfl|exact congrArg I (by omega)|exact congrArg Value.bool (by simp)⟩
theorem y13_wp {v:World}{a:Act}{M tb c A0:Nat}(c0:v.cell? ⟨M,0,none⟩=some (.slice (some ⟨A0,0,none⟩) 6 6)) (c4:v.cell? ⟨A0,4,none⟩=some (I 80)) (c7:v.cell? ⟨A0,7,none⟩=some (I 8)) (c9:v.cell? ⟨A0,9,none⟩=some (I 7)) (c10:v.cell? ⟨A0,10,none⟩=some (I 90)) (hA:Fl 137 [(0,.bool false),(2,.slice (some ⟨M,0,none⟩) 1 1),(3,I 0),(5,I 1),(6,Pt tb 0),(7,Pt c 0),(8,I 0),(9,I 80),(10,I 5),(11,I 0),(12,I 0),(13,I 90),(14,.bool true)] a):y13.wp Tryd.prog (fun e a' w'=>e=.ret∧Fl 137 [(0,.bool true)] a'∧w'.heap=v.heap∧w'.os=v.os∧w'.output=v.output) a v:=by
 obtain ⟨hsz,hd,hp⟩:=hA
 obtain ⟨u,rfl,hg⟩:=litN hsz hd
 have u0:=(hg 0).symm.trans (hp (0,.bool false) (by simp))
 have u2:=(hg 2).symm.trans (hp (2,.slice (some ⟨M,0,none⟩) 1 1) (by simp))
 have u3:=(hg 3).symm.trans (hp (3,I 0) (by simp))
 have u5:=(hg 5).symm.trans (hp (5,I 1) (by simp))
 have u6:=(hg 6).symm.trans (hp (6,Pt tb 0) (by simp))
 have u7:=(hg 7).symm.trans (hp (7,Pt c 0) (by simp))
 have u8:=(hg 8).symm.trans (hp (8,I 0) (by simp))
 have u9:=(hg 9).symm.trans (hp (9,I 80) (by simp))
 have u10:=(hg 10).symm.trans (hp (10,I 5) (by simp))
 have u11:=(hg 11).symm.trans (hp (11,I 0) (by simp))
 have u12:=(hg 12).symm.trans (hp (12,I 0) (by simp))
 have u13:=(hg 13).symm.trans (hp (13,I 90) (by simp))
 have u14:=(hg 14).symm.trans (hp (14,.bool true) (by simp))
 clear hg hp hsz hd
 unfold y13 hwB Tryd.f27 seq2
 simp only[Option.getD_some,lits,Nat.reduceAdd,u0,u2,u3,u5,u6,u7,u8,u9,u10,u11,u12,u13,u14]
 clear u0 u2 u3 u5 u6 u7 u8 u9 u10 u11 u12 u13 u14
 go_wp2_with fail
 first|refine ⟨?_,rfl,rfl,rfl⟩|refine ⟨?_,rfl,rfl⟩|refine ⟨?_,rfl⟩|skip
 exact ⟨rfl,rfl,by
  intro p hp
  simp only[List.mem_cons,List.not_mem_nil,or_false] at hp
  rcases hp with rfl<;>first|rfl|exact congrArg I (by omega)|exact congrArg Value.bool (by simp)⟩
theorem body36n {v:World}(b:Nat) {p:Option Addr}(c0:v.cell? ⟨b,0,none⟩=some (.slice p 1 1)):Body Tryd.f36 #[.pointer none,.slice (some ⟨b,0,none⟩) 1 1] v (fun r v'=>r=I 1∧v'.heap=v.heap∧v'.os=v.os∧v'.output=v.output):=by
 intro code hb
 obtain rfl:=Option.some.inj hb
 clear hb
 have h57:=(body57 (v:=v) (some ⟨b,0,none⟩) 1 1 (by decide) (fun _=>p) (fun _=>1) (fun _=>1) (fun k hk=>⟨b,0,rfl,by
  obtain rfl:k=0:=by omega
  exact c0⟩)).calls Tryd.func57 rfl
 have H57:Hid (Calls Tryd.prog 57 #[.slice (some ⟨b,0,none⟩) 1 1] v (fun e w'=>e=.returned (I 0)∧w'=v)):=⟨h57.mono (by
  rintro e w' ⟨r,rfl,rfl,⟨⟨k,hk,h⟩,_⟩|⟨_,rfl⟩⟩
  ·exact absurd h (by decide)
  ·exact ⟨rfl,rfl⟩)⟩
 clear h57 c0
 simp only[Tryd.ntmps36,List.size_toArray,List.length_cons,List.length_nil,Nat.reduceAdd,Nat.reduceSub,Array.replicate_succ,Array.replicate_zero,List.push_toArray,List.append_toArray,List.nil_append,List.cons_append]
 go_wp2_with (first
  |(go_at_call 57;refine H57.out.mono ?_;rintro e w1 ⟨rfl,rfl⟩))
 go_ret
 exact ⟨_,rfl,rfl,rfl,rfl,rfl⟩
theorem k280n_wp {v:World}{a:Act}{m:Int}{b:Nat}(hA:Fl 30 [(0,.pointer none),(1,I m),(2,.slice (some ⟨b,0,none⟩) 1 1)] a):k280.wp Tryd.prog (fun e a w'=>e=.normal∧Fl 30 [(0,.pointer none),(1,I m),(2,.slice (some ⟨b,0,none⟩) 1 1),(6,.slice none 0 0),(7,I 0)] a∧w'.heap=v.heap∧w'.os=v.os∧w'.output=v.output) a v:=by
 obtain ⟨hsz,hd,hp⟩:=hA
 obtain ⟨u,rfl,hg⟩:=litN hsz hd
 have u0:=(hg 0).symm.trans (hp (0,.pointer none) (by simp))
 have u1:=(hg 1).symm.trans (hp (1,I m) (by simp))
 have u2:=(hg 2).symm.trans (hp (2,.slice (some ⟨b,0,none⟩) 1 1) (by simp))
 clear hg hp hsz hd
 unfold k280 B28 Tryd.f28 seq1
 simp only[Option.getD_some,lits,Nat.reduceAdd,u0,u1,u2]
 clear u0 u1 u2
 go_wp2_with fail
 first|refine ⟨?_,rfl,rfl,rfl⟩|refine ⟨?_,rfl,rfl⟩|refine ⟨?_,rfl⟩|skip
 exact ⟨rfl,rfl,by
  intro p hp
  simp only[List.mem_cons,List.not_mem_nil,or_false] at hp
  rcases hp with rfl|rfl|rfl|rfl|rfl<;>first|rfl|exact congrArg I (by omega)|exact congrArg Value.bool (by simp)⟩
theorem k281_nil {v:World}{a:Act}{m:Int}{b:Nat}{p:Option Addr}(c0:v.cell? ⟨b,0,none⟩=some (.slice p 1 1)) (hA:Fl 30 [(0,.pointer none),(1,I m),(2,.slice (some ⟨b,0,none⟩) 1 1),(6,.slice none 0 0),(7,I 0)] a) :
 k281.wp Tryd.prog (fun e a w'=>e=.ret∧∃ x,(results Tryd.f28 a.tmps).run Tryd.prog w'=.ok x w'∧x=.tuple #[.slice none 0 0,I 1]∧w'.heap=v.heap∧w'.os=v.os∧w'.output=v.output) a v:=by
 have H19:Hid (Calls Tryd.prog 36 #[.pointer none,.slice (some ⟨b,0,none⟩) 1 1] v _):=⟨(body36n b c0).calls Tryd.func36 rfl⟩
 obtain ⟨hsz,hd,hp⟩:=hA
 obtain ⟨u,rfl,hg⟩:=litN hsz hd
 have u0:=(hg 0).symm.trans (hp (0,.pointer none) (by simp))
 have u1:=(hg 1).symm.trans (hp (1,I m) (by simp))
 have u2:=(hg 2).symm.trans (hp (2,.slice (some ⟨b,0,none⟩) 1 1) (by simp))
 have u6:=(hg 6).symm.trans (hp (6,.slice none 0 0) (by simp))
 have u7:=(hg 7).symm.trans (hp (7,I 0) (by simp))
 clear hg hp hsz hd
 unfold k281 B28 Tryd.f28 seq1 seq2
 simp only[Option.getD_some,lits,Nat.reduceAdd,u0,u1,u2,u6,u7]
 clear u0 u1 u2 u6 u7
 go_wp2_with (first
  |(go_at_call 36;refine H19.out.mono ?_;rintro e w1 ⟨_,rfl,rfl,k1,k2,k3⟩))
 first
  |exact ⟨_,results_tmp2 (t:=6) (u:=7) rfl _ _ _,rfl,k1,k2,k3⟩
  |exact results_tmp2 (t:=6) (u:=7) rfl _ _ _
theorem tplay_nil {Ch:Nat->Prop}{Stop:Goroutine->World->Prop}{main:Bool}{v w:World}(m:Int) (b:Nat) {p:Option Addr}(c0:v.cell? ⟨b,0,none⟩=some (.slice p 1 1)) (cs:List Frame) {bc:Frame}{ac:Act}{ops:Array Oper}{q:Nat}{rest:List Nat}{oc:Oper}{k0:List Item}(hoc:ops[q]? = some oc)
 (hvw:Rel zn v w) (hn:Ah Ch v)
 (hk:∀ v' w',Rel zn v' w'->Ah Ch v'->v'.heap=v.heap->v'.os=v.os->v'.output=v.output->GoesI Tryd.prog main (DT (ScZ zn) Ch) Stop (G (bc.at (ac.put oc.dst (.tuple #[.slice none 0 0,I 1])) (.inRegion ops rest :: k0)) cs) w') :
 GoesI Tryd.prog main (DT (ScZ zn) Ch) Stop (G ((base 28).at { tmps:=#[.pointer none,I m,.slice (some ⟨b,0,none⟩) 1 1]++Array.replicate 27 undef,defers:=[] } [.code B28]) (bc.at ac (.inRegion ops (q :: rest) :: k0) :: cs)) w:=by
 rw[eB28]
 have hA0:Fl 30 [(0,.pointer none),(1,I m),(2,.slice (some ⟨b,0,none⟩) 1 1)] { tmps:=#[.pointer none,I m,.slice (some ⟨b,0,none⟩) 1 1]++Array.replicate 27 undef,defers:=[] }:=by
  simp only[Array.replicate_succ,Array.replicate_zero,List.push_toArray,List.append_toArray,List.nil_append,List.cons_append]
  exact ⟨rfl,rfl,by
   intro p hp
   simp only[List.mem_cons,List.not_mem_nil,or_false] at hp
   rcases hp with rfl|rfl|rfl<;>rfl⟩
 refine Ac (Aa _ _) ?_
 refine Ba (z:=zn) (wr:=true) (L:=LV) (I:=Ah Ch) hE F8 Az (fun v v' w w' es hi hr ho he=>Bq v v' w w' es hi hr ho he) hvw fine_k280 hA0.2.1 (by simp[base]) hn (Q:=fun a w'=>Fl 30 [(0,.pointer none),(1,I m),(2,.slice (some ⟨b,0,none⟩) 1 1),(6,.slice none 0 0),(7,I 0)] a∧w'.heap=v.heap∧w'.os=v.os∧w'.output=v.output) (fun τ=>k280n_wp (v:=Ap v τ 0) hA0) ?_
 rintro a0 v0 w0 ⟨hB0,e0,o0,u0⟩ hr0 hn0 -
 refine Ac (Aa _ _) ?_
 refine G0 (c:=k281) (f:=28) (fn:=Tryd.f28) (L:=LV) hE F8 hr0 hn0 Tryd.func28 fine_k281 hB0.2.1 hoc (R:=fun r w'=>r=.tuple #[.slice none 0 0,I 1]∧w'.heap=v0.heap∧w'.os=v0.os∧w'.output=v0.output) (fun τ=>k281_nil (v:=Ap v0 τ 0) (p:=p) (by
  rw[World.cell?_of_block (w:=v) (w':=Ap v0 τ 0) (by show v0.heap[_]? = _;rw[e0])];exact c0) hB0) (fun r v' w' hR hr' hn'=>?_)
 obtain ⟨rfl,h1,h2,h3⟩:=hR
 exact hk v' w' hr' hn' (h1.trans e0) (h2.trans o0) (h3.trans u0)
theorem taw_y8 {Ch:Nat->Prop}{Stop:Goroutine->World->Prop}{main:Bool}{v w:World}{M c s sb rb tb B:Nat}{kb:List Nat}{h0 nx us hd vl lk:Int}{a:Act}{cs:List Frame}(hx:fstI h0=((0:Nat):Int)+1) (hvw:Rel zn v w) (hn:Ah Ch v) (h:Fst 1 c s sb rb tb kb B [h0,nx,us,hd,vl,lk] v) (hB:B≤v.heap.size) (hA:Fl 137 [(0,.bool false),(2,.slice (some ⟨M,0,none⟩) 1 1),(3,I 0),(5,I 1),(6,Pt tb 0),(7,Pt c 0)] a)
 (hk:∀ a' v' w',Rel zn v' w'->Ah Ch v'->Fst 1 c s sb rb tb kb B [hdI nx (verI h0+1),nx,1,hdI 1 (verI hd+1),5,fstI hd] v'->Fk B v v'->Fl 137 [(0,.bool false),(2,.slice (some ⟨M,0,none⟩) 1 1),(3,I 0),(5,I 1),(6,Pt tb 0),(7,Pt c 0),(8,I 0)] a'->GoesI Tryd.prog main (DT (ScZ zn) Ch) Stop (G ((base 27).at a' [.code Y9]) cs) w') :
 GoesI Tryd.prog main (DT (ScZ zn) Ch) Stop (G ((base 27).at a [.code (.seq y8 Y9)]) cs) w:=by
 obtain ⟨hsz,hdf,hpp⟩:=hA
 obtain ⟨u,rfl,hg⟩:=litN hsz hdf
 have u0:=(hg 0).symm.trans (hpp (0,.bool false) (by simp))
 have u2:=(hg 2).symm.trans (hpp (2,.slice (some ⟨M,0,none⟩) 1 1) (by simp))
 have u3:=(hg 3).symm.trans (hpp (3,I 0) (by simp))
 have u5:=(hg 5).symm.trans (hpp (5,I 1) (by simp))
 have u6:=(hg 6).symm.trans (hpp (6,Pt tb 0) (by simp))
 have u7:=(hg 7).symm.trans (hpp (7,Pt c 0) (by simp))
 clear hg hpp hsz hdf
 have HA:Hid (Rel zn v w∧Ah Ch v):=⟨hvw,hn⟩
 clear hvw hn
 refine Ac (Aa _ _) ?_
 generalize hT:Y9=TT at hk ⊢
 unfold y8 hwB Tryd.f27 seq2 seq1
 simp only[Option.getD_some,lits,Nat.reduceAdd,u0,u2,u3,u5,u6,u7]
 clear u0 u2 u3 u5 u6 u7 hT
 refine Ae (Aa _ _) ?_
 simp only[List.size_toArray,List.length_cons,List.length_nil,Nat.reduceAdd,Nat.zero_add,List.range,List.range.loop]
 iterate 2
  (refine Ad rfl rfl (by decide) (fun d K hK=>?_)
   go_simp
   refine hK _ _ ⟨Af (fun e he=>?_),GoesI.at ?_ d⟩
   ·have hm:=mem_listed he
    simp[go_sem, *] at hm
    try exact ⟨_,_,hm⟩
    try (rcases hm with rfl|rfl<;>exact ⟨_,_,rfl⟩)
   clear hK K)
 refine Ao (f:=50) (fn:=Tryd.f50) (args:=#[Pt c 0,Pt tb 0,I 5]) (Aa _ _) rfl rfl (by decide) rfl (by simp[Act.eval]) Tryd.func50 (by decide) rfl ?_
 refine fpush 5 hx h hB cs rfl HA.out.1 HA.out.2 (fun v2 w2 r2 n2 h2 k2=>?_) _ rfl
 have HK:Hid (∀ a',Fl 137 [(0,.bool false),(2,.slice (some ⟨M,0,none⟩) 1 1),(3,I 0),(5,I 1),(6,Pt tb 0),(7,Pt c 0),(8,I 0)] a'->GoesI Tryd.prog main (DT (ScZ zn) Ch) Stop (G ((base 27).at a' [.code TT]) cs) w2):=⟨fun a' h=>hk a' v2 w2 r2 n2 h2 k2 h⟩
 clear hk h r2 n2 HA h2 k2 hB
 iterate 1
  (refine Ad rfl rfl (by decide) (fun d K hK=>?_)
   go_simp
   refine hK _ _ ⟨Af (fun e he=>?_),GoesI.at ?_ d⟩
   ·have hm:=mem_listed he
    simp[go_sem, *] at hm
    try exact ⟨_,_,hm⟩
    try (rcases hm with rfl|rfl<;>exact ⟨_,_,rfl⟩)
   clear hK K)
 refine Ab (Aa _ _) ?_
 exact HK.out _ ⟨rfl,rfl,by
  intro p hp
  simp only[List.mem_cons,List.not_mem_nil,or_false] at hp
  rcases hp with rfl|rfl|rfl|rfl|rfl|rfl|rfl<;>rfl⟩
theorem taw_y9 {Ch:Nat->Prop}{Stop:Goroutine->World->Prop}{main:Bool}{v w:World}{M c s sb rb tb B:Nat}{kb:List Nat}{h0 nx us hd vl lk:Int}{a:Act}{cs:List Frame}(hx:fstI h0=0) (hvw:Rel zn v w) (hn:Ah Ch v) (h:Fst 1 c s sb rb tb kb B [h0,nx,us,hd,vl,lk] v) (hB:B≤v.heap.size) (hA:Fl 137 [(0,.bool false),(2,.slice (some ⟨M,0,none⟩) 1 1),(3,I 0),(5,I 1),(6,Pt tb 0),(7,Pt c 0),(8,I 0)] a)
 (hk:∀ a' v' w',Rel zn v' w'->Ah Ch v'->Fst 1 c s sb rb tb kb B [h0,nx,us,hd,vl,lk] v'->Fk B v v'->Fl 137 [(0,.bool false),(2,.slice (some ⟨M,0,none⟩) 1 1),(3,I 0),(5,I 1),(6,Pt tb 0),(7,Pt c 0),(8,I 0),(9,I 80)] a'->GoesI Tryd.prog main (DT (ScZ zn) Ch) Stop (G ((base 27).at a' [.code Y10]) cs) w') :
 GoesI Tryd.prog main (DT (ScZ zn) Ch) Stop (G ((base 27).at a [.code (.seq y9 Y10)]) cs) w:=by
 obtain ⟨hsz,hdf,hpp⟩:=hA
 obtain ⟨u,rfl,hg⟩:=litN hsz hdf
 have u0:=(hg 0).symm.trans (hpp (0,.bool false) (by simp))
 have u2:=(hg 2).symm.trans (hpp (2,.slice (some ⟨M,0,none⟩) 1 1) (by simp))
 have u3:=(hg 3).symm.trans (hpp (3,I 0) (by simp))
 have u5:=(hg 5).symm.trans (hpp (5,I 1) (by simp))
 have u6:=(hg 6).symm.trans (hpp (6,Pt tb 0) (by simp))
 have u7:=(hg 7).symm.trans (hpp (7,Pt c 0) (by simp))
 have u8:=(hg 8).symm.trans (hpp (8,I 0) (by simp))
 clear hg hpp hsz hdf
 have HA:Hid (Rel zn v w∧Ah Ch v):=⟨hvw,hn⟩
 clear hvw hn
 refine Ac (Aa _ _) ?_
 generalize hT:Y10=TT at hk ⊢
 unfold y9 hwB Tryd.f27 seq2 seq1
 simp only[Option.getD_some,lits,Nat.reduceAdd,u0,u2,u3,u5,u6,u7,u8]
 clear u0 u2 u3 u5 u6 u7 u8 hT
 refine Ae (Aa _ _) ?_
 simp only[List.size_toArray,List.length_cons,List.length_nil,Nat.reduceAdd,Nat.zero_add,List.range,List.range.loop]
 iterate 2
  (refine Ad rfl rfl (by decide) (fun d K hK=>?_)
   go_simp
   refine hK _ _ ⟨Af (fun e he=>?_),GoesI.at ?_ d⟩
   ·have hm:=mem_listed he
    simp[go_sem, *] at hm
    try exact ⟨_,_,hm⟩
    try (rcases hm with rfl|rfl<;>exact ⟨_,_,rfl⟩)
   clear hK K)
 refine Ao (f:=50) (fn:=Tryd.f50) (args:=#[Pt c 0,Pt tb 0,I 6]) (Aa _ _) rfl rfl (by decide) rfl (by simp[Act.eval]) Tryd.func50 (by decide) rfl ?_
 refine fpush_full 6 hx h hB cs rfl HA.out.1 HA.out.2 (fun v2 w2 r2 n2 h2 k2=>?_) _ rfl
 have HK:Hid (∀ a',Fl 137 [(0,.bool false),(2,.slice (some ⟨M,0,none⟩) 1 1),(3,I 0),(5,I 1),(6,Pt tb 0),(7,Pt c 0),(8,I 0),(9,I 80)] a'->GoesI Tryd.prog main (DT (ScZ zn) Ch) Stop (G ((base 27).at a' [.code TT]) cs) w2):=⟨fun a' h=>hk a' v2 w2 r2 n2 h2 k2 h⟩
 clear hk h r2 n2 HA h2 k2 hB
 iterate 1
  (refine Ad rfl rfl (by decide) (fun d K hK=>?_)
   go_simp
   refine hK _ _ ⟨Af (fun e he=>?_),GoesI.at ?_ d⟩
   ·have hm:=mem_listed he
    simp[go_sem, *] at hm
    try exact ⟨_,_,hm⟩
    try (rcases hm with rfl|rfl<;>exact ⟨_,_,rfl⟩)
   clear hK K)
 refine Ab (Aa _ _) ?_
 exact HK.out _ ⟨rfl,rfl,by
  intro p hp
  simp only[List.mem_cons,List.not_mem_nil,or_false] at hp
  rcases hp with rfl|rfl|rfl|rfl|rfl|rfl|rfl|rfl<;>rfl⟩
theorem taw_y10 {Ch:Nat->Prop}{Stop:Goroutine->World->Prop}{main:Bool}{v w:World}{M c s sb rb tb B:Nat}{kb:List Nat}{h0 nx us hd vl lk:Int}{a:Act}{cs:List Frame}(hx:fstI hd=((0:Nat):Int)+1) (hus:us=1) (hvw:Rel zn v w) (hn:Ah Ch v) (h:Fst 1 c s sb rb tb kb B [h0,nx,us,hd,vl,lk] v) (hB:B≤v.heap.size) (hA:Fl 137 [(0,.bool false),(2,.slice (some ⟨M,0,none⟩) 1 1),(3,I 0),(5,I 1),(6,Pt tb 0),(7,Pt c 0),(8,I 0),(9,I 80)] a)
 (hk:∀ a' v' w',Rel zn v' w'->Ah Ch v'->Fst 1 c s sb rb tb kb B [hdI 1 (verI h0+1),fstI h0,0,hdI lk (verI hd+1),vl,lk] v'->Fk B v v'->Fl 137 [(0,.bool false),(2,.slice (some ⟨M,0,none⟩) 1 1),(3,I 0),(5,I 1),(6,Pt tb 0),(7,Pt c 0),(8,I 0),(9,I 80),(10,I vl),(11,I 0)] a'->GoesI Tryd.prog main (DT (ScZ zn) Ch) Stop (G ((base 27).at a' [.code Y11]) cs) w') :
 GoesI Tryd.prog main (DT (ScZ zn) Ch) Stop (G ((base 27).at a [.code (.seq y10 Y11)]) cs) w:=by
 obtain ⟨hsz,hdf,hpp⟩:=hA
 obtain ⟨u,rfl,hg⟩:=litN hsz hdf
 have u0:=(hg 0).symm.trans (hpp (0,.bool false) (by simp))
 have u2:=(hg 2).symm.trans (hpp (2,.slice (some ⟨M,0,none⟩) 1 1) (by simp))
 have u3:=(hg 3).symm.trans (hpp (3,I 0) (by simp))
 have u5:=(hg 5).symm.trans (hpp (5,I 1) (by simp))
 have u6:=(hg 6).symm.trans (hpp (6,Pt tb 0) (by simp))
 have u7:=(hg 7).symm.trans (hpp (7,Pt c 0) (by simp))
 have u8:=(hg 8).symm.trans (hpp (8,I 0) (by simp))
 have u9:=(hg 9).symm.trans (hpp (9,I 80) (by simp))
 clear hg hpp hsz hdf
 have HA:Hid (Rel zn v w∧Ah Ch v):=⟨hvw,hn⟩
 clear hvw hn
 refine Ac (Aa _ _) ?_
 generalize hT:Y11=TT at hk ⊢
 unfold y10 hwB Tryd.f27 seq2 seq1
 simp only[Option.getD_some,lits,Nat.reduceAdd,u0,u2,u3,u5,u6,u7,u8,u9]
 clear u0 u2 u3 u5 u6 u7 u8 u9 hT
 refine Ae (Aa _ _) ?_
 simp only[List.size_toArray,List.length_cons,List.length_nil,Nat.reduceAdd,Nat.zero_add,List.range,List.range.loop]
 iterate 2
  (refine Ad rfl rfl (by decide) (fun d K hK=>?_)
   go_simp
   refine hK _ _ ⟨Af (fun e he=>?_),GoesI.at ?_ d⟩
   ·have hm:=mem_listed he
    simp[go_sem, *] at hm
    try exact ⟨_,_,hm⟩
    try (rcases hm with rfl|rfl<;>exact ⟨_,_,rfl⟩)
   clear hK K)
 refine Ao (f:=51) (fn:=Tryd.f51) (args:=#[Pt c 0,Pt tb 0]) (Aa _ _) rfl rfl (by decide) rfl (by simp[Act.eval]) Tryd.func51 (by decide) rfl ?_
 refine fpop hx hus h hB cs rfl HA.out.1 HA.out.2 (fun v2 w2 r2 n2 h2 k2=>?_) _ rfl
 have HK:Hid (∀ a',Fl 137 [(0,.bool false),(2,.slice (some ⟨M,0,none⟩) 1 1),(3,I 0),(5,I 1),(6,Pt tb 0),(7,Pt c 0),(8,I 0),(9,I 80),(10,I vl),(11,I 0)] a'->GoesI Tryd.prog main (DT (ScZ zn) Ch) Stop (G ((base 27).at a' [.code TT]) cs) w2):=⟨fun a' h=>hk a' v2 w2 r2 n2 h2 k2 h⟩
 clear hk h r2 n2 HA h2 k2 hB
 iterate 5
  (refine Ad rfl rfl (by decide) (fun d K hK=>?_)
   go_simp
   refine hK _ _ ⟨Af (fun e he=>?_),GoesI.at ?_ d⟩
   ·have hm:=mem_listed he
    simp[go_sem, *] at hm
    try exact ⟨_,_,hm⟩
    try (rcases hm with rfl|rfl<;>exact ⟨_,_,rfl⟩)
   clear hK K)
 refine Ab (Aa _ _) ?_
 exact HK.out _ ⟨rfl,rfl,by
  intro p hp
  simp only[List.mem_cons,List.not_mem_nil,or_false] at hp
  rcases hp with rfl|rfl|rfl|rfl|rfl|rfl|rfl|rfl|rfl|rfl<;>rfl⟩
theorem taw_y11 {Ch:Nat->Prop}{Stop:Goroutine->World->Prop}{main:Bool}{v w:World}{M c s sb rb tb B:Nat}{kb:List Nat}{h0 nx us hd vl lk:Int}{a:Act}{cs:List Frame}(hx:fstI hd=0) (hvw:Rel zn v w) (hn:Ah Ch v) (h:Fst 1 c s sb rb tb kb B [h0,nx,us,hd,vl,lk] v) (hB:B≤v.heap.size) (hA:Fl 137 [(0,.bool false),(2,.slice (some ⟨M,0,none⟩) 1 1),(3,I 0),(5,I 1),(6,Pt tb 0),(7,Pt c 0),(8,I 0),(9,I 80),(10,I 5),(11,I 0)] a)
 (hk:∀ a' v' w',Rel zn v' w'->Ah Ch v'->Fst 1 c s sb rb tb kb B [h0,nx,us,hd,vl,lk] v'->Fk B v v'->Fl 137 [(0,.bool false),(2,.slice (some ⟨M,0,none⟩) 1 1),(3,I 0),(5,I 1),(6,Pt tb 0),(7,Pt c 0),(8,I 0),(9,I 80),(10,I 5),(11,I 0),(12,I 0),(13,I 90)] a'->GoesI Tryd.prog main (DT (ScZ zn) Ch) Stop (G ((base 27).at a' [.code Y12]) cs) w') :
 GoesI Tryd.prog main (DT (ScZ zn) Ch) Stop (G ((base 27).at a [.code (.seq y11 Y12)]) cs) w:=by
 obtain ⟨hsz,hdf,hpp⟩:=hA
 obtain ⟨u,rfl,hg⟩:=litN hsz hdf
 have u0:=(hg 0).symm.trans (hpp (0,.bool false) (by simp))
 have u2:=(hg 2).symm.trans (hpp (2,.slice (some ⟨M,0,none⟩) 1 1) (by simp))
 have u3:=(hg 3).symm.trans (hpp (3,I 0) (by simp))
 have u5:=(hg 5).symm.trans (hpp (5,I 1) (by simp))
 have u6:=(hg 6).symm.trans (hpp (6,Pt tb 0) (by simp))
 have u7:=(hg 7).symm.trans (hpp (7,Pt c 0) (by simp))
 have u8:=(hg 8).symm.trans (hpp (8,I 0) (by simp))
 have u9:=(hg 9).symm.trans (hpp (9,I 80) (by simp))
 have u10:=(hg 10).symm.trans (hpp (10,I 5) (by simp))
 have u11:=(hg 11).symm.trans (hpp (11,I 0) (by simp))
 clear hg hpp hsz hdf
 have HA:Hid (Rel zn v w∧Ah Ch v):=⟨hvw,hn⟩
 clear hvw hn
 refine Ac (Aa _ _) ?_
 generalize hT:Y12=TT at hk ⊢
 unfold y11 hwB Tryd.f27 seq2 seq1
 simp only[Option.getD_some,lits,Nat.reduceAdd,u0,u2,u3,u5,u6,u7,u8,u9,u10,u11]
 clear u0 u2 u3 u5 u6 u7 u8 u9 u10 u11 hT
 refine Ae (Aa _ _) ?_
 simp only[List.size_toArray,List.length_cons,List.length_nil,Nat.reduceAdd,Nat.zero_add,List.range,List.range.loop]
 iterate 2
  (refine Ad rfl rfl (by decide) (fun d K hK=>?_)
   go_simp
   refine hK _ _ ⟨Af (fun e he=>?_),GoesI.at ?_ d⟩
   ·have hm:=mem_listed he
    simp[go_sem, *] at hm
    try exact ⟨_,_,hm⟩
    try (rcases hm with rfl|rfl<;>exact ⟨_,_,rfl⟩)
   clear hK K)
 refine Ao (f:=51) (fn:=Tryd.f51) (args:=#[Pt c 0,Pt tb 0]) (Aa _ _) rfl rfl (by decide) rfl (by simp[Act.eval]) Tryd.func51 (by decide) rfl ?_
 refine fpop_empty hx h hB cs rfl HA.out.1 HA.out.2 (fun v2 w2 r2 n2 h2 k2=>?_) _ rfl
 have HK:Hid (∀ a',Fl 137 [(0,.bool false),(2,.slice (some ⟨M,0,none⟩) 1 1),(3,I 0),(5,I 1),(6,Pt tb 0),(7,Pt c 0),(8,I 0),(9,I 80),(10,I 5),(11,I 0),(12,I 0),(13,I 90)] a'->GoesI Tryd.prog main (DT (ScZ zn) Ch) Stop (G ((base 27).at a' [.code TT]) cs) w2):=⟨fun a' h=>hk a' v2 w2 r2 n2 h2 k2 h⟩
 clear hk h r2 n2 HA h2 k2 hB
 iterate 5
  (refine Ad rfl rfl (by decide) (fun d K hK=>?_)
   go_simp
   refine hK _ _ ⟨Af (fun e he=>?_),GoesI.at ?_ d⟩
   ·have hm:=mem_listed he
    simp[go_sem, *] at hm
    try exact ⟨_,_,hm⟩
    try (rcases hm with rfl|rfl<;>exact ⟨_,_,rfl⟩)
   clear hK K)
 refine Ab (Aa _ _) ?_
 exact HK.out _ ⟨rfl,rfl,by
  intro p hp
  simp only[List.mem_cons,List.not_mem_nil,or_false] at hp
  rcases hp with rfl|rfl|rfl|rfl|rfl|rfl|rfl|rfl|rfl|rfl|rfl|rfl<;>rfl⟩
end Go.Proofs.YtbbhahigofeacaaDoor.Gen
namespace Go.Proofs.YtbbhahigofeacaaDoor.Gen
open Go Go.Lift Go.Conc
open Go.ChangeShapes Go.WideShapes Go.ChangeAt Go.RowKit Go.Joins Go.Deep
section
variable {H:Type}{enc:TypeId×Value->H}{w:World}{held:Bool}
end
end Go.Proofs.YtbbhahigofeacaaDoor.Gen
