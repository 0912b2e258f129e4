/- Of the proof of StackKeeps. Part 26 of 33. (Joined, by program, and written short, of: La7S, La7T, La7U.) -/
import Derived.Test.YtbbhahigofeacaaDoorStackKeeps25
import Derived.Test.YtbbhahigofeacaaDoorStackKeeps27
set_option linter.unusedSimpArgs false
set_option linter.unusedVariables false
set_option maxHeartbeats 4000000
set_option maxRecDepth 100000
namespace Go.Proofs.YtbbhahigofeacaaDoor.Gen
open Go Go.Lift Go.Conc Go.RowKit
theorem p7_6 {v:World}{a:Act}{n N b o cap M wb:Nat}{S:TS}(hR:Rep zn S v) (hwb:wb=S.wb) (hs:S.stk=false) (hn:n≤1000) (hA:Fl 189 [(1,I (n:Nat)),(2,.slice (some ⟨b,o,none⟩) N cap),(8,Pt wb 0),(9,.slice (some ⟨M,0,none⟩) N N)] a) :
 q7_6.wp Tryd.prog (fun e a' w'=>e=.normal∧(Fl 189 [(53,.bool false),(1,I (n:Nat)),(2,.slice (some ⟨b,o,none⟩) N cap),(8,Pt wb 0),(9,.slice (some ⟨M,0,none⟩) N N)] a'∧w'=v)) a v:=by
 subst hwb
 have h3:=(body10s hR).calls Tryd.func17 rfl
 rw[hs] at h3
 have H3:Hid (Calls Tryd.prog 17 #[Pt S.wb 0] v _):=⟨h3⟩
 clear h3 hR
 have h1:¬ (n:Int)<0:=by omega
 have h2:¬ (n:Int) > 1000:=by omega
 obtain ⟨u,rfl,hp⟩:=litF hA
 simp only[Fls] at hp
 clear hA
 unfold q7_6 C7 Tryd.f7 seq1 seq2
 simp only[Option.getD_some,lits,Nat.reduceAdd,hp]
 clear hp
 go_wp2_with (first|(go_at_call 17;refine H3.out.mono ?_;rintro e w1 ⟨_,rfl,rfl,rfl⟩))
 first
  |refine ⟨?_,rfl⟩
  |refine ⟨rfl,?_,rfl⟩
  |skip
 exact ⟨rfl,rfl,by
  intro p hp
  simp only[List.mem_cons,List.not_mem_nil,or_false] at hp
  rcases hp with rfl|rfl|rfl|rfl|rfl<;>first|rfl|exact congrArg I (by omega)|exact congrArg Value.bool (by simp<;>omega)|exact congrArg Value.bool (by simp)|(simp;done)⟩
theorem p7_23 {v:World}{a:Act}{n:Nat}{pp tp:Option Addr}{P pc Q tc:Nat}{wb:Nat}{S:TS}{L:List Stp}(hR:Rep zn S v) (hwb:wb=S.wb) (htr:S.tr=flat L) (hs4:S.n≤400000) (hA:Fl 189 [(1,I (n:Nat)),(11,.slice pp P pc),(12,.slice tp Q tc),(8,Pt wb 0)] a) :
 q7_23.wp Tryd.prog (fun e a' w'=>e=.normal∧∃ (p:Option Addr) (g ct:Nat),Fl 189 [(1,I (n:Nat)),(11,.slice pp P pc),(12,.slice tp Q tc),(16,.slice p S.n ct)] a'∧(0<S.n->p=some ⟨g,0,none⟩∧v.heap.size≤g)∧(∀ j x,(flat L)[j]? = some x->w'.cell? ⟨g,j,none⟩=some x)∧Grows v w') a v:=by
 subst hwb
 have H3:Hid (Calls Tryd.prog 16 #[Pt S.wb 0] v _):=⟨(body9A hR (by omega) (by rw[htr];exact flat_one L)).calls Tryd.func16 rfl⟩
 rw[htr] at H3
 clear hR htr hs4
 obtain ⟨u,rfl,hp⟩:=litF hA
 simp only[Fls] at hp
 clear hA
 unfold q7_23 C7 Tryd.f7 seq1 seq2
 simp only[Option.getD_some,lits,Nat.reduceAdd,hp]
 clear hp
 go_wp2_with (first
  |(go_at_call 16;refine H3.out.mono ?_;rintro e w1 ⟨_,rfl,p,g,ct,rfl,k1,k2,k3⟩))
 first
  |exact ⟨p,⟨ct,⟨rfl,rfl,by
  intro p hp
  simp only[List.mem_cons,List.not_mem_nil,or_false] at hp
  rcases hp with rfl|rfl|rfl|rfl<;>first|rfl|exact congrArg I (by omega)|exact congrArg Value.bool (by simp<;>omega)|exact congrArg Value.bool (by simp)|(simp;done)⟩⟩,g,k1,k2,k3⟩
  |exact ⟨p,⟨ct,⟨rfl,rfl,by
  intro p hp
  simp only[List.mem_cons,List.not_mem_nil,or_false] at hp
  rcases hp with rfl|rfl|rfl|rfl<;>first|rfl|exact congrArg I (by omega)|exact congrArg Value.bool (by simp<;>omega)|exact congrArg Value.bool (by simp)|(simp;done)⟩⟩,g,k1,k2⟩
theorem p7_31 {v:World}{a:Act}{n T ct g:Nat}{p pp tp:Option Addr}{P pc Q tc:Nat}{L:List Stp}{y:Int}{i h:Nat}(hn:n≤1000) (hT:L.length=T) (hTs:T≤400000) (hp0:0<T->p=some ⟨g,0,none⟩) (hL:TrL g L v) (hi:i<n) (hy:y=(i:Int)+1) (hA:Fl 189 [(1,I (n:Nat)),(11,.slice pp P pc),(12,.slice tp Q tc),(16,.slice p T ct),(17,I y),(18,I (h:Nat))] a) :
 q7_31.wp Tryd.prog (fun e a' w'=>e=.normal∧Fl 189 [(1,I (n:Nat)),(11,.slice pp P pc),(12,.slice tp Q tc),(16,.slice p T ct),(17,I (B8 (lkJ n i) L)),(18,I (h:Nat))] a'∧(w'.heap=v.heap∧w'.os=v.os∧w'.output=v.output)) a v:=by
 have H5:Hid (∀ u:World,u.heap=v.heap->Calls Tryd.prog 29 #[.slice p T ct,I (lkJ n i:Nat)] u fun e w1=>(∃ r,e=.returned r∧r=I (B8 (lkJ n i) L)∧w1.heap=u.heap∧w1.os=u.os∧w1.output=u.output)):=⟨fun u hu=>(last_body (lkJ n i) hT hTs hp0 (fun k s hs=>by
  have hc:∀ (a:Addr) (x:Value),v.cell? a=some x->u.cell? a=some x:=fun a x ha=>by rw[World.cell?_of_block (w:=v) (w':=u) (by rw[hu])];exact ha
  obtain ⟨h0,h1,h2,h3,h4⟩:=hL k s hs
  exact ⟨hc _ _ h0,hc _ _ h1,hc _ _ h2,hc _ _ h3,hc _ _ h4⟩)).calls Tryd.func29 rfl⟩
 have H4:Hid (Calls Tryd.prog 32 #[I 0,I (n:Nat),I (i:Nat)] v _):=⟨link_any n i hn hi v⟩
 have hw:IntKind.i64.wrap (y - 1)=(i:Int):=by rw[IntKind.wrap_i64];omega
 clear hL hp0 hT hy
 obtain ⟨u,rfl,hp⟩:=litF hA
 simp only[Fls] at hp
 clear hA
 unfold q7_31 C7 Tryd.f7 seq1 seq2 Ak Ar
 simp only[Option.getD_some,lits,Nat.reduceAdd,hp]
 clear hp
 go_wp2_with (first
  |(go_at_call 32;refine H4.out.mono ?_;rintro e w1 ⟨rfl,rfl⟩)
  |(go_at_call 29;refine (H5.out _ rfl).mono ?_;rintro e w1 ⟨_,rfl,rfl,k1,k2,k3⟩))
 first
  |exact ⟨⟨rfl,rfl,by
  intro p hp
  simp only[List.mem_cons,List.not_mem_nil,or_false] at hp
  rcases hp with rfl|rfl|rfl|rfl|rfl|rfl<;>first|rfl|exact congrArg I (by omega)|exact congrArg Value.bool (by simp<;>omega)|exact congrArg Value.bool (by simp)|(simp;done)⟩,k1,k2,k3⟩
  |exact ⟨rfl,rfl,by
  intro p hp
  simp only[List.mem_cons,List.not_mem_nil,or_false] at hp
  rcases hp with rfl|rfl|rfl|rfl|rfl|rfl<;>first|rfl|exact congrArg I (by omega)|exact congrArg Value.bool (by simp<;>omega)|exact congrArg Value.bool (by simp)|(simp;done)|exact congrArg I hand⟩
theorem p7_24 {v:World}{a:Act}{n T ct g:Nat}{p pp tp:Option Addr}{P pc Q tc:Nat}{L:List Stp}(hn:n≤1000) (hT:L.length=T) (hTs:T≤400000) (hp0:0<T->p=some ⟨g,0,none⟩) (hL:TrL g L v) (hand:bits .and .i64 (B8 (hdJ n) L) 4294967295=R1.fstI (B8 (hdJ n) L)) (hA:Fl 189 [(1,I (n:Nat)),(11,.slice pp P pc),(12,.slice tp Q tc),(16,.slice p T ct)] a) :
 q7_24.wp Tryd.prog (fun e a' w'=>e=.normal∧Fl 189 [(1,I (n:Nat)),(11,.slice pp P pc),(12,.slice tp Q tc),(16,.slice p T ct),(17,I (R1.fstI (B8 (hdJ n) L)))] a'∧(w'.heap=v.heap∧w'.os=v.os∧w'.output=v.output)) a v:=by
 have H5:Hid (∀ u:World,u.heap=v.heap->Calls Tryd.prog 29 #[.slice p T ct,I (hdJ n:Nat)] u fun e w1=>(∃ r,e=.returned r∧r=I (B8 (hdJ n) L)∧w1.heap=u.heap∧w1.os=u.os∧w1.output=u.output)):=⟨fun u hu=>(last_body (hdJ n) hT hTs hp0 (fun k s hs=>by
  have hc:∀ (a:Addr) (x:Value),v.cell? a=some x->u.cell? a=some x:=fun a x ha=>by rw[World.cell?_of_block (w:=v) (w':=u) (by rw[hu])];exact ha
  obtain ⟨h0,h1,h2,h3,h4⟩:=hL k s hs
  exact ⟨hc _ _ h0,hc _ _ h1,hc _ _ h2,hc _ _ h3,hc _ _ h4⟩)).calls Tryd.func29 rfl⟩
 have H4:Hid (Calls Tryd.prog 30 #[I 0,I (n:Nat)] v _):=⟨head_any n hn v⟩
 clear hL hp0 hT
 obtain ⟨u,rfl,hp⟩:=litF hA
 simp only[Fls] at hp
 clear hA
 unfold q7_24 C7 Tryd.f7 seq1 seq2
 simp only[Option.getD_some,lits,Nat.reduceAdd,hp]
 clear hp
 go_wp2_with (first
  |(go_at_call 30;refine H4.out.mono ?_;rintro e w1 ⟨rfl,rfl⟩)
  |(go_at_call 29;refine (H5.out _ rfl).mono ?_;rintro e w1 ⟨_,rfl,rfl,k1,k2,k3⟩))
 first
  |exact ⟨⟨rfl,rfl,by
  intro p hp
  simp only[List.mem_cons,List.not_mem_nil,or_false] at hp
  rcases hp with rfl|rfl|rfl|rfl|rfl<;>first|rfl|exact congrArg I (by omega)|exact congrArg Value.bool (by simp<;>omega)|exact congrArg Value.bool (by simp)|(simp;done)⟩,k1,k2,k3⟩
  |exact ⟨rfl,rfl,by
  intro p hp
  simp only[List.mem_cons,List.not_mem_nil,or_false] at hp
  rcases hp with rfl|rfl|rfl|rfl|rfl<;>first|rfl|exact congrArg I (by omega)|exact congrArg Value.bool (by simp<;>omega)|exact congrArg Value.bool (by simp)|(simp;done)|exact congrArg I hand⟩
theorem p7_13 {v:World}{a:Act}{n N b o cap M wb:Nat}{pp tp:Option Addr}{P pc Q tc:Nat}{i:Nat}{L c1 c2:Nat}{ap sp:Option Addr}(hi:i<N) (d:v.cell? ⟨M,i,none⟩=some (.slice ap L c1)) (d2:v.cell? ⟨b,o+i,none⟩=some (.slice sp L c2)) (hA:Fl 189 [(1,I (n:Nat)),(2,.slice (some ⟨b,o,none⟩) N cap),(8,Pt wb 0),(9,.slice (some ⟨M,0,none⟩) N N),(11,.slice pp P pc),(12,.slice tp Q tc),(13,I (i:Nat))] a) :
 q7_13.wp Tryd.prog (Nrm fun a' w'=>Fl 189 [(70,.bool false),(1,I (n:Nat)),(2,.slice (some ⟨b,o,none⟩) N cap),(8,Pt wb 0),(9,.slice (some ⟨M,0,none⟩) N N),(11,.slice pp P pc),(12,.slice tp Q tc),(13,I (i:Nat))] a'∧(w'.heap=v.heap∧w'.os=v.os∧w'.output=v.output)) a v:=by
 have hi':(i:Int)<(N:Int):=by omega
 obtain ⟨u,rfl,hp⟩:=litF hA
 simp only[Fls] at hp
 clear hA
 unfold q7_13 C7 Tryd.f7 seq1 seq2 Ak Ar
 simp only[Option.getD_some,lits,Nat.reduceAdd,hp]
 clear hp
 go_quiet (fail)
 all_goals exact ⟨⟨rfl,rfl,by
  intro p hp
  simp only[List.mem_cons,List.not_mem_nil,or_false] at hp
  rcases hp with rfl|rfl|rfl|rfl|rfl|rfl|rfl|rfl<;>first|rfl|exact congrArg I (by omega)|exact congrArg Value.bool (by simp<;>omega)|exact congrArg Value.bool (by simp)|(simp;done)⟩,rfl,rfl,rfl⟩
theorem p7_30 {v:World}{a:Act}{n T ct g:Nat}{p pp tp:Option Addr}{P pc Q tc:Nat}{L:List Stp}{y:Int}{h i:Nat}{B:Nat}{xs:List Int}(hn:n≤1000) (hT:L.length=T) (hTs:T≤400000) (hp0:0<T->p=some ⟨g,0,none⟩) (hL:TrL g L v) (hi:i<n) (hy:y=(i:Int)+1) (hB:B≤v.heap.size) (ho:v.ownsRow B 3 1 (.slice tp Q tc) Q (xs.map I)) (hl:Q≤400000) (hA:Fl 189 [(1,I (n:Nat)),(11,.slice pp P pc),(12,.slice tp Q tc),(16,.slice p T ct),(17,I y),(18,I (h:Nat))] a) :
 q7_30.wp Tryd.prog (fun e a' w'=>e=.normal∧∃ g2 cpg w1,Fl 189 [(1,I (n:Nat)),(11,.slice pp P pc),(12,.slice (some ⟨g2,0,none⟩) (Q+1) cpg),(16,.slice p T ct),(17,I y),(18,I (h:Nat))] a'∧w'.ownsRow B 3 1 (.slice (some ⟨g2,0,none⟩) (Q+1) cpg) (Q+1) (xs.map I++[I (B8 (vlJ n i) L)])∧(w1.heap=v.heap∧w1.os=v.os∧w1.output=v.output)∧(World.alloc w1 (.cells #[I (B8 (vlJ n i) L)] 3)).grownBy w' (Value.slice tp Q tc).ownBlock∧((Value.slice tp Q tc).ownBlock=some g2∨g2=w1.heap.size+1)) a v:=by
 have H5:Hid (∀ u:World,u.heap=v.heap->Calls Tryd.prog 29 #[.slice p T ct,I (vlJ n i:Nat)] u fun e w1=>(∃ r,e=.returned r∧r=I (B8 (vlJ n i) L)∧w1.heap=u.heap∧w1.os=u.os∧w1.output=u.output)):=⟨fun u hu=>(last_body (vlJ n i) hT hTs hp0 (fun k s hs=>by
  have hc:∀ (a:Addr) (x:Value),v.cell? a=some x->u.cell? a=some x:=fun a x ha=>by rw[World.cell?_of_block (w:=v) (w':=u) (by rw[hu])];exact ha
  obtain ⟨h0,h1,h2,h3,h4⟩:=hL k s hs
  exact ⟨hc _ _ h0,hc _ _ h1,hc _ _ h2,hc _ _ h3,hc _ _ h4⟩)).calls Tryd.func29 rfl⟩
 have HO:Hid (v.ownsRow B 3 1 (.slice tp Q tc) Q (xs.map I)):=⟨ho⟩
 clear ho
 obtain ⟨j0,hj,hj0,hj1,hj2⟩:=info_parts info3
 have H4:Hid (Calls Tryd.prog 31 #[I 0,I (n:Nat),I (i:Nat)] v _):=⟨value_any n i hn hi v⟩
 have hw:IntKind.i64.wrap (y - 1)=(i:Int):=by rw[IntKind.wrap_i64];omega
 clear hL hp0 hT hy
 obtain ⟨u,rfl,hp⟩:=litF hA
 simp only[Fls] at hp
 clear hA
 unfold q7_30 C7 Tryd.f7 seq1 seq2 Ak Ar
 simp only[Option.getD_some,lits,Nat.reduceAdd,hp]
 clear hp
 go_wp2_with (first
  |(go_at_call 31;refine H4.out.mono ?_;rintro e w1 ⟨rfl,rfl⟩)
  |(go_at_call 29;refine (H5.out _ rfl).mono ?_;rintro e w1 ⟨_,rfl,rfl,kk⟩;have KK:Hid _:=⟨kk⟩;clear kk)
  |(refine wpList_append_lies _ rfl (.tmp 150) (.tmp 157) 25 rfl B 3 j0 _ 1 8 Tryd.underlying25 hj hj0 hj1 hj2 rfl (by decide) (.slice tp Q tc) Q (xs.map I) rfl (F5 (Br (Below.refl _ _) _) (Au (fun _ _=>by rw[KK.out.1]) HO.out)) ⟨_,0,none⟩ 1 1 [I (B8 (vlJ n i) L)] rfl rfl (newsI _ _ _) (oneI _) (by decide) (by unfold maxLen;omega) (by omega) (by simp;rw[KK.out.1];omega) _ rfl ?_
    intro g2 cpg w6 hown6 hgrow6 hat6 hlt6))
 first
  |exact ⟨g2,cpg,w1,⟨rfl,rfl,by
  intro p hp
  simp only[List.mem_cons,List.not_mem_nil,or_false] at hp
  rcases hp with rfl|rfl|rfl|rfl|rfl|rfl<;>first|rfl|exact congrArg I (by omega)|exact congrArg Value.bool (by simp<;>omega)|exact congrArg Value.bool (by simp)|(simp;done)⟩,hown6,KK.out,hgrow6,hat6.imp_right (fun e=>e.trans (Array.size_push _))⟩
  |exact ⟨g2,cpg,⟨⟨rfl,rfl,by
  intro p hp
  simp only[List.mem_cons,List.not_mem_nil,or_false] at hp
  rcases hp with rfl|rfl|rfl|rfl|rfl|rfl<;>first|rfl|exact congrArg I (by omega)|exact congrArg Value.bool (by simp<;>omega)|exact congrArg Value.bool (by simp)|(simp;done)⟩,hown6⟩,w1,KK.out,hgrow6,hat6.imp_right (fun e=>e.trans (Array.size_push _))⟩
  |exact ⟨g2,cpg,⟨rfl,rfl,by
  intro p hp
  simp only[List.mem_cons,List.not_mem_nil,or_false] at hp
  rcases hp with rfl|rfl|rfl|rfl|rfl|rfl<;>first|rfl|exact congrArg I (by omega)|exact congrArg Value.bool (by simp<;>omega)|exact congrArg Value.bool (by simp)|(simp;done)⟩,hown6,w1,KK.out,hgrow6,hat6.imp_right (fun e=>e.trans (Array.size_push _))⟩
theorem count_same {v:World}{p:Option Addr}{b o cap:Nat}{xs:List Int}(z:Int) (hx:xs.length≤400000) (hp:0<xs.length->p=some ⟨b,o,none⟩) (hc:∀ k x,xs[k]? = some x->v.cell? ⟨b,o+k,none⟩=some (I x)) :
 Body Tryd.f33 #[.slice p xs.length cap,I z] v (fun r v'=>r=I (xs.count z:Nat)∧v'=v):=by
 intro code hb
 obtain rfl:=Option.some.inj hb
 clear hb
 have HC:Hid (∀ k x,xs[k]? = some x->v.cell? ⟨b,o+k,none⟩=some (I x)):=⟨hc⟩
 have HP:Hid (0<xs.length->p=some ⟨b,o,none⟩):=⟨hp⟩
 clear hc hp
 obtain ⟨T,hT⟩:∃ T,xs.length=T:=⟨_,rfl⟩
 have HT:Hid (xs.length=T):=⟨hT⟩
 rw[hT] at hx HP ⊢
 clear hT
 simp only[Tryd.ntmps33,List.size_toArray,List.length_cons,List.length_nil,Nat.reduceAdd,Nat.reduceSub,Array.replicate_succ,Array.replicate_zero,List.push_toArray,List.append_toArray,List.nil_append,List.cons_append]
 go_wp2_with fail
 go_loopw [5,6] (fun l i u=>∃ k:Nat,k≤T∧i=.int .i64 k∧l=.int .i64 ((xs.take k).count z:Nat)∧u=v) (fun _ i _=>T - (intOf i).toNat)
 case atStart=>exact ⟨0,Nat.zero_le _,rfl,rfl,rfl⟩
 case round =>
  obtain ⟨k,hk,rfl,rfl,rfl⟩:=hrel
  have HC':=HC
  by_cases hlt:k<T
  ·obtain rfl:=HP.out (by omega)
   obtain ⟨x,hxk⟩:∃ x,xs[k]? = some x:=⟨_,List.getElem?_eq_getElem (by rw[HT.out];exact hlt)⟩
   have c0:=HC'.out k x hxk
   have HM:Hid ((xs.take (k+1)).count z=(xs.take k).count z+if x=z then 1 else 0):=⟨count_take (z:=z) hxk⟩
   have hlt':(k:Int)<(T:Int):=by omega
   have HLen:(xs.take k).count z≤400000:=by have:=List.count_le_length (a:=z) (l:=xs.take k);rw[List.length_take] at this;omega
   clear hxk
   generalize hcn:(xs.take k).count z=cn at *
   have HN:Hid ((xs.take k).count z=cn):=⟨hcn⟩
   clear hcn
   by_cases hz:x=z
   ·have f1:(x==z)=true:=by simp[hz]
    subst hz
    go_wp2_with fail
    go_roundw
    case rel=>exact ⟨k+1,by omega,by go_num,by rw[HM.out,if_pos rfl];go_num,by trivial⟩
    case measure=>simp[intOf];omega
   ·have f1:(x==z)=false:=by simp[hz]
    go_wp2_with fail
    go_roundw
    case rel=>exact ⟨k+1,by omega,by go_num,by rw[HM.out,if_neg hz];rfl,by trivial⟩
    case measure=>simp[intOf];omega
  ·have hkk:k=T:=by omega
   subst hkk
   have hfin:xs.take k=xs:=List.take_of_length_le (by rw[HT.out];exact Nat.le_refl _)
   rw[hfin]
   clear hfin
   go_wp2_with fail
   go_ret
   exact ⟨_,rfl,rfl,rfl⟩
theorem p7_37 {v:World}{a:Act}{b1 o1 b2 o2 P pc Q tc g:Nat}{xs ys:List Int}{z:Int}(hx:xs.length=P) (hy:ys.length=Q) (hP:P≤400000) (hQ:Q≤400000) (hg:g<P) (cz:v.cell? ⟨b1,o1+g,none⟩=some (I z)) (h1:∀ k x,xs[k]? = some x->v.cell? ⟨b1,o1+k,none⟩=some (I x)) (h2:∀ k x,ys[k]? = some x->v.cell? ⟨b2,o2+k,none⟩=some (I x)) (he:xs.count z=ys.count z) (hA:Fl 189 [(11,.slice (some ⟨b1,o1,none⟩) P pc),(12,.slice (some ⟨b2,o2,none⟩) Q tc),(19,I (g:Nat))] a) :
 q7_37.wp Tryd.prog (Nrm fun a' w'=>Fl 189 [(188,.bool false),(11,.slice (some ⟨b1,o1,none⟩) P pc),(12,.slice (some ⟨b2,o2,none⟩) Q tc),(19,I (g:Nat))] a'∧(w'.heap=v.heap∧w'.os=v.os∧w'.output=v.output)) a v:=by
 have H5:Hid (∀ k:Nat,Calls Tryd.prog 33 #[.slice (some ⟨b1,o1,none⟩) P pc,I z] (v.drewN k) fun e w1=>e=.returned (I (xs.count z:Nat))∧w1=v.drewN k):=⟨fun k=>by subst hx;exact ((count_same z (by omega) (fun _=>rfl) (fun k' x hk=>by rw[World.cell?_of_block (w:=v) (w':=v.drewN k) rfl];exact h1 k' x hk)).calls Tryd.func33 rfl).mono (fun e w1 hq=>by obtain ⟨_,rfl,rfl,rfl⟩:=hq;exact ⟨rfl,rfl⟩)⟩
 have H6:Hid (∀ k:Nat,Calls Tryd.prog 33 #[.slice (some ⟨b2,o2,none⟩) Q tc,I z] (v.drewN k) fun e w1=>e=.returned (I (xs.count z:Nat))∧w1=v.drewN k):=⟨fun k=>by rw[he];subst hy;exact ((count_same z (by omega) (fun _=>rfl) (fun k' x hk=>by rw[World.cell?_of_block (w:=v) (w':=v.drewN k) rfl];exact h2 k' x hk)).calls Tryd.func33 rfl).mono (fun e w1 hq=>by obtain ⟨_,rfl,rfl,rfl⟩:=hq;exact ⟨rfl,rfl⟩)⟩
 have hg':(g:Int)<(P:Int):=by omega
 clear h1 h2 hx hy he hP hQ
 generalize xs.count z=cn at H5 H6
 obtain ⟨u,rfl,hp⟩:=litF hA
 simp only[Fls] at hp
 clear hA
 unfold q7_37 C7 Tryd.f7 seq1 seq2 Ak Ar
 simp only[Option.getD_some,lits,Nat.reduceAdd,hp]
 clear hp
 go_quiet ((go_at_call 33;first|(with_reducible exact Calls.quiet_of_same (H5.out _))|(with_reducible exact Calls.quiet_of_same (H6.out _))))
 all_goals exact ⟨⟨rfl,rfl,by
  intro p hp
  simp only[List.mem_cons,List.not_mem_nil,or_false] at hp
  rcases hp with rfl|rfl|rfl|rfl<;>first|rfl|exact congrArg I (by omega)|exact congrArg Value.bool (by simp<;>omega)|exact congrArg Value.bool (by simp)|(simp;done)⟩,rfl,rfl,rfl⟩
end Go.Proofs.YtbbhahigofeacaaDoor.Gen
