/- Of the proof of OnceLinear. Part 28 of 30. (Joined, by program, and written short, of: R3Ways2, R3Ways3, R3Ways4, R3WaysAll, R3RefL.) -/
import Derived.Test.YtaofjdoielmobaaDoorOnceLinear27
import Derived.Deep.RegionWith
set_option linter.unusedSimpArgs false
set_option linter.unusedVariables false
set_option maxHeartbeats 4000000
set_option maxRecDepth 100000
namespace Go.Proofs.YtaofjdoielmobaaDoor.R3
open Go.RowKit Go.Proofs.YtaofjdoielmobaaDoor.His Go.Deep Go.Maps
theorem act_range {x:Ev}(h:1≤x.op∧x.op≤4):∃ g,actOf x=some g:=by
 unfold actOf
 by_cases h1:x.op=1
 ·exact ⟨_,if_pos h1⟩
 ·rw[if_neg h1]
  by_cases h2:x.op=2
  ·exact ⟨_,if_pos h2⟩
  ·rw[if_neg h2]
   by_cases h3:x.op=3
   ·exact ⟨_,if_pos h3⟩
   ·rw[if_neg h3]
    exact ⟨_,if_pos (by omega)⟩
theorem act_not {x:Ev}(h:¬ (1≤x.op∧x.op≤4)):actOf x=none:=by
 unfold actOf
 rw[if_neg (by omega),if_neg (by omega),if_neg (by omega),if_neg (by omega)]
theorem keep2 {u u':World}{a1 a2:Addr}{v1 v2:Value}(h:u.cell? a1=some v1∧u.cell? a2=some v2) (hb:Below u.heap.size u u'):u'.cell? a1=some v1∧u'.cell? a2=some v2:=⟨Bb hb h.1,Bb hb h.2⟩
theorem Da {w:World}{base g n cap:Nat}{xs:List Value}(h:w.ownsRow base 3 1 (.slice (some ⟨g,0,none⟩) n cap) n xs) {j:Nat}(hj:j<n):(∃ v,w.cell? ⟨g,j,none⟩=some v)∧w.frozen? ⟨g,j,none⟩=false:=by
 rcases h.2 with ⟨h0,_⟩|⟨g',cap',cur,hv,hb,hh,h1,h2,h3,h4⟩
 ·cases h0
 ·cases hv
  exact cellA hh (by omega)
theorem own_three {w:World}{base g n cap K:Nat}{s:List Int}{c v:Int}(h:w.ownsRow base 3 1 (.slice (some ⟨g,0,none⟩) n cap) n (s.map I)) (hn:s.length=n) (hK:K+2<n) :
 SI (((w.setCell ⟨g,K,none⟩ (I 1)).setCell ⟨g,K+1,none⟩ (I c)).setCell ⟨g,K+2,none⟩ (I v)) (.slice (some ⟨g,0,none⟩) n cap) (((s.set K 1).set (K+1) c).set (K+2) v):=by
 have h1:=own_set h K (by omega) (I 1)
 have h2:=own_set h1 (K+1) (by omega) (I c)
 have h3:=own_set h2 (K+2) (by omega) (I v)
 rw[←List.map_set,←List.map_set,←List.map_set] at h3
 have hl:(((s.set K 1).set (K+1) c).set (K+2) v).length=n:=by simp[hn]
 rw[←hl] at h3 ⊢
 exact own_si h3
theorem after_copy {W0 w7:World}{g1 n cap:Nat}{xs:List Value}{c v:Value}{t:TypeId}{w0:World}(hW:W0=w0.alloc (.cells #[c,v] t)) (hown:w7.ownsRow W0.heap.size 3 1 (.slice (some ⟨g1,0,none⟩) n cap) n xs) (hg:W0.grownBy w7 (Value.slice none 0 0).ownBlock) (hat:(Value.slice none 0 0).ownBlock=some g1∨g1=W0.heap.size) :
 g1=W0.heap.size∧w7.cell? ⟨w0.heap.size,0,none⟩=some c∧w7.cell? ⟨w0.heap.size,1,none⟩=some v∧Below W0.heap.size W0 w7:=by
 have hb:Below W0.heap.size W0 w7:=(Below.refl _ _).grown hg (Nat.le_refl _) (fun g hg=>by cases hg)
 refine ⟨?_,?_,?_,hb⟩
 ·rcases hat with h|h
  ·cases h
  ·exact h
 ·subst hW;exact kcell' hb (by simp) (World.cell?_alloc_at _ _ _ _ rfl)
 ·subst hW;exact kcell' hb (by simp) (World.cell?_alloc_at _ _ _ _ rfl)
theorem si_at {w:World}{p:Option Addr}{n cap:Nat}{s:List Int}(h:SI w (.slice p n cap) s) (h0:0<s.length):∃ blk off,p=some ⟨blk,off,none⟩∧blk<w.heap.size∧∀ j,j<s.length->w.cell? ⟨blk,off+j,none⟩=some (I (s.getD j 0)):=by
 obtain ⟨p',cap',e,_,_,h3⟩:=h
 cases e
 obtain ⟨blk,off,rfl,hlt,_⟩:=h3 0 _ (List.getElem?_eq_getElem h0)
 refine ⟨blk,off,rfl,hlt,fun j hj=>?_⟩
 obtain ⟨b',o',e,_,hr⟩:=h3 j _ (List.getElem?_eq_getElem hj)
 cases e
 have:=hr 0 _ rfl
 rw[List.getD_eq_getElem?_getD,List.getElem?_eq_getElem hj]
 simpa using this
theorem onces_any (n:Int) (h1:1≤n) (h2:n≤1000) (sv:Value) (s:List Int) (hl:s.length=3*n.toNat) (x:Ev) (w:World) (h:SI w sv s) :
 Calls Tryd.prog 112 #[I n,sv,evV x] w fun e w'=>∃ v,e=.returned v∧WOuts w' v (Cj n s x)∧Below w.heap.size w w':=by
 have HS:Hid (SI w sv s):=h
 obtain ⟨p,cap,rfl,hc,hm,_⟩:=h
 unfold maxLen at hm
 by_cases hr:1≤x.op∧x.op≤4
 ·obtain ⟨g,hg⟩:=act_range hr
  obtain ⟨q,hq,hqe⟩:∃ q:Nat,q<n.toNat∧x.a % n=(q:Int):=by
   have e1:=Int.emod_nonneg x.a (show n≠0 by omega)
   have e2:=Int.emod_lt_of_pos x.a (show 0<n by omega)
   exact ⟨(x.a % n).toNat,by omega,by omega⟩
  have hway:Cj n s x=if s.getD (3*q) 0=1 then [((s.getD (3*q+1) 0,s.getD (3*q+2) 0),s)] else [(g,((s.set (3*q) 1).set (3*q+1) g.1).set (3*q+2) g.2)]:=by
   unfold Cj;rw[hg,hqe];rfl
  have HWAY:Hid _:=hway
  have hq3:3*q+2<s.length:=by omega
  obtain ⟨blk,off,rfl,hlb,hcell⟩:=si_at HS.out (by omega)
  have c0:=hcell (3*q) (by omega)
  have c1:=hcell (3*q+1) (by omega)
  have c2:=hcell (3*q+2) (by omega)
  have HQE:Hid (x.a % n=(q:Int)):=hqe
  have b1:decide (x.op<1)=false:=by simp;omega
  have b2:decide (x.op > 4)=false:=by simp;omega
  have HG:Hid (actOf x=some g):=hg
  generalize hs0:s.getD (3*q) 0=z0 at c0
  generalize hs1:s.getD (3*q+1) 0=z1 at c1
  generalize hs2:s.getD (3*q+2) 0=z2 at c2
  have HZ0:Hid (s.getD (3*q) 0=z0):=hs0
  have HZ1:Hid (s.getD (3*q+1) 0=z1):=hs1
  have HZ2:Hid (s.getD (3*q+2) 0=z2):=hs2
  generalize hsl:s.length=sl at hc hq3
  have HSL:Hid (s.length=sl):=hsl
  have hq4:q≤1000:=by omega
  have HSLB:Hid (sl≤3000):=by rw[Hid];omega
  obtain ⟨K,hK⟩:∃ K,K=3*q:=⟨_,rfl⟩
  rw[←hK] at c0 c1 c2 hq3
  have HK:Hid (K=3*q):=hK
  have hk3:(3:Int)*(q:Int)=(K:Int):=by omega
  have hK4:K≤3000:=by omega
  have ki0:(0:Int)≤(K:Int):=by omega
  have ki1:(0:Int)≤(K:Int)+1:=by omega
  have ki2:(0:Int)≤(K:Int)+2:=by omega
  have kj0:(K:Int)<(sl:Int):=by omega
  have kj1:(K:Int)+1<(sl:Int):=by omega
  have kj2:(K:Int)+2<(sl:Int):=by omega
  have kw1:IntKind.i64.wrap ((K:Int)+1)=K+1:=by rw[IntKind.wrap_i64];omega
  have kw2:IntKind.i64.wrap ((K:Int)+2)=K+2:=by rw[IntKind.wrap_i64];omega
  have kt1:((K:Int)+1).toNat=K+1:=by omega
  have kt2:((K:Int)+2).toNat=K+2:=by omega
  clear hK hq hl hq4
  clear hway hcell hqe hs0 hs1 hs2 hsl hg
  by_cases hz:z0=1
  ·have hz':(z0==1)=true:=by simpa using hz
   go_enter Tryd.func112,Tryd.ntmps112
   go_wp2_with (go_at_call 127;refine (Ga x.a n h1 h2 _).mono ?_;rintro e w' ⟨rfl,rfl⟩;rw[HQE.out])
   go_region_held3 (fun u=>u.cell? ⟨blk,off+(K+1),none⟩=some (I z1)∧u.cell? ⟨blk,off+(K+2),none⟩=some (I z2))
    (first|(exact keep2 ‹_› (Ad (Below.refl _ _) _))|(simp[go_sem, *];done))
    (fail)
   rename_i hH
   clear hH
   go_wp2_with fail
   go_ret
   rw[show Cj n s x=_ from HWAY.out,if_pos (HZ0.out.trans hz),HZ1.out,HZ2.out]
   refine ⟨_,rfl,Ii (o:=((z1,z2),s)) (sv:=.slice (some ⟨blk,off,none⟩) sl cap) (E9 _ _ _ _ _ rfl (by simp)) ?_,Ad (below_drew (Ad (Below.refl _ _) _)) _⟩
   rw[←HSL.out]
   exact HS.out.later (Ad (below_drew (Ad (Below.refl _ _) _)) _)
  ·have hz':(z0==1)=false:=by simpa using hz
   obtain ⟨j0,hj',hj0,hj1,hj2⟩:=info_parts info3
   have hsl0:0<sl:=by omega
   have hslb:sl≤1000000:=by have:=HSLB.out;omega
   have hnil:∀ W:World,W.ownsRow (w.heap.size+1+1) 3 1 (.slice none 0 0) 0 []:=fun W=>⟨rfl,.inl ⟨rfl,rfl⟩⟩
   have HNIL:Hid (∀ W:World,W.ownsRow (w.heap.size+1+1) 3 1 (.slice none 0 0) 0 []):=hnil
   clear hnil c1 c2
   have hop:(x.op=1∧g=(0,x.b))∨(x.op=2∧g=(70,x.b))∨(x.op=3∧g=(71,x.b))∨(x.op=4∧g=(70,72)):=by
    have hg:=HG.out
    unfold actOf at hg
    split at hg
    ·exact .inl ⟨by assumption,(Option.some.inj hg).symm⟩
    ·split at hg
     ·exact .inr (.inl ⟨by assumption,(Option.some.inj hg).symm⟩)
     ·split at hg
      ·exact .inr (.inr (.inl ⟨by assumption,(Option.some.inj hg).symm⟩))
      ·split at hg
       ·exact .inr (.inr (.inr ⟨by assumption,(Option.some.inj hg).symm⟩))
       ·cases hg
   rcases hop with ⟨hop,rfl⟩|⟨hop,rfl⟩|⟨hop,rfl⟩|⟨hop,rfl⟩
   ·have o2:(x.op==2)=false:=by rw[hop];rfl
    have o3:(x.op==3)=false:=by rw[hop];rfl
    have o4:(x.op==4)=false:=by rw[hop];rfl
    clear hop
    go_enter Tryd.func112,Tryd.ntmps112
    go_wp2_with (first
     |(go_at_call 127;refine (Ga x.a n h1 h2 _).mono ?_;rintro e w' ⟨rfl,rfl⟩;rw[HQE.out])
     |(at_builtin;refine wpList_append_lies _ rfl (.tmp 57) (.tmp 58) 22 rfl (w.heap.size+1+1) 3 j0 _ 1 8 Tryd.underlying22 hj' hj0 hj1 hj2 rfl (by decide) (.slice none 0 0) 0 [] ?_
      (HNIL.out _) ⟨blk,off,none⟩ sl cap (s.map I) rfl (by rw[List.length_map,HSL.out];simp) (si_cells (s:=s) (HS.out.later (Ad (Ad (Below.refl _ _) _) _))) (one_ints s) hsl0 (by unfold maxLen;omega) (by omega) (by simp) _ rfl ?_;rfl;intro g1 cp1 w7 hown7 hgrow7 hat7 hlt7
       rw[Nat.zero_add,List.nil_append] at hown7
       obtain ⟨hg1,x0,x1,hb7⟩:=after_copy (w0:=w.alloc (.cells (evC x) 93)) (c:=I 0) (v:=I x.b) (t:=38) rfl (by simpa using hown7) hgrow7 hat7
       rw[World.size_alloc] at hg1 x0 x1
       rw[World.size_alloc] at hg1
       subst hg1
       obtain ⟨⟨v0,y0⟩,f0⟩:=Da hown7 (j:=K) (by omega)
       obtain ⟨⟨v1,y1⟩,f1⟩:=Da hown7 (j:=K+1) (by omega)
       obtain ⟨⟨v2,y2⟩,f2⟩:=Da hown7 (j:=K+2) (by omega)
       have HO7:Hid _:=hown7
       have HB7:Hid _:=hb7
       clear hgrow7 hat7 hown7 hb7))
    go_ret
    rw[show Cj n s x=_ from HWAY.out,if_neg (by rw[HZ0.out];exact hz),←HK.out]
    have hsi:=own_three (c:=0) (v:=x.b) HO7.out HSL.out hq3
    have hle:w.heap.size≤w.heap.size+1+1:=by omega
    have hbB:Below w.heap.size w (((w7.setCell ⟨w.heap.size+1+1,K,none⟩ (I 1)).setCell ⟨w.heap.size+1+1,K+1,none⟩ (I 0)).setCell ⟨w.heap.size+1+1,K+2,none⟩ (I x.b)) :=
     (((A0 (Ad (Ad (Below.refl _ w) _) _) HB7.out).setCell hle _).setCell hle _).setCell hle _
    exact ⟨_,rfl,Ii (o:=((0,x.b),((s.set K 1).set (K+1) 0).set (K+2) x.b)) (sv:=.slice (some ⟨w.heap.size+1+1,0,none⟩) sl cp1) (E9 _ _ _ _ _ rfl (by simp)) (hsi.later (Ad (Below.refl _ _) _)),Ad hbB _⟩
   ·have o2:(x.op==2)=true:=by rw[hop];rfl
    have o3:(x.op==3)=false:=by rw[hop];rfl
    have o4:(x.op==4)=false:=by rw[hop];rfl
    clear hop
    go_enter Tryd.func112,Tryd.ntmps112
    go_wp2_with (first
     |(go_at_call 127;refine (Ga x.a n h1 h2 _).mono ?_;rintro e w' ⟨rfl,rfl⟩;rw[HQE.out])
     |(at_builtin;refine wpList_append_lies _ rfl (.tmp 57) (.tmp 58) 22 rfl (w.heap.size+1+1) 3 j0 _ 1 8 Tryd.underlying22 hj' hj0 hj1 hj2 rfl (by decide) (.slice none 0 0) 0 [] ?_
      (HNIL.out _) ⟨blk,off,none⟩ sl cap (s.map I) rfl (by rw[List.length_map,HSL.out];simp) (si_cells (s:=s) (HS.out.later (Ad (Ad (Below.refl _ _) _) _))) (one_ints s) hsl0 (by unfold maxLen;omega) (by omega) (by simp) _ rfl ?_;rfl;intro g1 cp1 w7 hown7 hgrow7 hat7 hlt7
       rw[Nat.zero_add,List.nil_append] at hown7
       obtain ⟨hg1,x0,x1,hb7⟩:=after_copy (w0:=w.alloc (.cells (evC x) 93)) (c:=I 70) (v:=I x.b) (t:=38) rfl (by simpa using hown7) hgrow7 hat7
       rw[World.size_alloc] at hg1 x0 x1
       rw[World.size_alloc] at hg1
       subst hg1
       obtain ⟨⟨v0,y0⟩,f0⟩:=Da hown7 (j:=K) (by omega)
       obtain ⟨⟨v1,y1⟩,f1⟩:=Da hown7 (j:=K+1) (by omega)
       obtain ⟨⟨v2,y2⟩,f2⟩:=Da hown7 (j:=K+2) (by omega)
       have HO7:Hid _:=hown7
       have HB7:Hid _:=hb7
       clear hgrow7 hat7 hown7 hb7))
    go_ret
    rw[show Cj n s x=_ from HWAY.out,if_neg (by rw[HZ0.out];exact hz),←HK.out]
    have hsi:=own_three (c:=70) (v:=x.b) HO7.out HSL.out hq3
    have hle:w.heap.size≤w.heap.size+1+1:=by omega
    have hbB:Below w.heap.size w (((w7.setCell ⟨w.heap.size+1+1,K,none⟩ (I 1)).setCell ⟨w.heap.size+1+1,K+1,none⟩ (I 70)).setCell ⟨w.heap.size+1+1,K+2,none⟩ (I x.b)) :=
     (((A0 (Ad (Ad (Below.refl _ w) _) _) HB7.out).setCell hle _).setCell hle _).setCell hle _
    exact ⟨_,rfl,Ii (o:=((70,x.b),((s.set K 1).set (K+1) 70).set (K+2) x.b)) (sv:=.slice (some ⟨w.heap.size+1+1,0,none⟩) sl cp1) (E9 _ _ _ _ _ rfl (by simp)) (hsi.later (Ad (Below.refl _ _) _)),Ad hbB _⟩
   ·have o2:(x.op==2)=false:=by rw[hop];rfl
    have o3:(x.op==3)=true:=by rw[hop];rfl
    have o4:(x.op==4)=false:=by rw[hop];rfl
    clear hop
    go_enter Tryd.func112,Tryd.ntmps112
    go_wp2_with (first
     |(go_at_call 127;refine (Ga x.a n h1 h2 _).mono ?_;rintro e w' ⟨rfl,rfl⟩;rw[HQE.out])
     |(at_builtin;refine wpList_append_lies _ rfl (.tmp 57) (.tmp 58) 22 rfl (w.heap.size+1+1) 3 j0 _ 1 8 Tryd.underlying22 hj' hj0 hj1 hj2 rfl (by decide) (.slice none 0 0) 0 [] ?_
      (HNIL.out _) ⟨blk,off,none⟩ sl cap (s.map I) rfl (by rw[List.length_map,HSL.out];simp) (si_cells (s:=s) (HS.out.later (Ad (Ad (Below.refl _ _) _) _))) (one_ints s) hsl0 (by unfold maxLen;omega) (by omega) (by simp) _ rfl ?_;rfl;intro g1 cp1 w7 hown7 hgrow7 hat7 hlt7
       rw[Nat.zero_add,List.nil_append] at hown7
       obtain ⟨hg1,x0,x1,hb7⟩:=after_copy (w0:=w.alloc (.cells (evC x) 93)) (c:=I 71) (v:=I x.b) (t:=38) rfl (by simpa using hown7) hgrow7 hat7
       rw[World.size_alloc] at hg1 x0 x1
       rw[World.size_alloc] at hg1
       subst hg1
       obtain ⟨⟨v0,y0⟩,f0⟩:=Da hown7 (j:=K) (by omega)
       obtain ⟨⟨v1,y1⟩,f1⟩:=Da hown7 (j:=K+1) (by omega)
       obtain ⟨⟨v2,y2⟩,f2⟩:=Da hown7 (j:=K+2) (by omega)
       have HO7:Hid _:=hown7
       have HB7:Hid _:=hb7
       clear hgrow7 hat7 hown7 hb7))
    go_ret
    rw[show Cj n s x=_ from HWAY.out,if_neg (by rw[HZ0.out];exact hz),←HK.out]
    have hsi:=own_three (c:=71) (v:=x.b) HO7.out HSL.out hq3
    have hle:w.heap.size≤w.heap.size+1+1:=by omega
    have hbB:Below w.heap.size w (((w7.setCell ⟨w.heap.size+1+1,K,none⟩ (I 1)).setCell ⟨w.heap.size+1+1,K+1,none⟩ (I 71)).setCell ⟨w.heap.size+1+1,K+2,none⟩ (I x.b)) :=
     (((A0 (Ad (Ad (Below.refl _ w) _) _) HB7.out).setCell hle _).setCell hle _).setCell hle _
    exact ⟨_,rfl,Ii (o:=((71,x.b),((s.set K 1).set (K+1) 71).set (K+2) x.b)) (sv:=.slice (some ⟨w.heap.size+1+1,0,none⟩) sl cp1) (E9 _ _ _ _ _ rfl (by simp)) (hsi.later (Ad (Below.refl _ _) _)),Ad hbB _⟩
   ·have o2:(x.op==2)=false:=by rw[hop];rfl
    have o3:(x.op==3)=false:=by rw[hop];rfl
    have o4:(x.op==4)=true:=by rw[hop];rfl
    clear hop
    go_enter Tryd.func112,Tryd.ntmps112
    go_wp2_with (first
     |(go_at_call 127;refine (Ga x.a n h1 h2 _).mono ?_;rintro e w' ⟨rfl,rfl⟩;rw[HQE.out])
     |(at_builtin;refine wpList_append_lies _ rfl (.tmp 57) (.tmp 58) 22 rfl (w.heap.size+1+1) 3 j0 _ 1 8 Tryd.underlying22 hj' hj0 hj1 hj2 rfl (by decide) (.slice none 0 0) 0 [] ?_
      (HNIL.out _) ⟨blk,off,none⟩ sl cap (s.map I) rfl (by rw[List.length_map,HSL.out];simp) (si_cells (s:=s) (HS.out.later (Ad (Ad (Below.refl _ _) _) _))) (one_ints s) hsl0 (by unfold maxLen;omega) (by omega) (by simp) _ rfl ?_;rfl;intro g1 cp1 w7 hown7 hgrow7 hat7 hlt7
       rw[Nat.zero_add,List.nil_append] at hown7
       obtain ⟨hg1,x0,x1,hb7⟩:=after_copy (w0:=w.alloc (.cells (evC x) 93)) (c:=I 70) (v:=I 72) (t:=38) rfl (by simpa using hown7) hgrow7 hat7
       rw[World.size_alloc] at hg1 x0 x1
       rw[World.size_alloc] at hg1
       subst hg1
       obtain ⟨⟨v0,y0⟩,f0⟩:=Da hown7 (j:=K) (by omega)
       obtain ⟨⟨v1,y1⟩,f1⟩:=Da hown7 (j:=K+1) (by omega)
       obtain ⟨⟨v2,y2⟩,f2⟩:=Da hown7 (j:=K+2) (by omega)
       have HO7:Hid _:=hown7
       have HB7:Hid _:=hb7
       clear hgrow7 hat7 hown7 hb7))
    go_ret
    rw[show Cj n s x=_ from HWAY.out,if_neg (by rw[HZ0.out];exact hz),←HK.out]
    have hsi:=own_three (c:=70) (v:=72) HO7.out HSL.out hq3
    have hle:w.heap.size≤w.heap.size+1+1:=by omega
    have hbB:Below w.heap.size w (((w7.setCell ⟨w.heap.size+1+1,K,none⟩ (I 1)).setCell ⟨w.heap.size+1+1,K+1,none⟩ (I 70)).setCell ⟨w.heap.size+1+1,K+2,none⟩ (I 72)) :=
     (((A0 (Ad (Ad (Below.refl _ w) _) _) HB7.out).setCell hle _).setCell hle _).setCell hle _
    exact ⟨_,rfl,Ii (o:=((70,72),((s.set K 1).set (K+1) 70).set (K+2) 72)) (sv:=.slice (some ⟨w.heap.size+1+1,0,none⟩) sl cp1) (E9 _ _ _ _ _ rfl (by simp)) (hsi.later (Ad (Below.refl _ _) _)),Ad hbB _⟩
 ·have e1:Cj n s x=[]:=by unfold Cj;rw[act_not hr]
  rw[e1]
  by_cases hlo:x.op<1
  ·have b1:decide (x.op<1)=true:=by simpa using hlo
   clear e1 hr
   go_enter Tryd.func112,Tryd.ntmps112
   go_wp2_with fail
   go_ret
   exact ⟨_,rfl,wouts_nil _,Ad (Below.refl _ _) _⟩
  ·have b1:decide (x.op<1)=false:=by simpa using hlo
   have b2:decide (x.op > 4)=true:=by simp;omega
   clear e1 hr
   go_enter Tryd.func112,Tryd.ntmps112
   go_wp2_with fail
   go_ret
   exact ⟨_,rfl,wouts_nil _,Ad (Below.refl _ _) _⟩
theorem si_one {w:World}{blk:Nat}{z:Int}(h:w.cell? ⟨blk,0,none⟩=some (I z)):SI w (.slice (some ⟨blk,0,none⟩) 1 1) [z] :=
 ⟨_,_,rfl,Nat.le_refl _,by unfold maxLen;omega,fun i a hi=>by
  cases i with
  |zero =>
   simp at hi;subst hi
   refine ⟨blk,0,rfl,World.block_lt_of_cell? _ _ h,fun j u hj=>?_⟩
   cases j with
   |zero=>simp[encI] at hj;subst hj;simpa using h
   |succ j=>simp[encI] at hj
  |succ i=>simp at hi⟩
theorem make_nums (n:Nat) (hn:n≤1048576) (w:World) :
 (Instr.makeSlice 22 (.int .i64 (n:Int)) (.int .i64 (n:Int))).run Tryd.prog w=.ok (.slice (some ⟨w.heap.size,0,none⟩) n n) (w.alloc (.cells (madeCells #[I 0] n) 3)):=by
 cases hq:Tryd.prog.info? 3 with
 |none=>have:=info3;rw[hq] at this;cases this
 |some i =>
  have hi:=info3
  rw[hq] at hi
  simp only[Option.map_some,Option.some.injEq,Prod.mk.injEq] at hi
  obtain ⟨hz,hs,hb⟩:=hi
  have:=run_make (P:=Tryd.prog) w 22 3 i _ Tryd.underlying22 hq hz .i64 .i64 (n:Int) (n:Int) (by omega) (by omega) (by rw[hb];omega) (by omega)
  rw[hs] at this
  rw[this]
  simp[Value.cells]
theorem si_zeros (w:World) (n:Nat) (hn:n≤1048576):SI (w.alloc (.cells (madeCells #[I 0] n) 3)) (.slice (some ⟨w.heap.size,0,none⟩) n n) (List.replicate n 0):=by
 refine ⟨some ⟨w.heap.size,0,none⟩,n,by simp,by simp,by unfold maxLen;omega,fun i a hi=>?_⟩
 have hil:i<n:=by simpa using (List.getElem?_eq_some_iff.1 hi).1
 have ha:a=0:=by simpa [hil] using hi.symm
 subst ha
 refine ⟨w.heap.size,0,rfl,by simp,fun j u hj=>?_⟩
 cases j with
 |zero =>
  simp[encI] at hj;subst hj
  rw[World.cell?_alloc_at _ _ _ _ rfl]
  simp[madeCells,hil,Nat.mod_one]
 |succ j=>simp[encI] at hj
theorem first_any (ob st:Int) (h:Ee ob st) (w:World) :
 Calls Tryd.prog 42 #[I ob,I st] w fun e w'=>∃ v,e=.returned v∧SI w' v (Cf ob st)∧Below w.heap.size w w':=by
 by_cases h2:ob=2
 ·subst h2
  go_enter Tryd.func42,Tryd.ntmps42
  go_wp2
  go_ret
  exact ⟨_,rfl,⟨none,0,rfl,Nat.le_refl _,Nat.zero_le _,fun i a hi=>by simp[Cf] at hi⟩,Below.refl _ _⟩
 ·have b2:(ob==2)=false:=by simpa using h2
  by_cases h5:ob=5
  ·have hst:1≤st∧st≤1000:=by
    rcases h with h|h|h|h|h<;>omega
   have hf:Cf ob st=List.replicate (3*st.toNat) 0:=by unfold Cf;rw[if_neg h2,if_pos h5]
   rw[hf]
   subst h5
   obtain ⟨m,hm⟩:∃ m:Nat,(m:Int)=st:=⟨st.toNat,by omega⟩
   have hmk:=make_nums (3*m) (by omega)
   have h3:(3:Int)*st=((3*m:Nat):Int):=by omega
   have h4:3*st.toNat=3*m:=by omega
   rw[h4]
   have hn:3*m≤3000:=by omega
   generalize 3*m=n at hmk h3 hn ⊢
   clear h hf h2 h4 hm
   go_enter Tryd.func42,Tryd.ntmps42
   go_wp2_with fail
   go_ret
   exact ⟨_,rfl,si_zeros w n (by omega),Ad (Below.refl _ _) _⟩
  ·have b5:(ob==5)=false:=by simpa using h5
   have hf:Cf ob st=[st]:=by unfold Cf;rw[if_neg h2,if_neg h5]
   rw[hf]
   clear h hf h2 h5
   go_enter Tryd.func42,Tryd.ntmps42
   go_wp2
   go_ret
   exact ⟨_,rfl,si_one (World.cell?_alloc_at _ _ _ _ rfl),Ad (Below.refl _ _) _⟩
def StOk (ob st:Int) (k:Nat) (s:List Int):Prop :=
 (ob=1∨ob=3∨ob=4->∃ z,s=[z])∧(ob=2->s.length≤k)∧(ob=5->s.length=3*st.toNat)
theorem ways5_any (n:Int) (h1:1≤n) (h2:n≤1000) (sv:Value) (s:List Int) (hl:s.length=3*n.toNat) (x:Ev) (w:World) (h:SI w sv s) :
 Calls Tryd.prog 69 #[I 5,I n,sv,evV x] w fun e w'=>∃ v,e=.returned v∧WOuts w' v (Bf 5 n s x)∧Below w.heap.size w w':=by
 have HS:Hid (SI w sv s):=h
 obtain ⟨p,cap,rfl,hc,hm,_⟩:=h
 unfold maxLen at hm
 have e1:Bf 5 n s x=Cj n s x:=rfl
 rw[e1]
 have HL:Hid (s.length=3*n.toNat):=hl
 clear e1 hl
 go_enter Tryd.func69,Tryd.ntmps69
 go_wp2_with fail
 refine (onces_any n h1 h2 _ s HL.out x _ (HS.out.later (Ad (Below.refl _ _) _))).mono ?_
 rintro e w2 ⟨v,rfl,hw,hb⟩
 have HW:Hid (WOuts w2 v (Cj n s x)):=hw
 have HB:Hid (Below _ _ w2):=hb
 clear hw hb
 go_wp2_with fail
 go_ret
 exact ⟨_,rfl,HW.out,A0 (Ad (Below.refl _ _) _) HB.out⟩
def WaysC (ob st:Int):Prop:=∀ (k:Nat),k≤1000->∀ (s:List Int),StOk ob st k s->∀ (x:Ev) (sv:Value) (w:World),SI w sv s ->
    Calls Tryd.prog 69 #[I ob,I st,sv,evV x] w fun e w'=>∃ v,e=.returned v∧WOuts w' v (Bf ob st s x)∧Below w.heap.size w w'
theorem waysC_onces (st:Int) (h1:1≤st) (h2:st≤1000):WaysC 5 st:=fun k hk s hs x sv w h=>ways5_any st h1 h2 sv s (hs.2.2 rfl) x w h
theorem stOk_first (ob st:Int):StOk ob st 0 (Cf ob st):=by
 refine ⟨fun ho=>⟨st,?_⟩,fun ho=>?_,fun ho=>?_⟩
 ·unfold Cf;rw[if_neg (by omega),if_neg (by omega)]
 ·unfold Cf;rw[if_pos ho];exact Nat.le_refl _
 ·unfold Cf;rw[if_neg (by omega),if_pos ho];simp
theorem stOk_next {ob st:Int}{k:Nat}{s:List Int}{x:Ev}(h:StOk ob st k s) {o:(Int×Int)×List Int}(ho:o∈Bf ob st s x):StOk ob st (k+1) o.2:=by
 unfold Bf at ho
 split at ho
 ·rename_i h1
  obtain ⟨z,rfl⟩:=h.1 (.inl h1)
  have key:∃ z',o.2=[z']:=by
   split at ho
   ·simp at ho;subst ho;exact ⟨_,rfl⟩
   ·split at ho
    ·simp at ho
     rcases ho with rfl|rfl
     ·exact ⟨_,rfl⟩
     ·exact ⟨_,rfl⟩
    ·simp at ho
  exact ⟨fun _=>key,fun h=>by omega,fun h=>by omega⟩
 ·split at ho
  ·rename_i h2
   have hl:=h.2.1 h2
   refine ⟨fun h=>by omega,fun _=>?_,fun h=>by omega⟩
   unfold wayStack at ho
   split at ho
   ·simp at ho
    rcases ho with rfl|rfl
    ·simp;omega
    ·simp only[];omega
   ·split at ho
    ·split at ho
     ·simp at ho;subst ho;simp only[];omega
     ·simp at ho;subst ho;simp only[List.length_dropLast];omega
    ·simp at ho
  ·split at ho
   ·rename_i h3
    obtain ⟨z,rfl⟩:=h.1 (.inr (.inl h3))
    have key:∃ z',o.2=[z']:=by
     split at ho
     ·simp at ho;subst ho;exact ⟨_,rfl⟩
     ·split at ho
      ·simp at ho;subst ho;exact ⟨_,rfl⟩
      ·simp at ho
    exact ⟨fun _=>key,fun h=>by omega,fun h=>by omega⟩
   ·split at ho
    ·rename_i h4
     obtain ⟨z,rfl⟩:=h.1 (.inr (.inr h4))
     have key:∃ z',o.2=[z']:=by
      split at ho
      ·split at ho
       ·simp at ho;subst ho;exact ⟨_,rfl⟩
       ·simp at ho;subst ho;exact ⟨_,rfl⟩
      ·split at ho
       ·split at ho
        ·simp at ho;subst ho;exact ⟨_,rfl⟩
        ·simp at ho
       ·simp at ho
     exact ⟨fun _=>key,fun h=>by omega,fun h=>by omega⟩
    ·refine ⟨fun h=>by omega,fun h=>by omega,fun h5=>?_⟩
     have hl:=h.2.2 h5
     unfold Cj at ho
     split at ho
     ·simp at ho
     ·split at ho
      ·simp at ho;subst ho;exact hl
      ·simp at ho;subst ho;simp[hl]
theorem rahead_any (x y:Ev) (w:World) :
 Calls Tryd.prog 66 #[evV x,evV y] w fun e w'=>e=.returned (.bool (Bg x y))∧Below w.heap.size w w':=by
 cases ho:(x.fin != -1)
 ·have hr:Bg x y=false:=by show ((x.fin != -1)&&_)=false;rw[ho];rfl
  rw[hr];clear hr
  go_enter Tryd.func66,Tryd.ntmps66
  go_wp2_with fail
  go_ret
  exact ⟨rfl,Ad (Ad (Below.refl _ _) _) _⟩
 ·have hr:Bg x y=decide (x.fin<y.beg):=by show ((x.fin != -1)&&_)=_;rw[ho];rfl
  rw[hr];clear hr
  go_enter Tryd.func66,Tryd.ntmps66
  go_wp2_with fail
  go_ret
  exact ⟨rfl,Ad (Ad (Below.refl _ _) _) _⟩
theorem si_at1 {w:World}{p:Option Addr}{n cap:Nat}{s:List Int}(h:SI w (.slice p n cap) s) (h0:0<s.length):∃ blk off,p=some ⟨blk,off,none⟩∧blk<w.heap.size∧∀ j,j<s.length->w.cell? ⟨blk,off+j,none⟩=some (I (s.getD j 0)):=by
 obtain ⟨p',cap',e,_,_,h3⟩:=h
 cases e
 obtain ⟨blk,off,rfl,hlt,_⟩:=h3 0 _ (List.getElem?_eq_getElem h0)
 refine ⟨blk,off,rfl,hlt,fun j hj=>?_⟩
 obtain ⟨b',o',e,_,hr⟩:=h3 j _ (List.getElem?_eq_getElem hj)
 cases e
 have:=hr 0 _ rfl
 rw[List.getD_eq_getElem?_getD,List.getElem?_eq_getElem hj]
 simpa using this
theorem rsame_any (va vb:Value) (a b:List Int) (w:World) (ha:SI w va a) (hb:SI w vb b) :
 Calls Tryd.prog 67 #[va,vb] w fun e w'=>RetB e (a=b)∧Below w.heap.size w w':=by
 have HA:Hid (SI w va a):=ha
 have HB:Hid (SI w vb b):=hb
 obtain ⟨pa,ca,rfl,ha1,ha2,_⟩:=ha
 obtain ⟨pb,cb,rfl,hb1,hb2,_⟩:=hb
 unfold maxLen at ha2 hb2
 by_cases hl:a.length=b.length
 ·have hl':((a.length:Int) != (b.length:Int))=false:=by simp[hl]
  go_enter Tryd.func67,Tryd.ntmps67
  go_wp2_with fail
  go_loopw [5] (fun i u=>∃ k:Nat,k≤a.length∧i=.int .i64 k∧(∀ j,j<k->a.getD j 0=b.getD j 0)∧Below w.heap.size w u) (fun i _=>a.length - (intOf i).toNat)
  case atStart=>exact ⟨0,Nat.zero_le _,rfl,fun i hi=>absurd hi (Nat.not_lt_zero _),Below.refl _ _⟩
  case round =>
   obtain ⟨k,hk,rfl,hso,hbl⟩:=hrel
   have HS:Hid (∀ j,j<k->a.getD j 0=b.getD j 0):=hso
   have HBL:Hid (Below w.heap.size w wr):=hbl
   by_cases hlt:k<a.length
   ·obtain ⟨ab,ao,rfl,la,hca⟩:=si_at1 HA.out (by omega)
    obtain ⟨bb,bo,rfl,lb,hcb⟩:=si_at1 HB.out (by omega)
    have xa:=kcell' hbl la (hca k hlt)
    have xb:=kcell' hbl lb (hcb k (by omega))
    generalize hxa:a.getD k 0=ya at xa
    generalize hxb:b.getD k 0=yb at xb
    have HXA:Hid (a.getD k 0=ya):=hxa
    have HXB:Hid (b.getD k 0=yb):=hxb
    clear hso hca hcb hxa hxb hbl
    cases he:(ya != yb)
    ·have HE:Hid (ya=yb):=(show ya=yb by simpa using he)
     go_wp2_with fail
     go_quiet (fail)
     go_wp2_with fail
     go_roundw
     case rel=>exact ⟨k+1,by omega,by go_num,C8 HS.out (by rw[HXA.out,HXB.out];exact HE.out),below_drewN HBL.out _⟩
     case measure=>simp[intOf];omega
    ·have HE:Hid (ya≠yb):=(show ya≠yb by simpa using he)
     go_wp2_with fail
     go_quiet (fail)
     go_wp2_with fail
     go_ret
     exact ⟨Dk rfl (fun h=>HE.out (by rw[←HXA.out,←HXB.out,h])),below_drewN HBL.out _⟩
   ·have:k=a.length:=by omega
    subst this
    clear hso hbl
    go_wp2_with fail
    go_ret
    refine ⟨retB_yes rfl (List.ext_getElem hl fun i h1 h2=>?_),HBL.out⟩
    have:=HS.out i h1
    simpa [List.getD_eq_getElem?_getD,List.getElem?_eq_getElem h1,List.getElem?_eq_getElem h2] using this
 ·have hl':((a.length:Int) != (b.length:Int))=true:=by simp;omega
  go_enter Tryd.func67,Tryd.ntmps67
  go_wp2_with fail
  go_ret
  exact ⟨Dk rfl (fun h=>hl (by rw[h])),Below.refl _ _⟩
theorem keep16 {u u':World}{a1 a2 a3 a4 a5 a6 a7 a8 a9 a10 a11 a12 a13 a14 a15 a16:Addr}{v1 v2 v3 v4 v5 v6 v7 v8 v9 v10 v11 v12 v13 v14 v15 v16:Value}(h:u.cell? a1=some v1∧u.cell? a2=some v2∧u.cell? a3=some v3∧u.cell? a4=some v4∧u.cell? a5=some v5∧u.cell? a6=some v6∧u.cell? a7=some v7∧u.cell? a8=some v8∧u.cell? a9=some v9∧u.cell? a10=some v10∧u.cell? a11=some v11∧u.cell? a12=some v12∧u.cell? a13=some v13∧u.cell? a14=some v14∧u.cell? a15=some v15∧u.cell? a16=some v16) (hb:Below u.heap.size u u'):u'.cell? a1=some v1∧u'.cell? a2=some v2∧u'.cell? a3=some v3∧u'.cell? a4=some v4∧u'.cell? a5=some v5∧u'.cell? a6=some v6∧u'.cell? a7=some v7∧u'.cell? a8=some v8∧u'.cell? a9=some v9∧u'.cell? a10=some v10∧u'.cell? a11=some v11∧u'.cell? a12=some v12∧u'.cell? a13=some v13∧u'.cell? a14=some v14∧u'.cell? a15=some v15∧u'.cell? a16=some v16:=by
 obtain ⟨h1,h2,h3,h4,h5,h6,h7,h8,h9,h10,h11,h12,h13,h14,h15,h16⟩:=h
 exact ⟨Bb hb h1,Bb hb h2,Bb hb h3,Bb hb h4,Bb hb h5,Bb hb h6,Bb hb h7,Bb hb h8,Bb hb h9,Bb hb h10,Bb hb h11,Bb hb h12,Bb hb h13,Bb hb h14,Bb hb h15,Bb hb h16⟩
theorem keep17 {u u':World}{a1 a2 a3 a4 a5 a6 a7 a8 a9 a10 a11 a12 a13 a14 a15 a16 a17:Addr}{v1 v2 v3 v4 v5 v6 v7 v8 v9 v10 v11 v12 v13 v14 v15 v16 v17:Value}(h:u.cell? a1=some v1∧u.cell? a2=some v2∧u.cell? a3=some v3∧u.cell? a4=some v4∧u.cell? a5=some v5∧u.cell? a6=some v6∧u.cell? a7=some v7∧u.cell? a8=some v8∧u.cell? a9=some v9∧u.cell? a10=some v10∧u.cell? a11=some v11∧u.cell? a12=some v12∧u.cell? a13=some v13∧u.cell? a14=some v14∧u.cell? a15=some v15∧u.cell? a16=some v16∧u.cell? a17=some v17) (hb:Below u.heap.size u u'):u'.cell? a1=some v1∧u'.cell? a2=some v2∧u'.cell? a3=some v3∧u'.cell? a4=some v4∧u'.cell? a5=some v5∧u'.cell? a6=some v6∧u'.cell? a7=some v7∧u'.cell? a8=some v8∧u'.cell? a9=some v9∧u'.cell? a10=some v10∧u'.cell? a11=some v11∧u'.cell? a12=some v12∧u'.cell? a13=some v13∧u'.cell? a14=some v14∧u'.cell? a15=some v15∧u'.cell? a16=some v16∧u'.cell? a17=some v17:=by
 obtain ⟨h1,h2,h3,h4,h5,h6,h7,h8,h9,h10,h11,h12,h13,h14,h15,h16,h17⟩:=h
 exact ⟨Bb hb h1,Bb hb h2,Bb hb h3,Bb hb h4,Bb hb h5,Bb hb h6,Bb hb h7,Bb hb h8,Bb hb h9,Bb hb h10,Bb hb h11,Bb hb h12,Bb hb h13,Bb hb h14,Bb hb h15,Bb hb h16,Bb hb h17⟩
theorem Fj {w:World}{b o:Nat}{x:Ev}(h:w.rangeAt b o (evC x).toList):w.cell? ⟨b,o,none⟩=some (I x.thr)∧w.cell? ⟨b,o+1,none⟩=some (I x.op)∧w.cell? ⟨b,o+2,none⟩=some (I x.a)∧w.cell? ⟨b,o+3,none⟩=some (I x.b)∧w.cell? ⟨b,o+4,none⟩=some (I x.beg)∧w.cell? ⟨b,o+5,none⟩=some (I x.fin)∧w.cell? ⟨b,o+6,none⟩=some (I x.code)∧w.cell? ⟨b,o+7,none⟩=some (I x.val) :=
 ⟨h 0 _ rfl,h 1 _ rfl,h 2 _ rfl,h 3 _ rfl,h 4 _ rfl,h 5 _ rfl,h 6 _ rfl,h 7 _ rfl⟩
theorem rhistory_any (v:Value) (l:List Ev) (w:World) (h:Evs w v l) :
 Calls Tryd.prog 40 #[v] w fun e w'=>RetB e (Hist l)∧Below w.heap.size w w':=by
 obtain ⟨p,cap,rfl,hc,hm,hE⟩:=h
 unfold maxLen at hm
 go_enter Tryd.func40,Tryd.ntmps40
 go_wp2_with fail
 go_loopw [3] (fun i u=>∃ k:Nat,k≤l.length∧i=.int .i64 k∧(∀ i,i<k->Timed (l.getD i ev0)∧∀ j,j<i->Two (l.getD i ev0) (l.getD j ev0))∧Below w.heap.size w u) (fun i _=>l.length - (intOf i).toNat)
 case atStart=>exact ⟨0,Nat.zero_le _,rfl,fun i hi=>absurd hi (Nat.not_lt_zero _),Below.refl _ _⟩
 case round =>
  obtain ⟨k,hk,rfl,hso,hb⟩:=hrel
  obtain ⟨wo,hwo⟩:∃ wo,wo=wr:=⟨wr,rfl⟩
  subst hwo
  have HB:Hid (Below w.heap.size w wo):=hb
  by_cases hlt:k<l.length
  ·obtain ⟨blk,off,rfl,hr⟩:=hE k hlt
   have HBL:Hid (blk<w.heap.size):=range_lt hr
   have hE':∀ i,i<l.length->w.rangeAt blk (off+i*8) (evC (l.getD i ev0)).toList:=fun i hi=>by
    obtain ⟨b',o',e,h⟩:=hE i hi
    cases e
    exact h
   have HE:Hid (∀ i,i<l.length->w.rangeAt blk (off+i*8) (evC (l.getD i ev0)).toList):=hE'
   have HSO:Hid (∀ i,i<k->Timed (l.getD i ev0)∧∀ j,j<i->Two (l.getD i ev0) (l.getD j ev0)):=hso
   generalize hx:l.getD k ev0=x at hr
   have HX:Hid (l.getD k ev0=x):=hx
   have HRX:Hid (w.rangeAt blk (off+k*8) (evC x).toList):=hr
   obtain ⟨i4,i5⟩:=beg_fin (Bd hb hr (range_lt hr))
   clear hb hso hE hE' hx hr
   by_cases ho:Timed x
   ·have HO:Hid (Timed x):=ho
    have hcs:(decide (x.beg<0)=false∧(x.fin != -1)=false)∨(decide (x.beg<0)=false∧(x.fin != -1)=true∧decide (x.fin≤x.beg)=false):=by
     obtain ⟨o1,o2⟩:=ho
     by_cases e:x.fin=-1
     ·left;exact ⟨by simp;omega,by rw[e];rfl⟩
     ·right;exact ⟨by simp;omega,by simpa using e,by simp;omega⟩
    clear ho
    rcases hcs with ⟨b1,b2⟩|⟨b1,b2,b3⟩
    all_goals
     go_wp2_with fail
     go_quiet (fail)
     refine (show ∀ W,Below wo.heap.size wo W->Exit.then _ _ Exit.normal _ W from fun W hW=>?_) _ (below_drewN (Below.refl _ _) _)
     have HBW0:Hid (Below w.heap.size w W):=A0 HB.out hW
     clear hW i4 i5
     go_wp2_with fail
     go_loopw [4] (fun i u=>∃ j:Nat,j≤k∧i=.int .i64 j∧(∀ i,i<j->Two x (l.getD i ev0))∧Below w.heap.size w u) (fun i _=>k - (intOf i).toNat)
     case atStart=>exact ⟨0,Nat.zero_le _,rfl,fun i hi=>absurd hi (Nat.not_lt_zero _),HBW0.out⟩
     case round =>
      obtain ⟨j,hj,rfl,hso2,hb2⟩:=hrel
      by_cases hjk:j<k
      ·skip
       obtain ⟨c0,c1,c2,c3,c4,c5,c6,c7⟩:=Fj (Bd hb2 HRX.out HBL.out)
       have hry:=Bd hb2 (HE.out j (by omega)) HBL.out
       generalize hy:l.getD j ev0=y at hry
       have HY:Hid (l.getD j ev0=y):=hy
       have HRY:Hid (wr.rangeAt blk (off+j*8) (evC y).toList):=hry
       obtain ⟨d0,d1,d2,d3,d4,d5,d6,d7⟩:=Fj hry
       have HB2:Hid (Below w.heap.size w wr):=hb2
       have HX2:Hid (∀ i,i<j->Two x (l.getD i ev0)):=hso2
       have HSZ:Hid (w.heap.size≤wr.heap.size):=hb2.size
       have hblr:blk<wr.heap.size:=by have:=hb2.size;have:=HBL.out;omega
       have hjl:(j:Int)<(l.length:Int):=by omega
       have hjl2:j<l.length:=by omega
       clear hso2 hy hb2 hry
       go_wp2_with fail
       go_region_held3 (fun u=>u.cell? ⟨blk,off+k*8,none⟩=some (I x.thr)∧u.cell? ⟨blk,off+k*8+1,none⟩=some (I x.op)∧u.cell? ⟨blk,off+k*8+2,none⟩=some (I x.a)∧u.cell? ⟨blk,off+k*8+3,none⟩=some (I x.b)∧u.cell? ⟨blk,off+k*8+4,none⟩=some (I x.beg)∧u.cell? ⟨blk,off+k*8+5,none⟩=some (I x.fin)∧u.cell? ⟨blk,off+k*8+6,none⟩=some (I x.code)∧u.cell? ⟨blk,off+k*8+7,none⟩=some (I x.val)∧u.cell? ⟨blk,off+j*8,none⟩=some (I y.thr)∧u.cell? ⟨blk,off+j*8+1,none⟩=some (I y.op)∧u.cell? ⟨blk,off+j*8+2,none⟩=some (I y.a)∧u.cell? ⟨blk,off+j*8+3,none⟩=some (I y.b)∧u.cell? ⟨blk,off+j*8+4,none⟩=some (I y.beg)∧u.cell? ⟨blk,off+j*8+5,none⟩=some (I y.fin)∧u.cell? ⟨blk,off+j*8+6,none⟩=some (I y.code)∧u.cell? ⟨blk,off+j*8+7,none⟩=some (I y.val))
        (first|(exact keep16 ‹_› ‹Below _ _ _›)|(exact keep16 ‹_› (Ad (Below.refl _ _) _))|(simp[go_sem, *];done))
        ((go_at_call 66;refine (rahead_any x y _).mono ?_;rintro e w3 ⟨rfl,hb3⟩))
       rename_i hH
       clear hH
       refine (show ∀ W,Below wr.heap.size wr W->Exit.then _ _ Exit.normal _ W from fun W hW=>?_) _ (A0 (below_drewN (Below.refl _ _) _) hb3)
       have HBW:Hid (Below wr.heap.size wr W):=hW
       have hWs:wr.heap.size≤W.heap.size:=hW.size
       have hrx3:=Bd hW (Bd HB2.out HRX.out HBL.out) hblr
       have hry3:=Bd hW HRY.out hblr
       clear hb3 hW c0 c1 c2 c3 c4 c5 c6 c7 d0 d1 d2 d3 d4 d5 d6 d7
       obtain ⟨c0,c1,c2,c3,c4,c5,c6,c7⟩:=Fj hrx3
       obtain ⟨d0,d1,d2,d3,d4,d5,d6,d7⟩:=Fj hry3
       clear hrx3 hry3
       go_wp2_with fail
       go_region_held3 (fun u=>u.cell? ⟨blk,off+k*8,none⟩=some (I x.thr)∧u.cell? ⟨blk,off+k*8+1,none⟩=some (I x.op)∧u.cell? ⟨blk,off+k*8+2,none⟩=some (I x.a)∧u.cell? ⟨blk,off+k*8+3,none⟩=some (I x.b)∧u.cell? ⟨blk,off+k*8+4,none⟩=some (I x.beg)∧u.cell? ⟨blk,off+k*8+5,none⟩=some (I x.fin)∧u.cell? ⟨blk,off+k*8+6,none⟩=some (I x.code)∧u.cell? ⟨blk,off+k*8+7,none⟩=some (I x.val)∧u.cell? ⟨blk,off+j*8,none⟩=some (I y.thr)∧u.cell? ⟨blk,off+j*8+1,none⟩=some (I y.op)∧u.cell? ⟨blk,off+j*8+2,none⟩=some (I y.a)∧u.cell? ⟨blk,off+j*8+3,none⟩=some (I y.b)∧u.cell? ⟨blk,off+j*8+4,none⟩=some (I y.beg)∧u.cell? ⟨blk,off+j*8+5,none⟩=some (I y.fin)∧u.cell? ⟨blk,off+j*8+6,none⟩=some (I y.code)∧u.cell? ⟨blk,off+j*8+7,none⟩=some (I y.val))
        (first|(exact keep16 ‹_› ‹Below _ _ _›)|(exact keep16 ‹_› (Ad (Below.refl _ _) _))|(simp[go_sem, *];done))
        ((go_at_call 66;refine (rahead_any y x _).mono ?_;rintro e w4 ⟨rfl,hb4⟩))
       rename_i hH
       clear hH
       refine (show ∀ W',Below wr.heap.size wr W'->Exit.then _ _ Exit.normal _ W' from fun W' hW'=>?_) _ (A0 HBW.out (A0 (below_drewN (Below.refl _ _) _) hb4))
       have HBW':Hid (Below wr.heap.size wr W'):=hW'
       have hWs':wr.heap.size≤W'.heap.size:=hW'.size
       have hrx3:=Bd hW' (Bd HB2.out HRX.out HBL.out) hblr
       have hry3:=Bd hW' HRY.out hblr
       clear hb4 hW' c0 c1 c2 c3 c4 c5 c6 c7 d0 d1 d2 d3 d4 d5 d6 d7
       obtain ⟨c0,c1,c2,c3,c4,c5,c6,c7⟩:=Fj hrx3
       obtain ⟨d0,d1,d2,d3,d4,d5,d6,d7⟩:=Fj hry3
       clear hrx3 hry3
       have hcase:(x.thr==y.thr)=false∨((x.thr==y.thr)=true∧Bg x y=true)∨((x.thr==y.thr)=true∧Bg x y=false∧Bg y x=true)∨((x.thr==y.thr)=true∧Bg x y=false∧Bg y x=false):=by
        cases (x.thr==y.thr)<;>cases Bg x y<;>cases Bg y x<;>simp
       generalize hg1:Bg x y=e1 at hcase
       generalize hg2:Bg y x=e2 at hcase
       have HG1:Hid (Bg x y=e1):=hg1
       have HG2:Hid (Bg y x=e2):=hg2
       clear hg1 hg2
       rcases hcase with ht|⟨ht,rfl⟩|⟨ht,rfl,rfl⟩|⟨ht,rfl,rfl⟩
       ·have HT:Hid (¬ x.thr=y.thr):=(show ¬ x.thr=y.thr by simpa using ht)
        go_wp2_with fail
        go_quiet (fail)
        go_wp2_with fail
        go_roundw
        case rel=>exact ⟨j+1,by omega,by go_num,C8 HX2.out (by rw[HY.out];exact fun h=>absurd h HT.out),A0 HB2.out (below_drewN HBW'.out _)⟩
        case measure=>simp[intOf];omega
       ·go_wp2_with fail
        go_quiet (fail)
        go_wp2_with fail
        go_roundw
        case rel=>exact ⟨j+1,by omega,by go_num,C8 HX2.out (by rw[HY.out];exact fun _=>.inl HG1.out),A0 HB2.out (below_drewN HBW'.out _)⟩
        case measure=>simp[intOf];omega
       ·go_wp2_with fail
        go_quiet (fail)
        go_wp2_with fail
        go_roundw
        case rel=>exact ⟨j+1,by omega,by go_num,C8 HX2.out (by rw[HY.out];exact fun _=>.inr HG2.out),A0 HB2.out (below_drewN HBW'.out _)⟩
        case measure=>simp[intOf];omega
       ·have HT:Hid (x.thr=y.thr):=(show x.thr=y.thr by simpa using ht)
        go_wp2_with fail
        go_quiet (fail)
        go_wp2_with fail
        go_ret
        exact ⟨Dk rfl (hist_not2 hlt hjk HX.out HY.out HT.out HG1.out HG2.out),A0 HB2.out (below_drewN HBW'.out _)⟩
      ·have:j=k:=by omega
       subst this
       have HX2:Hid (∀ i,i<j->Two x (l.getD i ev0)):=hso2
       have HB2:Hid (Below w.heap.size w wr):=hb2
       clear hso2 hb2
       go_wp2_with fail
       go_roundw
       case rel =>
        exact ⟨j+1,by omega,by go_num,C8 HSO.out (by rw[HX.out];exact ⟨HO.out,HX2.out⟩),HB2.out⟩
       case measure=>simp[intOf];omega
   ·have HO:Hid (¬ Timed x):=ho
    have hcs:decide (x.beg<0)=true∨(decide (x.beg<0)=false∧(x.fin != -1)=true∧decide (x.fin≤x.beg)=true):=by
     have:x.beg<0∨(0≤x.beg∧x.fin≠-1∧x.fin≤x.beg):=by unfold Timed at ho;omega
     rcases this with h|⟨h1,h2,h3⟩
     ·exact .inl (by simpa using h)
     ·exact .inr ⟨by simp;omega,by simpa using h2,by simpa using h3⟩
    clear ho
    rcases hcs with b1|⟨b1,b2,b3⟩
    all_goals
     go_wp2_with fail
     go_quiet (fail)
     go_wp2_with fail
     go_ret
     exact ⟨Dk rfl (hist_not hlt HX.out HO.out),below_drewN HB.out _⟩
  ·have:k=l.length:=by omega
   subst this
   go_wp2_with fail
   go_ret
   exact ⟨retB_yes rfl hso,hb⟩
theorem and_one (y:Nat) (hy:y<2 ^ 62):bits .and .i64 (y:Int) 1=((y % 2:Nat):Int):=by
 have h1:(1:Int)=((1:Nat):Int):=rfl
 show IntKind.i64.wrap ((BitVec.ofInt 64 (y:Int) &&& BitVec.ofInt 64 1).toNat:Int)=_
 rw[h1,BitVec.toNat_and,of_nat64 (Nat.lt_of_lt_of_le hy (by decide)),of_nat64 (by decide),Nat.and_one_is_mod,IntKind.wrap_i64]
 omega
theorem shr_bit (T i:Nat) (hT:T<4096):bits .and .i64 ((T:Int) / 2 ^ i) 1=if T.testBit i=true then 1 else 0:=by
 have e:(T:Int) / 2 ^ i=((T / 2 ^ i:Nat):Int):=by push_cast;rfl
 have hl:T / 2 ^ i<2 ^ 62:=Nat.lt_of_le_of_lt (Nat.div_le_self _ _) (Nat.lt_of_lt_of_le hT (by decide))
 rw[e,and_one _ hl,Nat.testBit_eq_decide_div_mod_eq]
 by_cases h:T / 2 ^ i % 2=1
 ·rw[h];simp
 ·have:T / 2 ^ i % 2=0:=by omega
  rw[this];simp
theorem shr_yes {T i:Nat}(hT:T<4096) (h:T.testBit i=true):bits .and .i64 ((T:Int) / 2 ^ i) 1=1:=by rw[shr_bit T i hT,if_pos h]
theorem shr_no {T i:Nat}(hT:T<4096) (h:T.testBit i=false):bits .and .i64 ((T:Int) / 2 ^ i) 1=0:=by rw[shr_bit T i hT,if_neg (by rw[h];decide)]
def May (l:List Ev) (T i:Nat):Prop:=T.testBit i=false∧∀ k,k<l.length->Bg (l.getD k ev0) (l.getD i ev0)=true->T.testBit k=true
theorem may_any (B T i:Nat) (lv:Value) (l:List Ev) (w:World) (hT:T<4096) (h12:l.length≤12) (hi:i<l.length) (h2:w.cell? ⟨B,2,none⟩=some lv) (h:Evs w lv l) :
 Calls Tryd.prog 68 #[.pointer (some ⟨B,0,none⟩),I T,I i] w fun e w'=>RetB e (May l T i)∧Below w.heap.size w w':=by
 obtain ⟨p,cap,rfl,hc,hm,hE⟩:=h
 unfold maxLen at hm
 by_cases hb:T.testBit i=true
 ·have hbit:=shr_yes hT hb
  go_enter Tryd.func68,Tryd.ntmps68
  go_wp2_with fail
  go_ret
  exact ⟨Dk rfl (fun h=>by have:=h.1;rw[hb] at this;cases this),Below.refl _ _⟩
 ·have hb':T.testBit i=false:=Bool.eq_false_iff.2 hb
  have HBI:Hid (T.testBit i=false):=hb'
  have hbit:=shr_no hT hb'
  obtain ⟨blk,off,rfl,hrx⟩:=hE i hi
  have HBL:Hid (blk<w.heap.size):=range_lt hrx
  have hE':∀ i,i<l.length->w.rangeAt blk (off+i*8) (evC (l.getD i ev0)).toList:=fun i hi=>by
   obtain ⟨b',o',e,h⟩:=hE i hi
   cases e
   exact h
  have HE:Hid (∀ i,i<l.length->w.rangeAt blk (off+i*8) (evC (l.getD i ev0)).toList):=hE'
  generalize hx:l.getD i ev0=x at hrx
  have HX:Hid (l.getD i ev0=x):=hx
  have HRX:Hid (w.rangeAt blk (off+i*8) (evC x).toList):=hrx
  have H2:Hid (w.cell? ⟨B,2,none⟩=some (.slice (some ⟨blk,off,none⟩) l.length cap)):=h2
  have hBl:B<w.heap.size:=World.block_lt_of_cell? _ _ h2
  clear hE hE' hx hrx hb hb'
  go_enter Tryd.func68,Tryd.ntmps68
  go_wp2_with fail
  clear hbit
  go_loopw [7] (fun i u=>∃ k:Nat,k≤l.length∧i=.int .i64 k∧(∀ j,j<k->Bg (l.getD j ev0) x=true->T.testBit j=true)∧Below w.heap.size w u) (fun i _=>l.length - (intOf i).toNat)
  case atStart=>exact ⟨0,Nat.zero_le _,rfl,fun i hi=>absurd hi (Nat.not_lt_zero _),Below.refl _ _⟩
  case round =>
   obtain ⟨k,hk,rfl,hso,hb2⟩:=hrel
   have HSO:Hid (∀ j,j<k->Bg (l.getD j ev0) x=true->T.testBit j=true):=hso
   have HB2:Hid (Below w.heap.size w wr):=hb2
   have hbc:=kcell' hb2 hBl h2
   have hszr:w.heap.size≤wr.heap.size:=hb2.size
   clear h2
   by_cases hlt:k<l.length
   ·obtain ⟨c0,c1,c2,c3,c4,c5,c6,c7⟩:=Fj (Bd hb2 HRX.out HBL.out)
    have hry:=Bd hb2 (HE.out k hlt) HBL.out
    generalize hy:l.getD k ev0=y at hry
    have HY:Hid (l.getD k ev0=y):=hy
    obtain ⟨d0,d1,d2,d3,d4,d5,d6,d7⟩:=Fj hry
    clear hso hb2 hy hry
    go_wp2_with fail
    go_region_held3 (fun u=>u.cell? ⟨B,2,none⟩=some (.slice (some ⟨blk,off,none⟩) l.length cap)∧u.cell? ⟨blk,off+k*8,none⟩=some (I y.thr)∧u.cell? ⟨blk,off+k*8+1,none⟩=some (I y.op)∧u.cell? ⟨blk,off+k*8+2,none⟩=some (I y.a)∧u.cell? ⟨blk,off+k*8+3,none⟩=some (I y.b)∧u.cell? ⟨blk,off+k*8+4,none⟩=some (I y.beg)∧u.cell? ⟨blk,off+k*8+5,none⟩=some (I y.fin)∧u.cell? ⟨blk,off+k*8+6,none⟩=some (I y.code)∧u.cell? ⟨blk,off+k*8+7,none⟩=some (I y.val)∧u.cell? ⟨blk,off+i*8,none⟩=some (I x.thr)∧u.cell? ⟨blk,off+i*8+1,none⟩=some (I x.op)∧u.cell? ⟨blk,off+i*8+2,none⟩=some (I x.a)∧u.cell? ⟨blk,off+i*8+3,none⟩=some (I x.b)∧u.cell? ⟨blk,off+i*8+4,none⟩=some (I x.beg)∧u.cell? ⟨blk,off+i*8+5,none⟩=some (I x.fin)∧u.cell? ⟨blk,off+i*8+6,none⟩=some (I x.code)∧u.cell? ⟨blk,off+i*8+7,none⟩=some (I x.val))
     (first|(exact keep17 ‹_› ‹Below _ _ _›)|(exact keep17 ‹_› (Ad (Below.refl _ _) _))|(simp[go_sem, *];done))
     ((go_at_call 66;refine (rahead_any y x _).mono ?_;rintro e w3 ⟨rfl,hb3⟩))
    rename_i hH
    clear hH
    refine (show ∀ W,Below wr.heap.size wr W->Exit.then _ _ Exit.normal _ W from fun W hW=>?_) _ (A0 (below_drewN (Below.refl _ _) _) hb3)
    have HBW:Hid (Below w.heap.size w W):=A0 HB2.out hW
    clear hb3 hW hbc c0 c1 c2 c3 c4 c5 c6 c7 d0 d1 d2 d3 d4 d5 d6 d7
    cases hg:Bg y x
    ·have HG:Hid (Bg y x=false):=hg
     clear hg
     go_wp2_with fail
     go_roundw
     case rel=>exact ⟨k+1,by omega,by go_num,C8 HSO.out (by rw[HY.out,HG.out];exact fun h=>nomatch h),HBW.out⟩
     case measure=>simp[intOf];omega
    ·have HG:Hid (Bg y x=true):=hg
     clear hg
     by_cases hbk:T.testBit k=true
     ·have hbit:=shr_yes hT hbk
      have HBK:Hid (T.testBit k=true):=hbk
      clear hbk
      go_wp2_with fail
      go_roundw
      case rel=>exact ⟨k+1,by omega,by go_num,C8 HSO.out (fun _=>HBK.out),HBW.out⟩
      case measure=>simp[intOf];omega
     ·have hbit:=shr_no hT (Bool.eq_false_iff.2 hbk)
      have HBK:Hid (¬ T.testBit k=true):=hbk
      clear hbk
      go_wp2_with fail
      go_ret
      exact ⟨Dk rfl (fun h=>HBK.out (h.2 k hlt (by rw[HY.out,HX.out];exact HG.out))),HBW.out⟩
   ·have:k=l.length:=by omega
    subst this
    clear hso hb2
    go_wp2_with fail
    go_ret
    exact ⟨retB_yes rfl ⟨HBI.out,by rw[HX.out];exact HSO.out⟩,HB2.out⟩
end Go.Proofs.YtaofjdoielmobaaDoor.R3
