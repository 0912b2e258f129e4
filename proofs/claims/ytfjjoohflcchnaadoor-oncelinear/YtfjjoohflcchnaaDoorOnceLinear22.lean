/- OnceLinear, part 22 of 26: R3With, R3Ways, R3Ways2, R3Ways3. -/
import Derived.Test.YtfjjoohflcchnaaDoorOnceLinear01
import Derived.Test.YtfjjoohflcchnaaDoorOnceLinear18
import Derived.Deep.RegionWith
set_option linter.unusedSimpArgs false
set_option linter.unusedVariables false
set_option maxHeartbeats 4000000
set_option maxRecDepth 100000
noncomputable section
namespace Go.Proofs.YtfjjoohflcchnaaDoor.R3
open Go.RowKit Go.Proofs.YtfjjoohflcchnaaDoor.His Go.Deep Go.Maps
variable {w:World} {base n:Nat} {s:List Int}
abbrev SI (w:World) (v:Value) (s:List Int):Prop:=SL 1 encI w v s
theorem info3:(Tryd.prog.info? 3).map (λi=>(i.zero,i.size,i.bytes))=some (some (I 0),1,8):=by kernel_rfl
theorem own_si {v:Value}(h:w.ownsRow base 3 1 v s.length (s.map I)):SI w v s:=by
 rcases h.2 with ⟨rfl,h0⟩|⟨g,cap,cur,rfl,hb,hh,h1,h2,h3,h4⟩
 .have:s=[]:=List.length_eq_zero_iff.1 h0
  subst this;exact ⟨none,0,rfl,Qi _,Nat.zero_le _,λi a hi=>by simp at hi⟩
 .refine ⟨_,cap,rfl,h1,h2,λi a hi=>⟨g,0,rfl,(Qb hh).1,λj u hj=>?_⟩⟩
  have hi':=(Qc hi).1;have hj0:j=0:=by have:=(Qc hj).1;simp[encI] at this;omega
  subst hj0;simp[encI] at hj;subst hj;have hf:(s.map I)[i]? = some (I a):=by rw[List.getElem?_map,hi];rfl
  rw[<-h4,List.getElem?_take_of_lt (by omega)] at hf;simp only[World.cell?,hh,Nat.zero_add,Nat.add_zero,Nat.mul_one];simpa using hf
theorem si_cells {ad:Addr}{cap:Nat}(h:SI w (.slice (some ad) s.length cap) s):∀ j u,(s.map I)[j]? = some u->w.cell? (ad.add j)=some u:=by
 obtain ⟨p,cap',e,_,_,h3⟩:=h;cases e;intro j u hj;rw[List.getElem?_map] at hj;cases hi:s[j]? with
 |none=>rw[hi] at hj;cases hj
 |some a =>rw[hi] at hj;cases hj;obtain ⟨blk,off,e2,_,hr⟩:=h3 j a hi;cases e2;have:=hr 0 (I a) rfl;rw[Addr.add_mid];simpa using this
theorem one_ints (s:List Int):∀ u∈s.map I,u.oneCell'=true:=by intro u hu;obtain ⟨a,_,rfl⟩:=List.mem_map.1 hu;rfl
theorem news1 (w:World) (v:Int) (t:TypeId) (hn:n=w.heap.size):∀ j u,[I v][j]? = some u->(w.alloc (.cells #[I v] t)).cell? ((⟨n,0,none⟩:Addr).add j)=some u:=by subst hn;intro j u hj;rw[Addr.add_mid];exact range_new w #[I v] t 0 [I v] rfl rfl j u hj
def WOuts (w:World) (v:Value) (os:List ((Int×Int)×List Int)):Prop :=
 ∃ p,v=.slice p os.length os.length∧∀ i o,os[i]? = some o->∃ blk sv,p=some ⟨blk,0,none⟩∧w.rangeAt blk (i*3) [I o.1.1,I o.1.2,sv]∧SI w sv o.2
theorem wouts_nil (w:World):WOuts w (.slice none 0 0) []:=⟨none,rfl,λi o h=>by simp at h⟩
theorem wouts_one {blk:Nat}{o:(Int×Int)×List Int}{sv:Value}(h:w.rangeAt blk 0 [I o.1.1,I o.1.2,sv]) (hs:SI w sv o.2):WOuts w (.slice (some ⟨blk,0,none⟩) 1 1) [o]:=⟨_,rfl,λi o' hi=>by
 cases i with
 |zero=>simp at hi;subst hi;exact ⟨blk,sv,rfl,by simpa using h,hs⟩
 |succ i=>simp at hi⟩
theorem keep4 {u u':World}{a1 a2 a3 a4:Addr}{v1 v2 v3 v4:Value}(h:u.cell? a1=some v1∧u.cell? a2=some v2∧u.cell? a3=some v3∧u.cell? a4=some v4) (hb:Below u.heap.size u u'):u'.cell? a1=some v1∧u'.cell? a2=some v2∧u'.cell? a3=some v3∧u'.cell? a4=some v4 :=
 ⟨kcell hb h.1,kcell hb h.2.1,kcell hb h.2.2.1,kcell hb h.2.2.2⟩
theorem act_range {x:Ev}(h:1<=x.op∧x.op<=4):∃ g,actOf x=some g:=by
 unfold actOf;by_cases h1:x.op=1;exact ⟨_,if_pos h1⟩
 .rw[if_neg h1]
  by_cases h2:x.op=2;exact ⟨_,if_pos h2⟩
  .rw[if_neg h2]
   by_cases h3:x.op=3;exact ⟨_,if_pos h3⟩
   .rw[if_neg h3]
    exact ⟨_,if_pos (by omega)⟩
theorem act_not {x:Ev}(h:¬ (1<=x.op∧x.op<=4)):actOf x=none:=by unfold actOf;rw[if_neg (by omega),if_neg (by omega),if_neg (by omega),if_neg (by omega)]
theorem keep2 {u u':World}{a1 a2:Addr}{v1 v2:Value}(h:u.cell? a1=some v1∧u.cell? a2=some v2) (hb:Below u.heap.size u u'):u'.cell? a1=some v1∧u'.cell? a2=some v2:=⟨kcell hb h.1,kcell hb h.2⟩
theorem Aj {g cap:Nat}{xs:List Value}(h:w.ownsRow base 3 1 (.slice (some ⟨g,0,none⟩) n cap) n xs) {j:Nat}(hj:j<n):(∃ v,w.cell? ⟨g,j,none⟩=some v)∧w.frozen? ⟨g,j,none⟩=false:=by
 rcases h.2 with ⟨h0,_⟩|⟨g',cap',cur,hv,hb,hh,h1,h2,h3,h4⟩
 cases h0
 .cases hv
  exact cellA hh (by omega)
theorem own_three {g cap K:Nat}{c v:Int}(h:w.ownsRow base 3 1 (.slice (some ⟨g,0,none⟩) n cap) n (s.map I)) (hn:s.length=n) (hK:K+2<n):
 SI (((w.setCell ⟨g,K,none⟩ (I 1)).setCell ⟨g,K+1,none⟩ (I c)).setCell ⟨g,K+2,none⟩ (I v)) (.slice (some ⟨g,0,none⟩) n cap) (((s.set K 1).set (K+1) c).set (K+2) v):=by
 have h1:=own_set h K (by omega) (I 1);have h2:=own_set h1 (K+1) (by omega) (I c);have h3:=own_set h2 (K+2) (by omega) (I v);rw[<-List.map_set,<-List.map_set,<-List.map_set] at h3;have hl:(((s.set K 1).set (K+1) c).set (K+2) v).length=n:=by simp[hn]
 rw[<-hl] at h3 ⊢;exact own_si h3
theorem after_copy {W0 w7:World}{g1 cap:Nat}{xs:List Value}{c v:Value}{t:TypeId}{w0:World}(hW:W0=w0.alloc (.cells #[c,v] t)) (hown:w7.ownsRow W0.heap.size 3 1 (.slice (some ⟨g1,0,none⟩) n cap) n xs) (hg:W0.grownBy w7 (Value.slice none 0 0).ownBlock) (hat:(Value.slice none 0 0).ownBlock=some g1∨g1=W0.heap.size):
 g1=W0.heap.size∧w7.cell? ⟨w0.heap.size,0,none⟩=some c∧w7.cell? ⟨w0.heap.size,1,none⟩=some v∧Below W0.heap.size W0 w7:=by
 have hb:Below W0.heap.size W0 w7:=(Below.refl _ _).grown hg (Qi _) (λg hg=>by cases hg);refine ⟨?_,?_,?_,hb⟩
 .rcases hat with h|h
  cases h;exact h
 subst hW;exact kcell' hb (by simp) (World.cell?_alloc_at _ _ _ _ rfl);subst hW;exact kcell' hb (by simp) (World.cell?_alloc_at _ _ _ _ rfl)
theorem si_at {p:Option Addr}{cap:Nat}(h:SI w (.slice p n cap) s) (h0:0<s.length):∃ blk off,p=some ⟨blk,off,none⟩∧blk<w.heap.size∧∀ j,j<s.length->w.cell? ⟨blk,off+j,none⟩=some (I (s.getD j 0)):=by obtain ⟨p',cap',e,_,_,h3⟩:=h;cases e;obtain ⟨blk,off,rfl,hlt,_⟩:=h3 0 _ (Qf h0);refine ⟨blk,off,rfl,hlt,λj hj=>?_⟩;obtain ⟨b',o',e,_,hr⟩:=h3 j _ (Qf hj);cases e;have:=hr 0 _ rfl;rw[Ql,Qf hj];simpa using this
theorem onces_any (n:Int) (h1:1<=n) (h2:n<=1000) (sv:Value) (s:List Int) (hl:s.length=3*n.toNat) (x:Ev) (w:World) (h:SI w sv s):
 Calls Tryd.prog 135 #[I n,sv,evV x] w λe w'=>∃ v,e=.returned v∧WOuts w' v (wayThree n s x)∧Below w.heap.size w w':=by
 have HS:Hid (SI w sv s):=h;obtain ⟨p,cap,rfl,hc,hm,_⟩:=h;unfold maxLen at hm;by_cases hr:1<=x.op∧x.op<=4
 .obtain ⟨g,hg⟩:=act_range hr
  obtain ⟨q,hq,hqe⟩:∃ q:Nat,q<n.toNat∧x.a % n=(q:Int):=by have e1:=Int.emod_nonneg x.a (show n≠0 by omega);have e2:=Int.emod_lt_of_pos x.a (show 0<n by omega);exact ⟨(x.a % n).toNat,by omega,by omega⟩
  have hway:wayThree n s x=if s.getD (3*q) 0=1 then [((s.getD (3*q+1) 0,s.getD (3*q+2) 0),s)] else [(g,((s.set (3*q) 1).set (3*q+1) g.1).set (3*q+2) g.2)]:=by unfold wayThree;rw[hg,hqe];rfl
  have HWAY:Hid _:=hway;have hq3:3*q+2<s.length:=by omega
  obtain ⟨blk,off,rfl,hlb,hcell⟩:=si_at HS.out (by omega);have c0:=hcell (3*q) (by omega);have c1:=hcell (3*q+1) (by omega);have c2:=hcell (3*q+2) (by omega);have HQE:Hid (x.a % n=(q:Int)):=hqe;have b1:decide (x.op<1)=false:=by simp;omega
  have b2:decide (x.op > 4)=false:=by simp;omega
  have HG:Hid (actOf x=some g):=hg;generalize hs0:s.getD (3*q) 0=z0 at c0;generalize hs1:s.getD (3*q+1) 0=z1 at c1;generalize hs2:s.getD (3*q+2) 0=z2 at c2;have HZ0:Hid (s.getD (3*q) 0=z0):=hs0;have HZ1:Hid (s.getD (3*q+1) 0=z1):=hs1;have HZ2:Hid (s.getD (3*q+2) 0=z2):=hs2;generalize hsl:s.length=sl at hc hq3;have HSL:Hid (s.length=sl):=hsl;have hq4:q<=1000:=by omega
  have HSLB:Hid (sl<=3000):=by rw[Hid];omega
  obtain ⟨K,hK⟩:∃ K,K=3*q:=⟨_,rfl⟩
  rw[<-hK] at c0 c1 c2 hq3;have HK:Hid (K=3*q):=hK;have hk3:(3:Int)*(q:Int)=(K:Int):=by omega
  have hK4:K<=3000:=by omega
  have ki0:(0:Int)<=(K:Int):=by omega
  have ki1:(0:Int)<=(K:Int)+1:=by omega
  have ki2:(0:Int)<=(K:Int)+2:=by omega
  have kj0:(K:Int)<(sl:Int):=by omega
  have kj1:(K:Int)+1<(sl:Int):=by omega
  have kj2:(K:Int)+2<(sl:Int):=by omega
  have kw1:IntKind.i64.wrap ((K:Int)+1)=K+1:=by rw[IntKind.wrap_i64];omega
  have kw2:IntKind.i64.wrap ((K:Int)+2)=K+2:=by rw[IntKind.wrap_i64];omega
  have kt1:((K:Int)+1).toNat=K+1:=by omega
  have kt2:((K:Int)+2).toNat=K+2:=by omega
  clear hK hq hl hq4;clear hway hcell hqe hs0 hs1 hs2 hsl hg;by_cases hz:z0=1
  .have hz':(z0==1)=true:=by simpa using hz
   go_enter Tryd.func135,Tryd.ntmps135
   go_wp2_with (go_at_call 159;refine (Az x.a n h1 h2 _).mono ?_;rintro e w' ⟨rfl,rfl⟩;rw[HQE.out])
   go_region_held3 (λu=>u.cell? ⟨blk,off+(K+1),none⟩=some (I z1)∧u.cell? ⟨blk,off+(K+2),none⟩=some (I z2))
    (first|(exact keep2 ‹_› (below_alloc (Below.refl _ _) _))|(simp[go_sem, *];done))
    (fail)
   rename_i hH;clear hH;go_wp2_with fail;go_ret;rw[show wayThree n s x=_ from HWAY.out,if_pos (HZ0.out.trans hz),HZ1.out,HZ2.out];refine ⟨_,rfl,wouts_one (o:=((z1,z2),s)) (sv:=.slice (some ⟨blk,off,none⟩) sl cap) (range_new _ _ _ _ _ rfl (by simp)) ?_,below_alloc (below_drew (below_alloc (Below.refl _ _) _)) _⟩;rw[<-HSL.out];exact HS.out.later (below_alloc (below_drew (below_alloc (Below.refl _ _) _)) _)
  .have hz':(z0==1)=false:=by simpa using hz
   obtain ⟨j0,hj',hj0,hj1,hj2⟩:=info_parts info3;have hsl0:0<sl:=by omega
   have hslb:sl<=1000000:=by have:=HSLB.out;omega
   have hnil:∀ W:World,W.ownsRow (w.heap.size+1+1) 3 1 (.slice none 0 0) 0 []:=λW=>⟨rfl,.inl ⟨rfl,rfl⟩⟩
   have HNIL:Hid (∀ W:World,W.ownsRow (w.heap.size+1+1) 3 1 (.slice none 0 0) 0 []):=hnil;clear hnil c1 c2;have hop:(x.op=1∧g=(0,x.b))∨(x.op=2∧g=(70,x.b))∨(x.op=3∧g=(71,x.b))∨(x.op=4∧g=(70,72)):=by
    have hg:=HG.out;unfold actOf at hg;split at hg;exact .inl ⟨by assumption,(Qd hg).symm⟩
    .split at hg
     exact .inr (.inl ⟨by assumption,(Qd hg).symm⟩)
     .split at hg
      exact .inr (.inr (.inl ⟨by assumption,(Qd hg).symm⟩))
      .split at hg
       exact .inr (.inr (.inr ⟨by assumption,(Qd hg).symm⟩));cases hg
   rcases hop with ⟨hop,rfl⟩|⟨hop,rfl⟩|⟨hop,rfl⟩|⟨hop,rfl⟩
   .have o2:(x.op==2)=false:=by rw[hop];rfl
    have o3:(x.op==3)=false:=by rw[hop];rfl
    have o4:(x.op==4)=false:=by rw[hop];rfl
    clear hop
    go_enter Tryd.func135,Tryd.ntmps135
    go_wp2_with (first
     |(go_at_call 159;refine (Az x.a n h1 h2 _).mono ?_;rintro e w' ⟨rfl,rfl⟩;rw[HQE.out])
     |(at_builtin;refine wpList_append_lies _ rfl (.tmp 57) (.tmp 58) 22 rfl (w.heap.size+1+1) 3 j0 _ 1 8 Tryd.underlying22 hj' hj0 hj1 hj2 rfl (by decide) (.slice none 0 0) 0 [] ?_
        (HNIL.out _) ⟨blk,off,none⟩ sl cap (s.map I) rfl (by rw[List.length_map,HSL.out];simp) (si_cells (s:=s) (HS.out.later (below_alloc (below_alloc (Below.refl _ _) _) _))) (one_ints s) hsl0 (by unfold maxLen;omega) (by omega) (by simp) _ rfl ?_;rfl;intro g1 cp1 w7 hown7 hgrow7 hat7 hlt7
       rw[Nat.zero_add,List.nil_append] at hown7;obtain ⟨hg1,x0,x1,hb7⟩:=after_copy (w0:=w.alloc (.cells (evC x) 81)) (c:=I 0) (v:=I x.b) (t:=38) rfl (by simpa using hown7) hgrow7 hat7;rw[World.size_alloc] at hg1 x0 x1;rw[World.size_alloc] at hg1;subst hg1;obtain ⟨⟨v0,y0⟩,f0⟩:=Aj hown7 (j:=K) (by omega);obtain ⟨⟨v1,y1⟩,f1⟩:=Aj hown7 (j:=K+1) (by omega);obtain ⟨⟨v2,y2⟩,f2⟩:=Aj hown7 (j:=K+2) (by omega);have HO7:Hid _:=hown7;have HB7:Hid _:=hb7;clear hgrow7 hat7 hown7 hb7))
    go_ret;rw[show wayThree n s x=_ from HWAY.out,if_neg (by rw[HZ0.out];exact hz),<-HK.out];have hsi:=own_three (c:=0) (v:=x.b) HO7.out HSL.out hq3;have hle:w.heap.size<=w.heap.size+1+1:=by omega
    have hbB:Below w.heap.size w (((w7.setCell ⟨w.heap.size+1+1,K,none⟩ (I 1)).setCell ⟨w.heap.size+1+1,K+1,none⟩ (I 0)).setCell ⟨w.heap.size+1+1,K+2,none⟩ (I x.b)) :=
     (((below_step (below_alloc (below_alloc (Below.refl _ w) _) _) HB7.out).setCell hle _).setCell hle _).setCell hle _
    exact ⟨_,rfl,wouts_one (o:=((0,x.b),((s.set K 1).set (K+1) 0).set (K+2) x.b)) (sv:=.slice (some ⟨w.heap.size+1+1,0,none⟩) sl cp1) (range_new _ _ _ _ _ rfl (by simp)) (hsi.later (below_alloc (Below.refl _ _) _)),below_alloc hbB _⟩
   .have o2:(x.op==2)=true:=by rw[hop];rfl
    have o3:(x.op==3)=false:=by rw[hop];rfl
    have o4:(x.op==4)=false:=by rw[hop];rfl
    clear hop
    go_enter Tryd.func135,Tryd.ntmps135
    go_wp2_with (first
     |(go_at_call 159;refine (Az x.a n h1 h2 _).mono ?_;rintro e w' ⟨rfl,rfl⟩;rw[HQE.out])
     |(at_builtin;refine wpList_append_lies _ rfl (.tmp 57) (.tmp 58) 22 rfl (w.heap.size+1+1) 3 j0 _ 1 8 Tryd.underlying22 hj' hj0 hj1 hj2 rfl (by decide) (.slice none 0 0) 0 [] ?_
        (HNIL.out _) ⟨blk,off,none⟩ sl cap (s.map I) rfl (by rw[List.length_map,HSL.out];simp) (si_cells (s:=s) (HS.out.later (below_alloc (below_alloc (Below.refl _ _) _) _))) (one_ints s) hsl0 (by unfold maxLen;omega) (by omega) (by simp) _ rfl ?_;rfl;intro g1 cp1 w7 hown7 hgrow7 hat7 hlt7
       rw[Nat.zero_add,List.nil_append] at hown7;obtain ⟨hg1,x0,x1,hb7⟩:=after_copy (w0:=w.alloc (.cells (evC x) 81)) (c:=I 70) (v:=I x.b) (t:=38) rfl (by simpa using hown7) hgrow7 hat7;rw[World.size_alloc] at hg1 x0 x1;rw[World.size_alloc] at hg1;subst hg1;obtain ⟨⟨v0,y0⟩,f0⟩:=Aj hown7 (j:=K) (by omega);obtain ⟨⟨v1,y1⟩,f1⟩:=Aj hown7 (j:=K+1) (by omega);obtain ⟨⟨v2,y2⟩,f2⟩:=Aj hown7 (j:=K+2) (by omega);have HO7:Hid _:=hown7;have HB7:Hid _:=hb7;clear hgrow7 hat7 hown7 hb7))
    go_ret;rw[show wayThree n s x=_ from HWAY.out,if_neg (by rw[HZ0.out];exact hz),<-HK.out];have hsi:=own_three (c:=70) (v:=x.b) HO7.out HSL.out hq3;have hle:w.heap.size<=w.heap.size+1+1:=by omega
    have hbB:Below w.heap.size w (((w7.setCell ⟨w.heap.size+1+1,K,none⟩ (I 1)).setCell ⟨w.heap.size+1+1,K+1,none⟩ (I 70)).setCell ⟨w.heap.size+1+1,K+2,none⟩ (I x.b)) :=
     (((below_step (below_alloc (below_alloc (Below.refl _ w) _) _) HB7.out).setCell hle _).setCell hle _).setCell hle _
    exact ⟨_,rfl,wouts_one (o:=((70,x.b),((s.set K 1).set (K+1) 70).set (K+2) x.b)) (sv:=.slice (some ⟨w.heap.size+1+1,0,none⟩) sl cp1) (range_new _ _ _ _ _ rfl (by simp)) (hsi.later (below_alloc (Below.refl _ _) _)),below_alloc hbB _⟩
   .have o2:(x.op==2)=false:=by rw[hop];rfl
    have o3:(x.op==3)=true:=by rw[hop];rfl
    have o4:(x.op==4)=false:=by rw[hop];rfl
    clear hop
    go_enter Tryd.func135,Tryd.ntmps135
    go_wp2_with (first
     |(go_at_call 159;refine (Az x.a n h1 h2 _).mono ?_;rintro e w' ⟨rfl,rfl⟩;rw[HQE.out])
     |(at_builtin;refine wpList_append_lies _ rfl (.tmp 57) (.tmp 58) 22 rfl (w.heap.size+1+1) 3 j0 _ 1 8 Tryd.underlying22 hj' hj0 hj1 hj2 rfl (by decide) (.slice none 0 0) 0 [] ?_
        (HNIL.out _) ⟨blk,off,none⟩ sl cap (s.map I) rfl (by rw[List.length_map,HSL.out];simp) (si_cells (s:=s) (HS.out.later (below_alloc (below_alloc (Below.refl _ _) _) _))) (one_ints s) hsl0 (by unfold maxLen;omega) (by omega) (by simp) _ rfl ?_;rfl;intro g1 cp1 w7 hown7 hgrow7 hat7 hlt7
       rw[Nat.zero_add,List.nil_append] at hown7;obtain ⟨hg1,x0,x1,hb7⟩:=after_copy (w0:=w.alloc (.cells (evC x) 81)) (c:=I 71) (v:=I x.b) (t:=38) rfl (by simpa using hown7) hgrow7 hat7;rw[World.size_alloc] at hg1 x0 x1;rw[World.size_alloc] at hg1;subst hg1;obtain ⟨⟨v0,y0⟩,f0⟩:=Aj hown7 (j:=K) (by omega);obtain ⟨⟨v1,y1⟩,f1⟩:=Aj hown7 (j:=K+1) (by omega);obtain ⟨⟨v2,y2⟩,f2⟩:=Aj hown7 (j:=K+2) (by omega);have HO7:Hid _:=hown7;have HB7:Hid _:=hb7;clear hgrow7 hat7 hown7 hb7))
    go_ret;rw[show wayThree n s x=_ from HWAY.out,if_neg (by rw[HZ0.out];exact hz),<-HK.out];have hsi:=own_three (c:=71) (v:=x.b) HO7.out HSL.out hq3;have hle:w.heap.size<=w.heap.size+1+1:=by omega
    have hbB:Below w.heap.size w (((w7.setCell ⟨w.heap.size+1+1,K,none⟩ (I 1)).setCell ⟨w.heap.size+1+1,K+1,none⟩ (I 71)).setCell ⟨w.heap.size+1+1,K+2,none⟩ (I x.b)) :=
     (((below_step (below_alloc (below_alloc (Below.refl _ w) _) _) HB7.out).setCell hle _).setCell hle _).setCell hle _
    exact ⟨_,rfl,wouts_one (o:=((71,x.b),((s.set K 1).set (K+1) 71).set (K+2) x.b)) (sv:=.slice (some ⟨w.heap.size+1+1,0,none⟩) sl cp1) (range_new _ _ _ _ _ rfl (by simp)) (hsi.later (below_alloc (Below.refl _ _) _)),below_alloc hbB _⟩
   .have o2:(x.op==2)=false:=by rw[hop];rfl
    have o3:(x.op==3)=false:=by rw[hop];rfl
    have o4:(x.op==4)=true:=by rw[hop];rfl
    clear hop
    go_enter Tryd.func135,Tryd.ntmps135
    go_wp2_with (first
     |(go_at_call 159;refine (Az x.a n h1 h2 _).mono ?_;rintro e w' ⟨rfl,rfl⟩;rw[HQE.out])
     |(at_builtin;refine wpList_append_lies _ rfl (.tmp 57) (.tmp 58) 22 rfl (w.heap.size+1+1) 3 j0 _ 1 8 Tryd.underlying22 hj' hj0 hj1 hj2 rfl (by decide) (.slice none 0 0) 0 [] ?_
        (HNIL.out _) ⟨blk,off,none⟩ sl cap (s.map I) rfl (by rw[List.length_map,HSL.out];simp) (si_cells (s:=s) (HS.out.later (below_alloc (below_alloc (Below.refl _ _) _) _))) (one_ints s) hsl0 (by unfold maxLen;omega) (by omega) (by simp) _ rfl ?_;rfl;intro g1 cp1 w7 hown7 hgrow7 hat7 hlt7
       rw[Nat.zero_add,List.nil_append] at hown7;obtain ⟨hg1,x0,x1,hb7⟩:=after_copy (w0:=w.alloc (.cells (evC x) 81)) (c:=I 70) (v:=I 72) (t:=38) rfl (by simpa using hown7) hgrow7 hat7;rw[World.size_alloc] at hg1 x0 x1;rw[World.size_alloc] at hg1;subst hg1;obtain ⟨⟨v0,y0⟩,f0⟩:=Aj hown7 (j:=K) (by omega);obtain ⟨⟨v1,y1⟩,f1⟩:=Aj hown7 (j:=K+1) (by omega);obtain ⟨⟨v2,y2⟩,f2⟩:=Aj hown7 (j:=K+2) (by omega);have HO7:Hid _:=hown7;have HB7:Hid _:=hb7;clear hgrow7 hat7 hown7 hb7))
    go_ret;rw[show wayThree n s x=_ from HWAY.out,if_neg (by rw[HZ0.out];exact hz),<-HK.out];have hsi:=own_three (c:=70) (v:=72) HO7.out HSL.out hq3;have hle:w.heap.size<=w.heap.size+1+1:=by omega
    have hbB:Below w.heap.size w (((w7.setCell ⟨w.heap.size+1+1,K,none⟩ (I 1)).setCell ⟨w.heap.size+1+1,K+1,none⟩ (I 70)).setCell ⟨w.heap.size+1+1,K+2,none⟩ (I 72)) :=
     (((below_step (below_alloc (below_alloc (Below.refl _ w) _) _) HB7.out).setCell hle _).setCell hle _).setCell hle _
    exact ⟨_,rfl,wouts_one (o:=((70,72),((s.set K 1).set (K+1) 70).set (K+2) 72)) (sv:=.slice (some ⟨w.heap.size+1+1,0,none⟩) sl cp1) (range_new _ _ _ _ _ rfl (by simp)) (hsi.later (below_alloc (Below.refl _ _) _)),below_alloc hbB _⟩
 .have e1:wayThree n s x=[]:=by unfold wayThree;rw[act_not hr]
  rw[e1];by_cases hlo:x.op<1
  .have b1:decide (x.op<1)=true:=by simpa using hlo
   clear e1 hr
   go_enter Tryd.func135,Tryd.ntmps135
   go_wp2_with fail;go_ret;exact ⟨_,rfl,wouts_nil _,below_alloc (Below.refl _ _) _⟩
  .have b1:decide (x.op<1)=false:=by simpa using hlo
   have b2:decide (x.op > 4)=true:=by simp;omega
   clear e1 hr
   go_enter Tryd.func135,Tryd.ntmps135
   go_wp2_with fail;go_ret;exact ⟨_,rfl,wouts_nil _,below_alloc (Below.refl _ _) _⟩
theorem si_one {blk:Nat}{z:Int}(h:w.cell? ⟨blk,0,none⟩=some (I z)):SI w (.slice (some ⟨blk,0,none⟩) 1 1) [z] :=
 ⟨_,_,rfl,Qi _,by unfold maxLen;omega,λi a hi=>by
  cases i with
  |zero =>
   simp at hi;subst hi;refine ⟨blk,0,rfl,World.block_lt_of_cell? _ _ h,λj u hj=>?_⟩;cases j with
   |zero=>simp[encI] at hj;subst hj;simpa using h
   |succ j=>simp[encI] at hj
  |succ i=>simp at hi⟩
theorem make_nums (n:Nat) (hn:n<=1048576) (w:World):
 (Instr.makeSlice 22 (.int .i64 (n:Int)) (.int .i64 (n:Int))).run Tryd.prog w=.ok (.slice (some ⟨w.heap.size,0,none⟩) n n) (w.alloc (.cells (madeCells #[I 0] n) 3)):=by
 cases hq:Tryd.prog.info? 3 with
 |none=>have:=info3;rw[hq] at this;cases this
 |some i =>have hi:=info3;rw[hq] at hi;simp only[Option.map_some,Option.some.injEq,Prod.mk.injEq] at hi;obtain ⟨hz,hs,hb⟩:=hi;have:=run_make (P:=Tryd.prog) w 22 3 i _ Tryd.underlying22 hq hz .i64 .i64 (n:Int) (n:Int) (by omega) (by omega) (by rw[hb];omega) (by omega);rw[hs] at this;rw[this];simp[Value.cells]
theorem si_zeros (w:World) (n:Nat) (hn:n<=1048576):SI (w.alloc (.cells (madeCells #[I 0] n) 3)) (.slice (some ⟨w.heap.size,0,none⟩) n n) (List.replicate n 0):=by
 refine ⟨some ⟨w.heap.size,0,none⟩,n,by simp,by simp,by unfold maxLen;omega,λi a hi=>?_⟩;have hil:i<n:=by simpa using (Qc hi).1
 have ha:a=0:=by simpa [hil] using hi.symm
 subst ha;refine ⟨w.heap.size,0,rfl,by simp,λj u hj=>?_⟩;cases j with
 |zero =>simp[encI] at hj;subst hj;rw[World.cell?_alloc_at _ _ _ _ rfl];simp[madeCells,hil,Nat.mod_one]
 |succ j=>simp[encI] at hj
theorem first_any (ob st:Int) (h:Starts ob st) (w:World):
 Calls Tryd.prog 85 #[I ob,I st] w λe w'=>∃ v,e=.returned v∧SI w' v (firstOf ob st)∧Below w.heap.size w w':=by
 by_cases h2:ob=2
 .subst h2
  go_enter Tryd.func85,Tryd.ntmps85
  go_wp2
  go_ret;exact ⟨_,rfl,⟨none,0,rfl,Qi _,Nat.zero_le _,λi a hi=>by simp[firstOf] at hi⟩,Below.refl _ _⟩
 .have b2:(ob==2)=false:=by simpa using h2
  by_cases h5:ob=5
  .have hst:1<=st∧st<=1000:=by rcases h with h|h|h|h|h<;>omega
   have hf:firstOf ob st=List.replicate (3*st.toNat) 0:=by unfold firstOf;rw[if_neg h2,if_pos h5]
   rw[hf];subst h5;obtain ⟨m,hm⟩:∃ m:Nat,(m:Int)=st:=⟨st.toNat,by omega⟩
   have hmk:=make_nums (3*m) (by omega);have h3:(3:Int)*st=((3*m:Nat):Int):=by omega
   have h4:3*st.toNat=3*m:=by omega
   rw[h4];have hn:3*m<=3000:=by omega
   generalize 3*m=n at hmk h3 hn ⊢;clear h hf h2 h4 hm
   go_enter Tryd.func85,Tryd.ntmps85
   go_wp2_with fail;go_ret;exact ⟨_,rfl,si_zeros w n (by omega),below_alloc (Below.refl _ _) _⟩
  .have b5:(ob==5)=false:=by simpa using h5
   have hf:firstOf ob st=[st]:=by unfold firstOf;rw[if_neg h2,if_neg h5]
   rw[hf];clear h hf h2 h5
   go_enter Tryd.func85,Tryd.ntmps85
   go_wp2
   go_ret;exact ⟨_,rfl,si_one (World.cell?_alloc_at _ _ _ _ rfl),below_alloc (Below.refl _ _) _⟩
end Go.Proofs.YtfjjoohflcchnaaDoor.R3
