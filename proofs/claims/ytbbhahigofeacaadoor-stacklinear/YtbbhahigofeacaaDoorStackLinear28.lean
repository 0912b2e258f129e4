/- StackLinear, part 28 of 32: La8Q. -/
import Derived.Test.YtbbhahigofeacaaDoorStackLinear01
import Derived.Test.YtbbhahigofeacaaDoorStackLinear17
import Derived.Test.YtbbhahigofeacaaDoorStackLinear19
import Derived.Test.YtbbhahigofeacaaDoorStackLinear27
set_option linter.unusedSimpArgs false
set_option linter.unusedVariables false
set_option maxHeartbeats 4000000
set_option maxRecDepth 100000
noncomputable section
namespace Go.Proofs.YtbbhahigofeacaaDoor.Gen
open Go Go.Lift Go.Conc Go.RowKit
open R3 (evL evC evV)
open Go.Proofs.YtbbhahigofeacaaDoor.His
variable {a:Act}
def T8:Code:=.seq (.seq q8_4 (.cond (.tmp 32) (.seq q8_5 .ret) .skip)) (.seq q8_6 (.seq (.seq q8_7 (.cond (.tmp 43) (.seq q8_8 .ret) .skip)) (.seq q8_9 (.seq (.seq q8_10 (.block 0 K8_0)) (.seq (.seq q8_15 (.cond (.tmp 73) (.seq q8_16 .ret) .skip)) (.seq q8_17 (.seq q8_18 .ret)))))))
theorem fine_T8:A7 Tryd.prog true LX3 T8:=Cc Bw extT (by kernel_rfl)
theorem grows_refl (v:World):Grows v v:=⟨Qi _,λ_ _=>rfl,rfl,rfl⟩
theorem tail8_no {v:World}{E:Int}(hE:E=1∨E=2) (hA:Fl 84 [(7,.bool true),(10,I E)] a):T8.wp Tryd.prog (λe a' w'=>e=.ret∧Fl 84 [(6,.bool true)] a'∧Grows v w') a v:=by unfold T8;refine wp_seq (Eh (p8_4n (by omega) hA) λa1 w1 h=>?_);obtain ⟨h1,rfl⟩:=h;refine wp_cond_true (h1.hd rfl) ?_;refine Eh (p8_5 h1.tl) λa2 w2 h=>?_;obtain ⟨h2,rfl⟩:=h;exact wp_ret ⟨rfl,h2,grows_refl _⟩
theorem cell_range {w:World}{b o:Nat}{x:His.Ev}(h:w.rangeAt b o (evC x).toList):w.cell? ⟨b,o+1,none⟩=some (I x.op):=h 1 _ rfl
theorem grown_kq {B:Nat}{w1 w w':World}{ob:Obj}{v:Value}{n:Nat}{xs:List Value}(k:Kq B w1 w) (hB:B<=w.heap.size) (ho:w.ownsRow B 70 8 v n xs) (hg:(w.alloc ob).grownBy w' v.ownBlock):Kq B w1 w'∧B<=w'.heap.size:=by
 have e:(w.alloc ob).heap.size=w.heap.size+1:=by show (w.heap.push ob).size=_;simp
 have hs:=hg.size;refine ⟨⟨hg.os.trans k.os,hg.output.trans k.out,by have:=k.size;omega,λj hj=>?_⟩,by omega⟩;rw[hg.block j (by omega) (λq=>by have:=(own_lt ho j q.symm).1;omega),<-k.old j hj];show (w.heap.push ob)[j]? = _;rw[Qg,if_neg (by omega)]
theorem take8 {w1:World}{p:Option Addr}{cap:Nat}{E:List His.Ev}(hn:E.length<=1000) (hrng:∀ i x,E[i]? = some x->∃ blk off,p=some ⟨blk,off,none⟩∧blk<w1.heap.size∧w1.rangeAt blk (off+i*8) (evL x)) (hA:Fl 84 [(11,.slice p E.length cap),(13,.slice none 0 0)] a) {R:Exit->Act->World->Prop}
 (hR:∀ a' w' pp pc,Fl 84 [(13,.slice pp (E.filter isPP).length pc)] a'->w'.ownsRow w1.heap.size 70 8 (.slice pp (E.filter isPP).length pc) (E.filter isPP).length ((E.filter isPP).flatMap evL)->Kq w1.heap.size w1 w'->R .normal a' w'):
 (Code.seq q8_10 (.block 0 K8_0)).wp Tryd.prog R a w1:=by
 refine Eh (p8_10 hA) λa1 w2 h=>?_;obtain ⟨h1,rfl⟩:=h;unfold K8_0;refine wp_while (t:=47) (λc a x=>∃ i,i<=E.length∧c=E.length - i∧∃ pp pc,Fl 84 [(11,.slice p E.length cap),(13,.slice pp ((E.take i).filter isPP).length pc),(14,I (i:Nat))] a∧x.ownsRow w2.heap.size 70 8 (.slice pp ((E.take i).filter isPP).length pc) ((E.take i).filter isPP).length (((E.take i).filter isPP).flatMap evL)∧Kq w2.heap.size w2 x∧w2.heap.size<=x.heap.size) E.length ⟨0,Nat.zero_le _,rfl,none,0,h1,World.ownsRow_nil _ _ _ _,Kq.refl _ _,Qi _⟩ ?_;rintro c a3 x ⟨i,hi,rfl,pp,pc,hA3,hown,hkq,hB⟩;have hlenF:((E.take i).filter isPP).length<=i:=Qk (List.length_filter_le _ _) (by rw[List.length_take];omega);refine ⟨_,p8_11 hA3,?_⟩;rintro a4 w4 ⟨h4,rfl⟩;by_cases hlt:i<E.length
 .refine .inr ⟨h4.hd (by simp;omega),?_⟩
  obtain ⟨e,he⟩:∃ e,E[i]? = some e:=⟨_,Qf hlt⟩
  obtain ⟨g,o,rfl,hglt,hr⟩:=hrng i e he;have hr4:w4.rangeAt g (o+i*8) (evC e).toList:=λj u hj=>by have h0:=hr j u hj;exact hkq.cell h0 hglt
  have htk:E.take (i+1)=E.take i++[e]:=by rw[List.take_add_one,he];rfl
  have no:isPP e=false->(E.take (i+1)).filter isPP=(E.take i).filter isPP:=λq=>by rw[htk,List.filter_append];simp[q]
  have yes:isPP e=true->(E.take (i+1)).filter isPP=(E.take i).filter isPP++[e]:=λq=>by rw[htk,List.filter_append];simp[q]
  refine wp_seq (wp_block ?_);unfold K8_1;have takes:isPP e=true->∀ a5,Fl 84 [(11,.slice (some ⟨g,o,none⟩) E.length cap),(13,.slice pp ((E.take i).filter isPP).length pc),(14,I (i:Nat))] a5->q8_14.wp Tryd.prog (Exit.inBlock 1 (Exit.then (λa' w'=>q8_12.wp Tryd.prog (Exit.then (λa'' w''=>∃ n',n'<E.length - i∧∃ i,i<=E.length∧n'=E.length - i∧∃ pp pc,Fl 84 [(11,.slice (some ⟨g,o,none⟩) E.length cap),(13,.slice pp ((E.take i).filter isPP).length pc),(14,I (i:Nat))] a''∧w''.ownsRow w2.heap.size 70 8 (.slice pp ((E.take i).filter isPP).length pc) ((E.take i).filter isPP).length (((E.take i).filter isPP).flatMap evL)∧Kq w2.heap.size w2 w''∧w2.heap.size<=w''.heap.size) (Exit.inBlock 0 R)) a' w') (Exit.then (λa'' w''=>∃ n',n'<E.length - i∧∃ i,i<=E.length∧n'=E.length - i∧∃ pp pc,Fl 84 [(11,.slice (some ⟨g,o,none⟩) E.length cap),(13,.slice pp ((E.take i).filter isPP).length pc),(14,I (i:Nat))] a''∧w''.ownsRow w2.heap.size 70 8 (.slice pp ((E.take i).filter isPP).length pc) ((E.take i).filter isPP).length (((E.take i).filter isPP).flatMap evL)∧Kq w2.heap.size w2 w''∧w2.heap.size<=w''.heap.size) (Exit.inBlock 0 R)))) a5 w4:=λq a5 h5=>by
   refine wp_last (p8_14 hlt hB hown (by omega) hr4 h5) λa6 w6 h=>?_;obtain ⟨g2,cpg,h6,hown6,hgr⟩:=h;obtain ⟨hkq6,hB6⟩:=grown_kq hkq hB hown hgr;show Code.wp _ _ _ _ _;refine wp_last (p8_12 (by omega) h6) λa7 w7 h=>?_;obtain ⟨h7,rfl⟩:=h;have ey:=yes q;refine ⟨E.length - (i+1),by omega,i+1,by omega,rfl,some ⟨g2,0,none⟩,cpg,?_,?_,hkq6,hB6⟩;rw[ey,Qj];exact h7
   .rw[ey,Qj,List.flatMap_append]
    have e1:List.flatMap evL [e]=evL e:=by simp
    rw[e1];exact hown6
  by_cases q1:e.op=1
  .refine Eh (p8_13a hlt (cell_range hr4) q1 h4.tl) λa5 w5 h=>?_
   obtain ⟨h5,rfl⟩:=h;exact wp_cond_true (h5.hd rfl) (takes (isPP_iff.2 (.inl q1)) _ h5.tl)
  .by_cases q2:e.op=2
   .refine Eh (p8_13b hlt (cell_range hr4) q2 h4.tl) λa5 w5 h=>?_
    obtain ⟨h5,rfl⟩:=h;exact wp_cond_true (h5.hd rfl) (takes (isPP_iff.2 (.inr q2)) _ h5.tl)
   .refine Eh (p8_13n hlt (cell_range hr4) q1 q2 h4.tl) λa5 w5 h=>?_
    obtain ⟨h5,rfl⟩:=h;refine wp_cond_false (h5.hf rfl) (wp_skip ?_);show Code.wp _ _ _ _ _;refine wp_last (p8_12 (by omega) h5.tl) λa6 w6 h=>?_;obtain ⟨h6,rfl⟩:=h;have en:=no (by unfold isPP;simp[q1,q2]);refine ⟨E.length - (i+1),by omega,i+1,by omega,rfl,pp,pc,?_,?_,hkq,hB⟩;rw[en];exact h6;rw[en];exact hown
 .refine .inl ⟨h4.hf (by simp;omega),?_⟩
  have htk:E.take i=E:=List.take_of_length_le (by omega);rw[htk] at hown h4;exact hR _ _ _ _ (h4.sub (by simp)) hown hkq
theorem tail8_yes {v:World}{sv av:Value}{wb:Nat}{E:List His.Ev}{TT:Value->World->Prop}(hn:E.length<=1000) (hH:Hist (E.filter isPP)) (hLin:Lin (Bl 2 0) (Dq 2 0) (E.filter isPP))
 (h16:Calls Tryd.prog 16 #[Pt wb 0] v λe w'=>∃ tv,e=.returned tv∧Grows v w'∧TT tv w') (h34:∀ tv u,Grows v u->TT tv u->Calls Tryd.prog 34 #[sv,av,tv] u λe w'=>∃ lv,e=.returned (.tuple #[lv,I 0])∧w'.ownsRow v.heap.size 70 8 lv E.length (E.flatMap evL)∧Below u.heap.size u w')
 (hA:Fl 84 [(7,.bool true),(10,I 0),(2,sv),(8,Pt wb 0),(9,av)] a):T8.wp Tryd.prog (λe a' w'=>e=.ret∧Fl 84 [(6,.bool true)] a'∧Grows v w') a v:=by
 unfold T8;refine wp_seq (Eh (p8_4y hA) λa1 w1 h=>?_);obtain ⟨h1,rfl⟩:=h;refine wp_cond_false (h1.hf rfl) (wp_skip ?_);show Code.wp _ _ _ _ _;refine Eh (p8_6 h16 h34 h1.tl) λa2 w2 h=>?_;obtain ⟨lv,h2,hown,hgr⟩:=h;clear h16 h34;refine wp_seq (Eh (p8_7 h2) λa3 w3 h=>?_);obtain ⟨h3,rfl⟩:=h;refine wp_cond_false (h3.hf rfl) (wp_skip ?_);show Code.wp _ _ _ _ _;refine Eh (p8_9 h3.tl) λa4 w4 h=>?_;obtain ⟨h4,rfl⟩:=h;obtain ⟨p,cap,rfl,hc1,hc2,hrng⟩:=R3.own_sl hown;refine wp_seq (take8 hn hrng h4 λa5 w5 pp pc h5 hown5 hkq5=>?_);show Code.wp _ _ _ _ _;have hg5:Grows w1 w5:=hgr.trans' (hkq5.grows (Qi _));by_cases h12:(E.filter isPP).length<=12
 .refine wp_seq (Eh (p8_15n h12 h5) λa6 w6 h=>?_)
  obtain ⟨h6,rfl⟩:=h;refine wp_cond_false (h6.hf rfl) (wp_skip ?_);show Code.wp _ _ _ _ _;have hS:R3.Iw 2 0:=.inr (.inr (.inl ⟨rfl,rfl⟩));have h35:=(R3.rlinear_any 2 0 R3.waysC_stack (.slice pp (E.filter isPP).length pc) (E.filter isPP) w6 (R3.sl_evs (R3.own_sl hown5))).mono (R':=λe w'=>e=.returned (.tuple #[.bool true,I 0])∧Below w6.heap.size w6 w') (λe w' h=>by
   obtain ⟨⟨b,c,rfl,ho⟩,hb⟩:=h;refine ⟨?_,hb⟩;rcases ho with h|h|h|h;exact absurd hS h.1;exact absurd h.2.1 (by omega);exact absurd hH h.2.2.1
   .obtain ⟨_,_,_,rfl,h2⟩:=h
    rw[h2.2 hLin])
  refine Eh (p8_17 h35 h6.tl) λa7 w7 h=>?_;obtain ⟨h7,hb7⟩:=h;refine Eh (p8_18 h7) λa8 w8 h=>?_;obtain ⟨h8,rfl⟩:=h;exact wp_ret ⟨rfl,h8,grows_below (B:=0) hg5 hb7⟩
 .refine wp_seq (Eh (p8_15y (by omega) h5) λa6 w6 h=>?_)
  obtain ⟨h6,rfl⟩:=h;refine wp_cond_true (h6.hd rfl) ?_;refine Eh (p8_16 (h6.sub (l':=[]) (by simp))) λa7 w7 h=>?_;obtain ⟨h7,rfl⟩:=h;exact wp_ret ⟨rfl,h7,hg5⟩
end Go.Proofs.YtbbhahigofeacaaDoor.Gen
