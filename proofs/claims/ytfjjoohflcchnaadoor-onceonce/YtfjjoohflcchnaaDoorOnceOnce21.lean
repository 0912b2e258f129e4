/- OnceOnce, part 21 of 26: La3S3, La3S. -/
import Derived.Test.YtfjjoohflcchnaaDoorOnceOnce01
import Derived.Test.YtfjjoohflcchnaaDoorOnceOnce17
import Derived.Test.YtfjjoohflcchnaaDoorOnceOnce19
import Derived.Test.YtfjjoohflcchnaaDoorOnceOnce20
import Derived.Deep.RegionWith
import Derived.BigRegion
set_option linter.unusedSimpArgs false
set_option linter.unusedVariables false
set_option maxHeartbeats 4000000
set_option maxRecDepth 100000
noncomputable section
namespace Go.Proofs.YtfjjoohflcchnaaDoor.Gen
open Go Go.Lift Go.Conc Go.RowKit
theorem p3_36m {v:World}{a:Act}{m N b o cap M wb Fb Yb Zb:Nat}{i k x h:Nat}{po cb q2 x1 x2:Int}(hh:h<m) (c1:v.cell? ⟨Zb,h,none⟩=some (.bool false)) (f1:v.frozen? ⟨Zb,h,none⟩=false) (c0:v.cell? ⟨x,0,none⟩=some (I po)) (c2:v.cell? ⟨x,2,none⟩=some (I cb)) (e1:v.cell? ⟨Fb,h*2,none⟩=some (I x1)) (e2:v.cell? ⟨Fb,h*2+1,none⟩=some (I q2)) (H:Hid (∀ w:World,Calls Tryd.prog 21 #[I po,I cb] w (λe w'=>e=.returned (.agg #[I x1,I x2])∧Hid (Grows w w')))) (hne:¬ x2=q2) (hA:Fl 223 [(1,I (m:Nat)),(2,.slice (some ⟨b,o,none⟩) N cap),(8,Pt wb 0),(9,.slice (some ⟨M,0,none⟩) N N),(12,.slice (some ⟨Fb,0,none⟩) m m),(13,.slice (some ⟨Yb,0,none⟩) m m),(14,.slice (some ⟨Zb,0,none⟩) m m),(19,I (i:Nat)),(20,I (k:Nat)),(21,Pt x 0),(22,I (h:Nat))] a):
 q3_36.wp Tryd.prog (Nrm λa' w'=>Fl 223 [(1,I (m:Nat)),(2,.slice (some ⟨b,o,none⟩) N cap),(8,Pt wb 0),(9,.slice (some ⟨M,0,none⟩) N N),(12,.slice (some ⟨Fb,0,none⟩) m m),(13,.slice (some ⟨Yb,0,none⟩) m m),(14,.slice (some ⟨Zb,0,none⟩) m m),(19,I (i:Nat)),(20,I (k:Nat)),(21,Pt x 0),(22,I (h:Nat))] a'∧∃ u,Grows v u∧w'.heap=(u.setCell ⟨Zb,h,none⟩ (.bool false)).heap∧w'.os=v.os∧w'.output=v.output) a v:=by
 have hh':(h:Int)<(m:Int):=by omega
 have g1:(x2==q2)=false:=by simp[hne]
 obtain ⟨hsz,hd,hp⟩:=hA;obtain ⟨u,rfl,hg⟩:=litN hsz hd;simp only[List.forall_mem_cons,hg] at hp;obtain ⟨u1,u2,u8,u9,u12,u13,u14,u19,u20,u21,u22,-⟩:=hp;clear hg hsz hd;unfold q3_36 C3 Tryd.f3 seq1 seq2 condA blockC loopC;simp only[Qa,lits,Nat.reduceAdd,u1,u2,u8,u9,u12,u13,u14,u19,u20,u21,u22];clear u1 u2 u8 u9 u12 u13 u14 u19 u20 u21 u22
 go_region_with (first
  |(go_at_call 21;refine (H.out v.drew).mono ?_;rintro e w1 ⟨rfl,hg⟩
    have k1:=grow_cell hg.out (show v.drew.cell? ⟨Fb,h*2,none⟩=some (I x1) from e1);have k2:=grow_cell hg.out (show v.drew.cell? ⟨Fb,h*2+1,none⟩=some (I q2) from e2);have k3:=grow_cell hg.out (show v.drew.cell? ⟨Zb,h,none⟩=some (.bool false) from c1);have k4:w1.frozen? ⟨Zb,h,none⟩=false:=(World.frozen?_of_block (w:=v) (hg.out.old _ (World.block_lt_of_cell? _ _ c1))).trans f1))
 all_goals exact ⟨⟨rfl,rfl,by
  intro p hp;simp only[Sm,or_false] at hp;rcases hp with rfl|rfl|rfl|rfl|rfl|rfl|rfl|rfl|rfl|rfl|rfl<;>first|rfl|exact congrArg I (by omega)|exact congrArg Value.bool (by simp<;>omega)|exact congrArg Value.bool (by simp)|(simp;done)⟩,w1,⟨hg.out.size,hg.out.old,hg.out.os,hg.out.output⟩,rfl,hg.out.os,hg.out.output⟩
theorem p3_36f {v:World}{a:Act}{m N b o cap M wb Fb Yb Zb:Nat}{i k x h:Nat}{po cb q1 q2 x1 x2:Int}(hh:h<m) (c1:v.cell? ⟨Zb,h,none⟩=some (.bool false)) (f1:v.frozen? ⟨Zb,h,none⟩=false) (c0:v.cell? ⟨x,0,none⟩=some (I po)) (c2:v.cell? ⟨x,2,none⟩=some (I cb)) (e1:v.cell? ⟨Fb,h*2,none⟩=some (I q1)) (e2:v.cell? ⟨Fb,h*2+1,none⟩=some (I q2)) (H:Hid (∀ w:World,Calls Tryd.prog 21 #[I po,I cb] w (λe w'=>e=.returned (.agg #[I x1,I x2])∧Hid (Grows w w')))) (hA:Fl 223 [(1,I (m:Nat)),(2,.slice (some ⟨b,o,none⟩) N cap),(8,Pt wb 0),(9,.slice (some ⟨M,0,none⟩) N N),(12,.slice (some ⟨Fb,0,none⟩) m m),(13,.slice (some ⟨Yb,0,none⟩) m m),(14,.slice (some ⟨Zb,0,none⟩) m m),(19,I (i:Nat)),(20,I (k:Nat)),(21,Pt x 0),(22,I (h:Nat))] a):
 q3_36.wp Tryd.prog (Nrm λa' w'=>Fl 223 [(1,I (m:Nat)),(2,.slice (some ⟨b,o,none⟩) N cap),(8,Pt wb 0),(9,.slice (some ⟨M,0,none⟩) N N),(12,.slice (some ⟨Fb,0,none⟩) m m),(13,.slice (some ⟨Yb,0,none⟩) m m),(14,.slice (some ⟨Zb,0,none⟩) m m),(19,I (i:Nat)),(20,I (k:Nat)),(21,Pt x 0),(22,I (h:Nat))] a'∧∃ u β,((x1=q1∧x2=q2)->β=true)∧Grows v u∧w'.heap=(u.setCell ⟨Zb,h,none⟩ (.bool β)).heap∧w'.os=v.os∧w'.output=v.output) a v:=by
 have fin:∀ β:Bool,((x1=q1∧x2=q2)->β=true)->∀ (e:Exit) (a':Act) (w':World),Nrm (λa' w'=>Fl 223 [(1,I (m:Nat)),(2,.slice (some ⟨b,o,none⟩) N cap),(8,Pt wb 0),(9,.slice (some ⟨M,0,none⟩) N N),(12,.slice (some ⟨Fb,0,none⟩) m m),(13,.slice (some ⟨Yb,0,none⟩) m m),(14,.slice (some ⟨Zb,0,none⟩) m m),(19,I (i:Nat)),(20,I (k:Nat)),(21,Pt x 0),(22,I (h:Nat))] a'∧∃ u,Grows v u∧w'.heap=(u.setCell ⟨Zb,h,none⟩ (.bool β)).heap∧w'.os=v.os∧w'.output=v.output) e a' w'->Nrm (λa' w'=>Fl 223 [(1,I (m:Nat)),(2,.slice (some ⟨b,o,none⟩) N cap),(8,Pt wb 0),(9,.slice (some ⟨M,0,none⟩) N N),(12,.slice (some ⟨Fb,0,none⟩) m m),(13,.slice (some ⟨Yb,0,none⟩) m m),(14,.slice (some ⟨Zb,0,none⟩) m m),(19,I (i:Nat)),(20,I (k:Nat)),(21,Pt x 0),(22,I (h:Nat))] a'∧∃ u β,((x1=q1∧x2=q2)->β=true)∧Grows v u∧w'.heap=(u.setCell ⟨Zb,h,none⟩ (.bool β)).heap∧w'.os=v.os∧w'.output=v.output) e a' w':=λβ hβ e a' w' q=>by
  cases e
  case normal =>obtain ⟨q1,u,q2⟩:=q;exact ⟨q1,u,β,hβ,q2⟩
  all_goals exact q.elim
 by_cases h1:x1=q1
 .subst h1
  by_cases h2:x2=q2
  .subst h2
   exact wp_mono (p3_36e hh c1 f1 c0 c2 e1 e2 H hA) (fin true (λ_=>rfl))
  exact wp_mono (p3_36m hh c1 f1 c0 c2 e1 e2 H h2 hA) (fin false (λq=>absurd q.2 h2))
 exact wp_mono (p3_36n hh c1 f1 c0 c2 e1 e2 H h1 hA) (fin false (λq=>absurd q.1 h1))
end Go.Proofs.YtfjjoohflcchnaaDoor.Gen
