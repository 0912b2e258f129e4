/- OnceOnce, part 20 of 26: La3S2. -/
import Derived.Test.YtfjjoohflcchnaaDoorOnceOnce01
import Derived.Test.YtfjjoohflcchnaaDoorOnceOnce17
import Derived.Deep.RegionWith
import Derived.BigRegion
set_option linter.unusedSimpArgs false
set_option linter.unusedVariables false
set_option maxHeartbeats 4000000
set_option maxRecDepth 100000
noncomputable section
namespace Go.Proofs.YtfjjoohflcchnaaDoor.Gen
open Go Go.Lift Go.Conc Go.RowKit
theorem p3_36n {v:World}{a:Act}{m N b o cap M wb Fb Yb Zb:Nat}{i k x h:Nat}{po cb q1 q2 x1 x2:Int}(hh:h<m) (c1:v.cell? ⟨Zb,h,none⟩=some (.bool false)) (f1:v.frozen? ⟨Zb,h,none⟩=false) (c0:v.cell? ⟨x,0,none⟩=some (I po)) (c2:v.cell? ⟨x,2,none⟩=some (I cb)) (e1:v.cell? ⟨Fb,h*2,none⟩=some (I q1)) (e2:v.cell? ⟨Fb,h*2+1,none⟩=some (I q2)) (H:Hid (∀ w:World,Calls Tryd.prog 21 #[I po,I cb] w (λe w'=>e=.returned (.agg #[I x1,I x2])∧Hid (Grows w w')))) (hne:¬ x1=q1) (hA:Fl 223 [(1,I (m:Nat)),(2,.slice (some ⟨b,o,none⟩) N cap),(8,Pt wb 0),(9,.slice (some ⟨M,0,none⟩) N N),(12,.slice (some ⟨Fb,0,none⟩) m m),(13,.slice (some ⟨Yb,0,none⟩) m m),(14,.slice (some ⟨Zb,0,none⟩) m m),(19,I (i:Nat)),(20,I (k:Nat)),(21,Pt x 0),(22,I (h:Nat))] a):
 q3_36.wp Tryd.prog (Nrm λa' w'=>Fl 223 [(1,I (m:Nat)),(2,.slice (some ⟨b,o,none⟩) N cap),(8,Pt wb 0),(9,.slice (some ⟨M,0,none⟩) N N),(12,.slice (some ⟨Fb,0,none⟩) m m),(13,.slice (some ⟨Yb,0,none⟩) m m),(14,.slice (some ⟨Zb,0,none⟩) m m),(19,I (i:Nat)),(20,I (k:Nat)),(21,Pt x 0),(22,I (h:Nat))] a'∧∃ u,Grows v u∧w'.heap=(u.setCell ⟨Zb,h,none⟩ (.bool false)).heap∧w'.os=v.os∧w'.output=v.output) a v:=by
 have hh':(h:Int)<(m:Int):=by omega
 have g1:(x1==q1)=false:=by simp[hne]
 obtain ⟨hsz,hd,hp⟩:=hA;obtain ⟨u,rfl,hg⟩:=litN hsz hd;simp only[List.forall_mem_cons,hg] at hp;obtain ⟨u1,u2,u8,u9,u12,u13,u14,u19,u20,u21,u22,-⟩:=hp;clear hg hsz hd;unfold q3_36 C3 Tryd.f3 seq1 seq2 condA blockC loopC;simp only[Qa,lits,Nat.reduceAdd,u1,u2,u8,u9,u12,u13,u14,u19,u20,u21,u22];clear u1 u2 u8 u9 u12 u13 u14 u19 u20 u21 u22
 go_region_with (first
  |(go_at_call 21;refine (H.out v.drew).mono ?_;rintro e w1 ⟨rfl,hg⟩
    have k1:=grow_cell hg.out (show v.drew.cell? ⟨Fb,h*2,none⟩=some (I q1) from e1);have k2:=grow_cell hg.out (show v.drew.cell? ⟨Fb,h*2+1,none⟩=some (I q2) from e2);have k3:=grow_cell hg.out (show v.drew.cell? ⟨Zb,h,none⟩=some (.bool false) from c1);have k4:w1.frozen? ⟨Zb,h,none⟩=false:=(World.frozen?_of_block (w:=v) (hg.out.old _ (World.block_lt_of_cell? _ _ c1))).trans f1))
 all_goals exact ⟨⟨rfl,rfl,by
  intro p hp;simp only[Sm,or_false] at hp;rcases hp with rfl|rfl|rfl|rfl|rfl|rfl|rfl|rfl|rfl|rfl|rfl<;>first|rfl|exact congrArg I (by omega)|exact congrArg Value.bool (by simp<;>omega)|exact congrArg Value.bool (by simp)|(simp;done)⟩,w1,⟨hg.out.size,hg.out.old,hg.out.os,hg.out.output⟩,rfl,hg.out.os,hg.out.output⟩
end Go.Proofs.YtfjjoohflcchnaaDoor.Gen
