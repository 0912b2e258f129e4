/- OnceOnce, part 22 of 26: La3R. -/
import Derived.Test.YtfjjoohflcchnaaDoorOnceOnce01
import Derived.Test.YtfjjoohflcchnaaDoorOnceOnce17
import Derived.Deep.RegionWith
import Derived.BigRegion
set_option linter.unusedSimpArgs false
set_option linter.unusedVariables false
set_option maxHeartbeats 4000000
set_option maxRecDepth 100000
noncomputable section
namespace Go.Proofs.YtfjjoohflcchnaaDoor.Gen
open Go Go.Lift Go.Conc Go.RowKit
theorem p3_36t {v:World}{a:Act}{m N b o cap M wb Fb Yb Zb:Nat}{i k x h:Nat}(hh:h<m) (c1:v.cell? ⟨Zb,h,none⟩=some (.bool true)) (f1:v.frozen? ⟨Zb,h,none⟩=false) (hA:Fl 223 [(1,I (m:Nat)),(2,.slice (some ⟨b,o,none⟩) N cap),(8,Pt wb 0),(9,.slice (some ⟨M,0,none⟩) N N),(12,.slice (some ⟨Fb,0,none⟩) m m),(13,.slice (some ⟨Yb,0,none⟩) m m),(14,.slice (some ⟨Zb,0,none⟩) m m),(19,I (i:Nat)),(20,I (k:Nat)),(21,Pt x 0),(22,I (h:Nat))] a):
 q3_36.wp Tryd.prog (Nrm λa' w'=>Fl 223 [(1,I (m:Nat)),(2,.slice (some ⟨b,o,none⟩) N cap),(8,Pt wb 0),(9,.slice (some ⟨M,0,none⟩) N N),(12,.slice (some ⟨Fb,0,none⟩) m m),(13,.slice (some ⟨Yb,0,none⟩) m m),(14,.slice (some ⟨Zb,0,none⟩) m m),(19,I (i:Nat)),(20,I (k:Nat)),(21,Pt x 0),(22,I (h:Nat))] a'∧∃ u,Grows v u∧w'.heap=(u.setCell ⟨Zb,h,none⟩ (.bool true)).heap∧w'.os=v.os∧w'.output=v.output) a v:=by
 have hh':(h:Int)<(m:Int):=by omega
 have hgr:Grows v v:=⟨Qi _,λ_ _=>rfl,rfl,rfl⟩
 obtain ⟨hsz,hd,hp⟩:=hA;obtain ⟨u,rfl,hg⟩:=litN hsz hd;simp only[List.forall_mem_cons,hg] at hp;obtain ⟨u1,u2,u8,u9,u12,u13,u14,u19,u20,u21,u22,-⟩:=hp;clear hg hsz hd;unfold q3_36 C3 Tryd.f3 seq1 seq2 condA blockC loopC;simp only[Qa,lits,Nat.reduceAdd,u1,u2,u8,u9,u12,u13,u14,u19,u20,u21,u22];clear u1 u2 u8 u9 u12 u13 u14 u19 u20 u21 u22
 go_region
 all_goals exact ⟨⟨rfl,rfl,by
  intro p hp;simp only[Sm,or_false] at hp;rcases hp with rfl|rfl|rfl|rfl|rfl|rfl|rfl|rfl|rfl|rfl|rfl<;>first|rfl|exact congrArg I (by omega)|exact congrArg Value.bool (by simp<;>omega)|exact congrArg Value.bool (by simp)|(simp;done)⟩,v,hgr,rfl,rfl,rfl⟩
end Go.Proofs.YtfjjoohflcchnaaDoor.Gen
