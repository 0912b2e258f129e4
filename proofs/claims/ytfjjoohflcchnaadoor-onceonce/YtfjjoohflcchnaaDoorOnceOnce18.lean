/- OnceOnce, part 18 of 26: La3Q. -/
import Derived.Test.YtfjjoohflcchnaaDoorOnceOnce01
import Derived.Test.YtfjjoohflcchnaaDoorOnceOnce17
import Derived.Deep.QuietTactic
import Derived.BigQuiet
set_option linter.unusedSimpArgs false
set_option linter.unusedVariables false
set_option maxHeartbeats 4000000
set_option maxRecDepth 100000
noncomputable section
namespace Go.Proofs.YtfjjoohflcchnaaDoor.Gen
open Go Go.Lift Go.Conc Go.RowKit
variable {v:World} {a:Act} {Fb L M N Yb Zb b cap cc h i k m o wb x:Nat}
theorem p3_15 {tp ap:Option Addr}(hi:i<N) (d:v.cell? ⟨b,o+i,none⟩=some (.slice tp L cc)) (e:v.cell? ⟨M,i,none⟩=some (.slice ap L L)) (hA:Fl 223 [(1,I (m:Nat)),(2,.slice (some ⟨b,o,none⟩) N cap),(8,Pt wb 0),(9,.slice (some ⟨M,0,none⟩) N N),(12,.slice (some ⟨Fb,0,none⟩) m m),(13,.slice (some ⟨Yb,0,none⟩) m m),(14,.slice (some ⟨Zb,0,none⟩) m m),(15,I (i:Nat))] a):
 q3_15.wp Tryd.prog (Nrm λa' w'=>Fl 223 [(89,.bool false),(1,I (m:Nat)),(2,.slice (some ⟨b,o,none⟩) N cap),(8,Pt wb 0),(9,.slice (some ⟨M,0,none⟩) N N),(12,.slice (some ⟨Fb,0,none⟩) m m),(13,.slice (some ⟨Yb,0,none⟩) m m),(14,.slice (some ⟨Zb,0,none⟩) m m),(15,I (i:Nat))] a'∧(w'.heap=v.heap∧w'.os=v.os∧w'.output=v.output)) a v:=by
 have hi':(i:Int)<(N:Int):=by omega
 obtain ⟨hsz,hd,hp⟩:=hA;obtain ⟨u,rfl,hg⟩:=litN hsz hd;simp only[List.forall_mem_cons,hg] at hp;obtain ⟨u1,u2,u8,u9,u12,u13,u14,u15,-⟩:=hp;clear hg hsz hd;unfold q3_15 C3 Tryd.f3 seq1 seq2 blockC loopC;simp only[Qa,lits,Nat.reduceAdd,u1,u2,u8,u9,u12,u13,u14,u15];clear u1 u2 u8 u9 u12 u13 u14 u15
 go_quiet (fail)
 all_goals exact ⟨⟨rfl,rfl,by
  intro p hp;simp only[Sm,or_false] at hp;rcases hp with rfl|rfl|rfl|rfl|rfl|rfl|rfl|rfl|rfl<;>first|rfl|exact congrArg I (by omega)|exact congrArg Value.bool (by simp<;>omega)|exact congrArg Value.bool (by simp)|(simp;done)⟩,rfl,rfl,rfl⟩
theorem p3_23n (hh:h<m) (c1:v.cell? ⟨Yb,h,none⟩=some (.bool false)) (hA:Fl 223 [(1,I (m:Nat)),(2,.slice (some ⟨b,o,none⟩) N cap),(8,Pt wb 0),(9,.slice (some ⟨M,0,none⟩) N N),(12,.slice (some ⟨Fb,0,none⟩) m m),(13,.slice (some ⟨Yb,0,none⟩) m m),(14,.slice (some ⟨Zb,0,none⟩) m m),(15,I (i:Nat)),(16,I (k:Nat)),(17,Pt x 0),(18,I (h:Nat))] a):
 q3_23.wp Tryd.prog (Nrm λa' w'=>Fl 223 [(135,.bool false),(1,I (m:Nat)),(2,.slice (some ⟨b,o,none⟩) N cap),(8,Pt wb 0),(9,.slice (some ⟨M,0,none⟩) N N),(12,.slice (some ⟨Fb,0,none⟩) m m),(13,.slice (some ⟨Yb,0,none⟩) m m),(14,.slice (some ⟨Zb,0,none⟩) m m),(15,I (i:Nat)),(16,I (k:Nat)),(17,Pt x 0),(18,I (h:Nat))] a'∧(w'.heap=v.heap∧w'.os=v.os∧w'.output=v.output)) a v:=by
 have hh':(h:Int)<(m:Int):=by omega
 obtain ⟨hsz,hd,hp⟩:=hA;obtain ⟨u,rfl,hg⟩:=litN hsz hd;simp only[List.forall_mem_cons,hg] at hp;obtain ⟨u1,u2,u8,u9,u12,u13,u14,u15,u16,u17,u18,-⟩:=hp;clear hg hsz hd;unfold q3_23 C3 Tryd.f3 seq1 seq2 blockC loopC;simp only[Qa,lits,Nat.reduceAdd,u1,u2,u8,u9,u12,u13,u14,u15,u16,u17,u18];clear u1 u2 u8 u9 u12 u13 u14 u15 u16 u17 u18
 go_quiet (fail)
 all_goals exact ⟨⟨rfl,rfl,by
  intro p hp;simp only[Sm,or_false] at hp;rcases hp with rfl|rfl|rfl|rfl|rfl|rfl|rfl|rfl|rfl|rfl|rfl|rfl<;>first|rfl|exact congrArg I (by omega)|exact congrArg Value.bool (by simp<;>omega)|exact congrArg Value.bool (by simp)|(simp;done)⟩,rfl,rfl,rfl⟩
theorem p3_23y {A:Nat}{q1 q2:Int}(hh:h<m) (hi:i<N) (hk:k<L) (c1:v.cell? ⟨Yb,h,none⟩=some (.bool true)) (f1:v.cell? ⟨Fb,h*2,none⟩=some (I q1)) (f2:v.cell? ⟨Fb,h*2+1,none⟩=some (I q2)) (e:v.cell? ⟨M,i,none⟩=some (.slice (some ⟨A,0,none⟩) L cc)) (e1:v.cell? ⟨A,k*2,none⟩=some (I q1)) (e2:v.cell? ⟨A,k*2+1,none⟩=some (I q2)) (hA:Fl 223 [(1,I (m:Nat)),(2,.slice (some ⟨b,o,none⟩) N cap),(8,Pt wb 0),(9,.slice (some ⟨M,0,none⟩) N N),(12,.slice (some ⟨Fb,0,none⟩) m m),(13,.slice (some ⟨Yb,0,none⟩) m m),(14,.slice (some ⟨Zb,0,none⟩) m m),(15,I (i:Nat)),(16,I (k:Nat)),(17,Pt x 0),(18,I (h:Nat))] a):
 q3_23.wp Tryd.prog (Nrm λa' w'=>Fl 223 [(135,.bool false),(1,I (m:Nat)),(2,.slice (some ⟨b,o,none⟩) N cap),(8,Pt wb 0),(9,.slice (some ⟨M,0,none⟩) N N),(12,.slice (some ⟨Fb,0,none⟩) m m),(13,.slice (some ⟨Yb,0,none⟩) m m),(14,.slice (some ⟨Zb,0,none⟩) m m),(15,I (i:Nat)),(16,I (k:Nat)),(17,Pt x 0),(18,I (h:Nat))] a'∧(w'.heap=v.heap∧w'.os=v.os∧w'.output=v.output)) a v:=by
 have hh':(h:Int)<(m:Int):=by omega
 have hi':(i:Int)<(N:Int):=by omega
 have hk':(k:Int)<(L:Int):=by omega
 obtain ⟨hsz,hd,hp⟩:=hA;obtain ⟨u,rfl,hg⟩:=litN hsz hd;simp only[List.forall_mem_cons,hg] at hp;obtain ⟨u1,u2,u8,u9,u12,u13,u14,u15,u16,u17,u18,-⟩:=hp;clear hg hsz hd;unfold q3_23 C3 Tryd.f3 seq1 seq2 blockC loopC;simp only[Qa,lits,Nat.reduceAdd,u1,u2,u8,u9,u12,u13,u14,u15,u16,u17,u18];clear u1 u2 u8 u9 u12 u13 u14 u15 u16 u17 u18
 go_quiet (fail)
 all_goals exact ⟨⟨rfl,rfl,by
  intro p hp;simp only[Sm,or_false] at hp;rcases hp with rfl|rfl|rfl|rfl|rfl|rfl|rfl|rfl|rfl|rfl|rfl|rfl<;>first|rfl|exact congrArg I (by omega)|exact congrArg Value.bool (by simp<;>omega)|exact congrArg Value.bool (by simp)|(simp;done)⟩,rfl,rfl,rfl⟩
theorem p3_26 {A:Nat}{q1 q2:Int}{y1 y2:Value}(hh:h<m) (hi:i<N) (hk:k<L) (f1:v.cell? ⟨Fb,h*2,none⟩=some y1) (f2:v.cell? ⟨Fb,h*2+1,none⟩=some y2) (g1:v.frozen? ⟨Fb,h*2,none⟩=false) (g2:v.frozen? ⟨Fb,h*2+1,none⟩=false) (e:v.cell? ⟨M,i,none⟩=some (.slice (some ⟨A,0,none⟩) L cc)) (e1:v.cell? ⟨A,k*2,none⟩=some (I q1)) (e2:v.cell? ⟨A,k*2+1,none⟩=some (I q2)) (hA:Fl 223 [(1,I (m:Nat)),(2,.slice (some ⟨b,o,none⟩) N cap),(8,Pt wb 0),(9,.slice (some ⟨M,0,none⟩) N N),(12,.slice (some ⟨Fb,0,none⟩) m m),(13,.slice (some ⟨Yb,0,none⟩) m m),(14,.slice (some ⟨Zb,0,none⟩) m m),(15,I (i:Nat)),(16,I (k:Nat)),(17,Pt x 0),(18,I (h:Nat))] a):
 q3_26.wp Tryd.prog (λe a' w'=>e=.normal∧(Fl 223 [(1,I (m:Nat)),(2,.slice (some ⟨b,o,none⟩) N cap),(8,Pt wb 0),(9,.slice (some ⟨M,0,none⟩) N N),(12,.slice (some ⟨Fb,0,none⟩) m m),(13,.slice (some ⟨Yb,0,none⟩) m m),(14,.slice (some ⟨Zb,0,none⟩) m m),(15,I (i:Nat)),(16,I (k:Nat)),(17,Pt x 0),(18,I (h:Nat))] a'∧w'=(v.setCell ⟨Fb,h*2,none⟩ (I q1)).setCell ⟨Fb,h*2+1,none⟩ (I q2))) a v:=by
 have hh':(h:Int)<(m:Int):=by omega
 have hi':(i:Int)<(N:Int):=by omega
 have hk':(k:Int)<(L:Int):=by omega
 obtain ⟨hsz,hd,hp⟩:=hA;obtain ⟨u,rfl,hg⟩:=litN hsz hd;simp only[List.forall_mem_cons,hg] at hp;obtain ⟨u1,u2,u8,u9,u12,u13,u14,u15,u16,u17,u18,-⟩:=hp;clear hg hsz hd;unfold q3_26 C3 Tryd.f3 seq1 seq2 blockC loopC;simp only[Qa,lits,Nat.reduceAdd,u1,u2,u8,u9,u12,u13,u14,u15,u16,u17,u18];clear u1 u2 u8 u9 u12 u13 u14 u15 u16 u17 u18;go_wp2_with fail;first
  |exact ⟨⟨rfl,rfl,by
   intro p hp;simp only[Sm,or_false] at hp;rcases hp with rfl|rfl|rfl|rfl|rfl|rfl|rfl|rfl|rfl|rfl|rfl<;>first|rfl|exact congrArg I (by omega)|exact congrArg Value.bool (by simp<;>omega)|exact congrArg Value.bool (by simp)|(simp;done)⟩,rfl⟩
  |exact ⟨rfl,rfl,by
   intro p hp;simp only[Sm,or_false] at hp;rcases hp with rfl|rfl|rfl|rfl|rfl|rfl|rfl|rfl|rfl|rfl|rfl<;>first|rfl|exact congrArg I (by omega)|exact congrArg Value.bool (by simp<;>omega)|exact congrArg Value.bool (by simp)|(simp;done)⟩
  |exact ⟨rfl,⟨rfl,rfl,by
   intro p hp;simp only[Sm,or_false] at hp;rcases hp with rfl|rfl|rfl|rfl|rfl|rfl|rfl|rfl|rfl|rfl|rfl<;>first|rfl|exact congrArg I (by omega)|exact congrArg Value.bool (by simp<;>omega)|exact congrArg Value.bool (by simp)|(simp;done)⟩,rfl⟩
end Go.Proofs.YtfjjoohflcchnaaDoor.Gen
