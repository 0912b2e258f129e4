/- Of the proof of CounterTimes. Part 26 of 31. (Joined, by program, and written short, of: La14T.) -/
import Derived.Test.YtfjjoohflcchnaaDoorCounterTimes25
import Derived.Deep.QuietTactic
import Derived.BigQuiet
set_option linter.unusedSimpArgs false
set_option linter.unusedVariables false
set_option maxHeartbeats 4000000
set_option maxRecDepth 100000
namespace Go.Proofs.YtfjjoohflcchnaaDoor.Gen
open Go Go.Lift Go.Conc Go.RowKit
theorem p14_51q {v:World} {a:Act} {s N b o cap M:Nat} {tot bus:Int} {Cb Eb Qb Nb g T ct i:Nat} {x t:Nat} {sop y:Int} {k L A sb n tc:Nat} (H:Hid (∀ w:World,w.heap=v.heap→Calls Tryd.prog 53 #[.slice (some ⟨sb,0,none⟩) n tc,I y] w (fun e w'=>e=.returned (.bool true)∧w'=w))) (ht:t<N) (c3:v.cell? ⟨x,3,none⟩=some (I (k:Nat))) (d:v.cell? ⟨Eb,t,none⟩=some (.slice (some ⟨sb,0,none⟩) n tc)) (e:v.cell? ⟨M,t,none⟩=some (.slice (some ⟨A,0,none⟩) L L)) (hk:k<L) (d1:v.cell? ⟨A,k*2+1,none⟩=some (I y)) (q:v.cell? ⟨Qb,t,none⟩=some (.bool false)) (hA:Fl 267 [(1,I (s:Nat)),(2,.slice (some ⟨b,o,none⟩) N cap),(9,.slice (some ⟨M,0,none⟩) N N),(12,.slice (some ⟨g,0,none⟩) T ct),(13,I tot),(14,I bus),(15,.slice (some ⟨Cb,0,none⟩) N N),(16,.slice (some ⟨Eb,0,none⟩) N N),(17,.slice (some ⟨Qb,0,none⟩) N N),(18,.slice (some ⟨Nb,0,none⟩) N N),(19,I (i:Nat)),(20,Pt x 0),(21,I (t:Nat)),(22,I 2),(144,I sop)] a) :
 q14_51.wp Tryd.prog (Nrm fun a' w'=>Fl 267 [(266,.bool false),(1,I (s:Nat)),(2,.slice (some ⟨b,o,none⟩) N cap),(9,.slice (some ⟨M,0,none⟩) N N),(12,.slice (some ⟨g,0,none⟩) T ct),(13,I tot),(14,I bus),(15,.slice (some ⟨Cb,0,none⟩) N N),(16,.slice (some ⟨Eb,0,none⟩) N N),(17,.slice (some ⟨Qb,0,none⟩) N N),(18,.slice (some ⟨Nb,0,none⟩) N N),(19,I (i:Nat)),(20,Pt x 0),(21,I (t:Nat)),(22,I 2),(144,I sop)] a'∧(w'.heap=v.heap∧w'.os=v.os∧w'.output=v.output)) a v:=by
 have ht':(t:Int)<(N:Int):=by omega
 have hk':(k:Int)<(L:Int):=by omega
 obtain ⟨hsz,hd,hp⟩:=hA
 obtain ⟨u,rfl,hg⟩:=litN hsz hd
 simp only [List.forall_mem_cons,hg] at hp
 obtain ⟨u1,u2,u9,u12,u13,u14,u15,u16,u17,u18,u19,u20,u21,u22,u144,-⟩:=hp
 clear hg hsz hd
 unfold q14_51 C14 Tryd.f14 seq1 seq2 condA condB blockC loopC
 simp only [Option.getD_some,lits,Nat.reduceAdd,u1,u2,u9,u12,u13,u14,u15,u16,u17,u18,u19,u20,u21,u22,u144]
 clear u1 u2 u9 u12 u13 u14 u15 u16 u17 u18 u19 u20 u21 u22 u144
 go_quiet (first|(go_at_call 53;exact Calls.quiet_of_same (H.out _ rfl)))
 all_goals exact ⟨⟨rfl,rfl,by
  intro p hp
  simp only [List.mem_cons,List.not_mem_nil,or_false] at hp
  rcases hp with rfl|rfl|rfl|rfl|rfl|rfl|rfl|rfl|rfl|rfl|rfl|rfl|rfl|rfl|rfl|rfl<;>first|rfl|exact congrArg I (by omega)|exact congrArg Value.bool (by simp<;>omega)|exact congrArg Value.bool (by simp)|(simp;done)⟩,rfl,rfl,rfl⟩
end Go.Proofs.YtfjjoohflcchnaaDoor.Gen
