/- Of the proof of CounterTimes. Part 24 of 31. (Joined, by program, and written short, of: La14Q.) -/
import Derived.Test.YtfjjoohflcchnaaDoorCounterTimes04
import Derived.Test.YtfjjoohflcchnaaDoorCounterTimes22
import Derived.Test.YtfjjoohflcchnaaDoorCounterTimes23
import Derived.Deep.RegionLaw
set_option linter.unusedSimpArgs false
set_option linter.unusedVariables false
set_option maxHeartbeats 4000000
set_option maxRecDepth 100000
namespace Go.Proofs.YtfjjoohflcchnaaDoor.Gen
open Go Go.Lift Go.Conc Go.RowKit
def Tr9 (s N b o cap M:Nat) (S:TS) (v:World) (a:Act) (w:World):Prop:=∃ p g ct,Fl 267 [(1,I (s:Nat)),(2,.slice (some ⟨b,o,none⟩) N cap),(9,.slice (some ⟨M,0,none⟩) N N),(12,.slice p S.n ct)] a∧(0<S.n→p=some ⟨g,0,none⟩∧v.heap.size≤g)∧(∀ j u,S.tr[j]? = some u→w.cell? ⟨g,j,none⟩=some u)∧Grows v w
theorem p14_9 {v:World} {a:Act} {s N b o cap M wb:Nat} {S:TS} (hR:Rep zn S v) (hwb:wb=S.wb) (hn:S.n*40≤140737488355328) (h1:∀ u∈S.tr,u.oneCell'=true) (hA:Fl 267 [(1,I (s:Nat)),(2,.slice (some ⟨b,o,none⟩) N cap),(9,.slice (some ⟨M,0,none⟩) N N),(8,Pt wb 0)] a) :
 q14_9.wp Tryd.prog (fun e a' w'=>e=.normal∧Tr9 s N b o cap M S v a' w') a v:=by
 subst hwb
 have H3:Hid (Calls Tryd.prog 23 #[Pt S.wb 0] v _):=⟨(body9A hR hn h1).calls Tryd.func23 rfl⟩
 clear hR hn h1
 obtain ⟨hsz,hd,hp⟩:=hA
 obtain ⟨u,rfl,hg⟩:=litN hsz hd
 simp only [List.forall_mem_cons,hg] at hp
 obtain ⟨u1,u2,u9,u8,-⟩:=hp
 clear hg hsz hd
 unfold q14_9 C14 Tryd.f14 seq1 seq2
 simp only [Option.getD_some,lits,Nat.reduceAdd,u1,u2,u9,u8]
 clear u1 u2 u9 u8
 go_wp2_with (first|(go_at_call 23;refine H3.out.mono ?_;rintro e w1 ⟨_,rfl,p,g,ct,rfl,k1,k2,k3⟩))
 first|exact ⟨p,g,ct,⟨rfl,rfl,by
  intro p hp
  simp only [List.mem_cons,List.not_mem_nil,or_false] at hp
  rcases hp with rfl|rfl|rfl|rfl<;>first|rfl|exact congrArg I (by omega)|exact congrArg Value.bool (by simp<;>omega)|exact congrArg Value.bool (by simp)|(simp;done)⟩,k1,k2,k3⟩|exact ⟨rfl,p,g,ct,⟨rfl,rfl,by
  intro p hp
  simp only [List.mem_cons,List.not_mem_nil,or_false] at hp
  rcases hp with rfl|rfl|rfl|rfl<;>first|rfl|exact congrArg I (by omega)|exact congrArg Value.bool (by simp<;>omega)|exact congrArg Value.bool (by simp)|(simp;done)⟩,k1,k2,k3⟩
theorem p14_24 {v:World} {a:Act} {s N b o cap M:Nat} {tot bus:Int} {Cb Eb Qb Nb g T ct i:Nat} {x t:Nat} {k L cc A:Nat} {tp:Option Addr} (ht:t<N) (c3:v.cell? ⟨x,3,none⟩=some (I (k:Nat))) (d:v.cell? ⟨b,o+t,none⟩=some (.slice tp L cc)) (e:v.cell? ⟨M,t,none⟩=some (.slice (some ⟨A,0,none⟩) L L)) (hk:k<L) (hA:Fl 267 [(1,I (s:Nat)),(2,.slice (some ⟨b,o,none⟩) N cap),(9,.slice (some ⟨M,0,none⟩) N N),(12,.slice (some ⟨g,0,none⟩) T ct),(13,I tot),(14,I bus),(15,.slice (some ⟨Cb,0,none⟩) N N),(16,.slice (some ⟨Eb,0,none⟩) N N),(17,.slice (some ⟨Qb,0,none⟩) N N),(18,.slice (some ⟨Nb,0,none⟩) N N),(19,I (i:Nat)),(20,Pt x 0),(21,I (t:Nat))] a) :
 q14_24.wp Tryd.prog (Nrm fun a' w'=>Fl 267 [(116,.bool false),(1,I (s:Nat)),(2,.slice (some ⟨b,o,none⟩) N cap),(9,.slice (some ⟨M,0,none⟩) N N),(12,.slice (some ⟨g,0,none⟩) T ct),(13,I tot),(14,I bus),(15,.slice (some ⟨Cb,0,none⟩) N N),(16,.slice (some ⟨Eb,0,none⟩) N N),(17,.slice (some ⟨Qb,0,none⟩) N N),(18,.slice (some ⟨Nb,0,none⟩) N N),(19,I (i:Nat)),(20,Pt x 0),(21,I (t:Nat))] a'∧(w'.heap=v.heap∧w'.os=v.os∧w'.output=v.output)) a v:=by
 have ht':(t:Int)<(N:Int):=by omega
 have h1:¬ (k:Int)<0:=by omega
 have h2:¬ (k:Int)≥(L:Int):=by omega
 obtain ⟨hsz,hd,hp⟩:=hA
 obtain ⟨u,rfl,hg⟩:=litN hsz hd
 simp only [List.forall_mem_cons,hg] at hp
 obtain ⟨u1,u2,u9,u12,u13,u14,u15,u16,u17,u18,u19,u20,u21,-⟩:=hp
 clear hg hsz hd
 unfold q14_24 C14 Tryd.f14 seq1 seq2 condA blockC loopC
 simp only [Option.getD_some,lits,Nat.reduceAdd,u1,u2,u9,u12,u13,u14,u15,u16,u17,u18,u19,u20,u21]
 clear u1 u2 u9 u12 u13 u14 u15 u16 u17 u18 u19 u20 u21
 go_region
 all_goals exact ⟨⟨rfl,rfl,by
  intro p hp
  simp only [List.mem_cons,List.not_mem_nil,or_false] at hp
  rcases hp with rfl|rfl|rfl|rfl|rfl|rfl|rfl|rfl|rfl|rfl|rfl|rfl|rfl|rfl<;>first|rfl|exact congrArg I (by omega)|exact congrArg Value.bool (by simp<;>omega)|exact congrArg Value.bool (by simp)|(simp;done)⟩,rfl,rfl,rfl⟩
theorem p14_28 {v:World} {a:Act} {s N b o cap M:Nat} {tot bus:Int} {Cb Eb Qb Nb g T ct i:Nat} {x t:Nat} {c L cc:Nat} {tp:Option Addr} (ht:t<N) (c1:v.cell? ⟨Cb,t,none⟩=some (I (c:Nat))) (d:v.cell? ⟨b,o+t,none⟩=some (.slice tp L cc)) (hA:Fl 267 [(1,I (s:Nat)),(2,.slice (some ⟨b,o,none⟩) N cap),(9,.slice (some ⟨M,0,none⟩) N N),(12,.slice (some ⟨g,0,none⟩) T ct),(13,I tot),(14,I bus),(15,.slice (some ⟨Cb,0,none⟩) N N),(16,.slice (some ⟨Eb,0,none⟩) N N),(17,.slice (some ⟨Qb,0,none⟩) N N),(18,.slice (some ⟨Nb,0,none⟩) N N),(19,I (i:Nat)),(20,Pt x 0),(21,I (t:Nat)),(22,I 0)] a) :
 q14_28.wp Tryd.prog (Nrm fun a' w'=>Fl 267 [(131,.bool (decide (c<L))),(1,I (s:Nat)),(2,.slice (some ⟨b,o,none⟩) N cap),(9,.slice (some ⟨M,0,none⟩) N N),(12,.slice (some ⟨g,0,none⟩) T ct),(13,I tot),(14,I bus),(15,.slice (some ⟨Cb,0,none⟩) N N),(16,.slice (some ⟨Eb,0,none⟩) N N),(17,.slice (some ⟨Qb,0,none⟩) N N),(18,.slice (some ⟨Nb,0,none⟩) N N),(19,I (i:Nat)),(20,Pt x 0),(21,I (t:Nat)),(22,I 0)] a'∧(w'.heap=v.heap∧w'.os=v.os∧w'.output=v.output)) a v:=by
 have ht':(t:Int)<(N:Int):=by omega
 obtain ⟨hsz,hd,hp⟩:=hA
 obtain ⟨u,rfl,hg⟩:=litN hsz hd
 simp only [List.forall_mem_cons,hg] at hp
 obtain ⟨u1,u2,u9,u12,u13,u14,u15,u16,u17,u18,u19,u20,u21,u22,-⟩:=hp
 clear hg hsz hd
 unfold q14_28 C14 Tryd.f14 seq1 seq2 blockC loopC
 simp only [Option.getD_some,lits,Nat.reduceAdd,u1,u2,u9,u12,u13,u14,u15,u16,u17,u18,u19,u20,u21,u22]
 clear u1 u2 u9 u12 u13 u14 u15 u16 u17 u18 u19 u20 u21 u22
 go_region
 all_goals exact ⟨⟨rfl,rfl,by
  intro p hp
  simp only [List.mem_cons,List.not_mem_nil,or_false] at hp
  rcases hp with rfl|rfl|rfl|rfl|rfl|rfl|rfl|rfl|rfl|rfl|rfl|rfl|rfl|rfl|rfl<;>first|rfl|exact congrArg I (by omega)|exact congrArg Value.bool (by simp<;>omega)|exact congrArg Value.bool (by simp)|(simp;done)⟩,rfl,rfl,rfl⟩
theorem p14_29 {v:World} {a:Act} {s N b o cap M:Nat} {tot bus:Int} {Cb Eb Qb Nb g T ct i:Nat} {x t:Nat} {c L cc rb ro:Nat} {po:Int} (ht:t<N) (c1:v.cell? ⟨Cb,t,none⟩=some (I (c:Nat))) (d:v.cell? ⟨b,o+t,none⟩=some (.slice (some ⟨rb,ro,none⟩) L cc)) (hc:c<L) (d0:v.cell? ⟨rb,ro+c*4,none⟩=some (I po)) (hA:Fl 267 [(1,I (s:Nat)),(2,.slice (some ⟨b,o,none⟩) N cap),(9,.slice (some ⟨M,0,none⟩) N N),(12,.slice (some ⟨g,0,none⟩) T ct),(13,I tot),(14,I bus),(15,.slice (some ⟨Cb,0,none⟩) N N),(16,.slice (some ⟨Eb,0,none⟩) N N),(17,.slice (some ⟨Qb,0,none⟩) N N),(18,.slice (some ⟨Nb,0,none⟩) N N),(19,I (i:Nat)),(20,Pt x 0),(21,I (t:Nat)),(22,I 0)] a) :
 q14_29.wp Tryd.prog (Nrm fun a' w'=>Fl 267 [(1,I (s:Nat)),(2,.slice (some ⟨b,o,none⟩) N cap),(9,.slice (some ⟨M,0,none⟩) N N),(12,.slice (some ⟨g,0,none⟩) T ct),(13,I tot),(14,I bus),(15,.slice (some ⟨Cb,0,none⟩) N N),(16,.slice (some ⟨Eb,0,none⟩) N N),(17,.slice (some ⟨Qb,0,none⟩) N N),(18,.slice (some ⟨Nb,0,none⟩) N N),(19,I (i:Nat)),(20,Pt x 0),(21,I (t:Nat)),(22,I po)] a'∧(w'.heap=v.heap∧w'.os=v.os∧w'.output=v.output)) a v:=by
 have ht':(t:Int)<(N:Int):=by omega
 have hc':(c:Int)<(L:Int):=by omega
 obtain ⟨hsz,hd,hp⟩:=hA
 obtain ⟨u,rfl,hg⟩:=litN hsz hd
 simp only [List.forall_mem_cons,hg] at hp
 obtain ⟨u1,u2,u9,u12,u13,u14,u15,u16,u17,u18,u19,u20,u21,u22,-⟩:=hp
 clear hg hsz hd
 unfold q14_29 C14 Tryd.f14 seq1 seq2 condA blockC loopC
 simp only [Option.getD_some,lits,Nat.reduceAdd,u1,u2,u9,u12,u13,u14,u15,u16,u17,u18,u19,u20,u21,u22]
 clear u1 u2 u9 u12 u13 u14 u15 u16 u17 u18 u19 u20 u21 u22
 go_region
 all_goals exact ⟨⟨rfl,rfl,by
  intro p hp
  simp only [List.mem_cons,List.not_mem_nil,or_false] at hp
  rcases hp with rfl|rfl|rfl|rfl|rfl|rfl|rfl|rfl|rfl|rfl|rfl|rfl|rfl|rfl<;>first|rfl|exact congrArg I (by omega)|exact congrArg Value.bool (by simp<;>omega)|exact congrArg Value.bool (by simp)|(simp;done)⟩,rfl,rfl,rfl⟩
theorem p14_33 {v:World} {a:Act} {s N b o cap M:Nat} {tot bus:Int} {Cb Eb Qb Nb g T ct i:Nat} {x t:Nat} {op:Int} {sop:Int} {c L cc rb ro:Nat} {ca:Int} (ht:t<N) (hb:-1000000000≤tot∧tot≤1000000000) (c1:v.cell? ⟨Cb,t,none⟩=some (I (c:Nat))) (d:v.cell? ⟨b,o+t,none⟩=some (.slice (some ⟨rb,ro,none⟩) L cc)) (hc:c<L) (d0:v.cell? ⟨rb,ro+c*4+1,none⟩=some (I ca)) (hA:Fl 267 [(1,I (s:Nat)),(2,.slice (some ⟨b,o,none⟩) N cap),(9,.slice (some ⟨M,0,none⟩) N N),(12,.slice (some ⟨g,0,none⟩) T ct),(13,I tot),(14,I bus),(15,.slice (some ⟨Cb,0,none⟩) N N),(16,.slice (some ⟨Eb,0,none⟩) N N),(17,.slice (some ⟨Qb,0,none⟩) N N),(18,.slice (some ⟨Nb,0,none⟩) N N),(19,I (i:Nat)),(20,Pt x 0),(21,I (t:Nat)),(22,I op),(144,I sop)] a) :
 q14_33.wp Tryd.prog (Nrm fun a' w'=>Fl 267 [(1,I (s:Nat)),(2,.slice (some ⟨b,o,none⟩) N cap),(9,.slice (some ⟨M,0,none⟩) N N),(12,.slice (some ⟨g,0,none⟩) T ct),(13,I (tot+ca.tmod 1000)),(14,I bus),(15,.slice (some ⟨Cb,0,none⟩) N N),(16,.slice (some ⟨Eb,0,none⟩) N N),(17,.slice (some ⟨Qb,0,none⟩) N N),(18,.slice (some ⟨Nb,0,none⟩) N N),(19,I (i:Nat)),(20,Pt x 0),(21,I (t:Nat)),(22,I op),(144,I sop)] a'∧(w'.heap=v.heap∧w'.os=v.os∧w'.output=v.output)) a v:=by
 have ht':(t:Int)<(N:Int):=by omega
 have hc':(c:Int)<(L:Int):=by omega
 have hm1:-1000<ca.tmod 1000∧ca.tmod 1000<1000:=by
  have h1:=Int.tmod_lt_of_pos ca (show (0:Int)<1000 by omega)
  have h2:=Int.neg_tmod ca 1000▸Int.tmod_lt_of_pos (-ca) (show (0:Int)<1000 by omega)
  omega
 have h9:wrap64 (tot+ca.tmod 1000)=tot+ca.tmod 1000:=by unfold wrap64;omega
 clear hm1
 obtain ⟨hsz,hd,hp⟩:=hA
 obtain ⟨u,rfl,hg⟩:=litN hsz hd
 simp only [List.forall_mem_cons,hg] at hp
 obtain ⟨u1,u2,u9,u12,u13,u14,u15,u16,u17,u18,u19,u20,u21,u22,u144,-⟩:=hp
 clear hg hsz hd
 unfold q14_33 C14 Tryd.f14 seq1 seq2 condA condB blockC loopC
 simp only [Option.getD_some,lits,Nat.reduceAdd,u1,u2,u9,u12,u13,u14,u15,u16,u17,u18,u19,u20,u21,u22,u144]
 clear u1 u2 u9 u12 u13 u14 u15 u16 u17 u18 u19 u20 u21 u22 u144
 go_region
 all_goals exact ⟨⟨rfl,rfl,by
  intro p hp
  simp only [List.mem_cons,List.not_mem_nil,or_false] at hp
  rcases hp with rfl|rfl|rfl|rfl|rfl|rfl|rfl|rfl|rfl|rfl|rfl|rfl|rfl|rfl|rfl<;>first|rfl|exact congrArg I (by omega)|exact congrArg Value.bool (by simp<;>omega)|exact congrArg Value.bool (by simp)|(simp;done)⟩,rfl,rfl,rfl⟩
end Go.Proofs.YtfjjoohflcchnaaDoor.Gen
