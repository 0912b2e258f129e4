/- Of the proof of CounterTimes. Part 25 of 31. (Joined, by program, and written short, of: La14R.) -/
import Derived.Test.YtfjjoohflcchnaaDoorCounterTimes24
set_option linter.unusedSimpArgs false
set_option linter.unusedVariables false
set_option maxHeartbeats 4000000
set_option maxRecDepth 100000
namespace Go.Proofs.YtfjjoohflcchnaaDoor.Gen
open Go Go.Lift Go.Conc Go.RowKit
theorem newsL (w:World) (x:Value) (t:TypeId):∀ j u,[x][j]? = some u→(w.alloc (.cells #[x] t)).cell? ((⟨w.heap.size,0,none⟩:Addr).add j)=some u:=by
 intro j u hj
 have hb:(w.alloc (.cells #[x] t)).heap[w.heap.size]? = some (.cells #[x] t):=Array.getElem?_push_size
 exact World.news_of_block hb j u hj
def Put5 (Eb N k:Nat) (tv:Value) (n lo:Nat) (xs news:List Value) (w w':World):Prop :=
 ∃ g cap,(∀ f,w.rowIs Eb 22 N f→w'.rowIs Eb 22 N (fun j=>if j=k then .slice (some ⟨g,0,none⟩) (n+1) cap else f j)) ∧
   w'.ownsRow lo 3 1 (.slice (some ⟨g,0,none⟩) (n+1) cap) (n+1) (xs++news)∧(tv.ownBlock=some g∨w.heap.size≤g)∧Fr (fun b=>b=Eb∨some b=tv.ownBlock) w w'
theorem put5_of {Eb N k:Nat} {tv:Value} {n lo:Nat} {xs news:List Value} {w u w6:World} {g cap:Nat} (hb:Below w.heap.size w u) (hw:Eb<w.heap.size) (hg:u.grownBy w6 tv.ownBlock) (hown:w6.ownsRow lo 3 1 (.slice (some ⟨g,0,none⟩) (n+1) cap) (n+1) (xs++news))
 (hat:tv.ownBlock=some g∨g=u.heap.size) (hne:tv.ownBlock≠some Eb):Put5 Eb N k tv n lo xs news w (w6.setCell ⟨Eb,k,none⟩ (.slice (some ⟨g,0,none⟩) (n+1) cap)):=by
 have hgw:g≠Eb:=by
  rcases hat with h|h
  ·exact fun e=>hne (by rw [h,e])
  ·have:=hb.size;omega
 have e6:w6.heap[Eb]? = w.heap[Eb]?:=(hg.block Eb (Nat.lt_of_lt_of_le hw hb.size) (Ne.symm hne)).trans (hb.block Eb hw)
 refine ⟨g,cap,fun f h=>(h.of_block e6).set k _,own_set hown _ _ (fun e=>hgw (Option.some.inj e)),?_,?_⟩
 ·rcases hat with h|h
  ·exact .inl h
  ·exact .inr (by have:=hb.size;omega)
 ·refine ⟨by show w6.os=_;rw [hg.os,hb.os],by show w6.output=_;rw [hg.output,hb.output],?_,fun b hlt hs=>?_⟩
  ·have:=hb.size
   have:=hg.size
   simp only [World.setCell,Array.size_modify]
   omega
  ·rw [Below.heap_setCell _ _ _ _ (fun e=>hs (.inl e)),hg.block b (Nat.lt_of_lt_of_le hlt hb.size) (fun e=>hs (.inr e)),hb.block b hlt]
theorem keepB {u u':World} (hb:Below u.heap.size u u') {a:Addr} {x:Value} (h:u.cell? a=some x):u'.cell? a=some x:=kcell hb h
theorem p14_37 {v:World} {a:Act} {s N b o cap M:Nat} {tot bus:Int} {Cb Eb Qb Nb g T ct i:Nat} {x t:Nat} {op:Int} {sop:Int} {k:Nat} {n tc lo:Nat} {tp:Option Addr} {xs:List Value} (hk:k<N) (hS:v.cell? ⟨Eb,k,none⟩=some (.slice tp n tc)) (hf:v.frozen? ⟨Eb,k,none⟩=false) (hown:v.ownsRow lo 3 1 (.slice tp n tc) n xs) (hne:(Value.slice tp n tc).ownBlock≠some Eb) (hn:n≤1000000) (hlo:lo≤v.heap.size) (hA:Fl 267 [(1,I (s:Nat)),(2,.slice (some ⟨b,o,none⟩) N cap),(9,.slice (some ⟨M,0,none⟩) N N),(12,.slice (some ⟨g,0,none⟩) T ct),(13,I tot),(14,I bus),(15,.slice (some ⟨Cb,0,none⟩) N N),(16,.slice (some ⟨Eb,0,none⟩) N N),(17,.slice (some ⟨Qb,0,none⟩) N N),(18,.slice (some ⟨Nb,0,none⟩) N N),(19,I (i:Nat)),(20,Pt x 0),(21,I (t:Nat)),(22,I op),(144,I sop),(24,I (k:Nat))] a) :
 q14_37.wp Tryd.prog (fun e a' w'=>e=.normal∧Fl 267 [(1,I (s:Nat)),(2,.slice (some ⟨b,o,none⟩) N cap),(9,.slice (some ⟨M,0,none⟩) N N),(12,.slice (some ⟨g,0,none⟩) T ct),(13,I tot),(14,I bus),(15,.slice (some ⟨Cb,0,none⟩) N N),(16,.slice (some ⟨Eb,0,none⟩) N N),(17,.slice (some ⟨Qb,0,none⟩) N N),(18,.slice (some ⟨Nb,0,none⟩) N N),(19,I (i:Nat)),(20,Pt x 0),(21,I (t:Nat)),(22,I op),(144,I sop),(24,I (k:Nat))] a'∧Put5 Eb N k (.slice tp n tc) n lo xs [I tot] v w') a v:=by
 have hk':(k:Int)<(N:Int):=by omega
 have HO:Hid (v.ownsRow lo 3 1 (.slice tp n tc) n xs):=⟨hown⟩
 clear hown
 obtain ⟨j0,hj,hj0,hj1,hj2⟩:=info_parts info3m
 have q0:=World.block_lt_of_cell? _ _ hS
 simp only at q0
 obtain ⟨hsz,hd,hp⟩:=hA
 obtain ⟨u,rfl,hg⟩:=litN hsz hd
 simp only [List.forall_mem_cons,hg] at hp
 obtain ⟨u1,u2,u9,u12,u13,u14,u15,u16,u17,u18,u19,u20,u21,u22,u144,u24,-⟩:=hp
 clear hg hsz hd
 unfold q14_37 C14 Tryd.f14 seq1 seq2 condA condB blockC loopC
 simp only [Option.getD_some,lits,Nat.reduceAdd,u1,u2,u9,u12,u13,u14,u15,u16,u17,u18,u19,u20,u21,u22,u144,u24]
 clear u1 u2 u9 u12 u13 u14 u15 u16 u17 u18 u19 u20 u21 u22 u144 u24
 go_wp2_with (first
  |(refine wpList_append_lies _ rfl (.tmp 190) (.tmp 192) 22 rfl lo 3 j0 _ 1 8 Tryd.underlying22 hj hj0 hj1 hj2 rfl (by decide) (.slice tp n tc) n xs rfl (own_later (below_alloc (Below.refl _ _) _) (own_stay (fun _ _=>rfl) HO.out)) ⟨_,0,none⟩ 1 1 [I tot] rfl rfl (newsL _ _ _) (fun u hu=>by rw [List.mem_singleton] at hu;subst hu;rfl) (by decide) (by unfold maxLen;omega) (by omega) (by simp;omega) _ rfl ?_
    intro g2 cp2 w6 hown6 hgrow6 hat6 hlt6
    have k5:w6.cell? ⟨Eb,k,none⟩=some (.slice tp n tc):=by rw [hgrow6.cell_far _ (by simp;omega) (Ne.symm hne)];exact keepB (below_alloc (Below.refl _ v) _) hS
    have k6:w6.frozen? ⟨Eb,k,none⟩=false:=by rw [hgrow6.frozen_far _ (by simp;omega) (Ne.symm hne),Below.frozen (below_alloc (Below.refl _ v) _) q0];exact hf))
 first|exact ⟨⟨rfl,rfl,by
  intro p hp
  simp only [List.mem_cons,List.not_mem_nil,or_false] at hp
  rcases hp with rfl|rfl|rfl|rfl|rfl|rfl|rfl|rfl|rfl|rfl|rfl|rfl|rfl|rfl|rfl|rfl<;>first|rfl|exact congrArg I (by omega)|exact congrArg Value.bool (by simp<;>omega)|exact congrArg Value.bool (by simp)|(simp;done)⟩,put5_of (below_alloc (Below.refl _ _) _) q0 hgrow6 hown6 hat6 hne⟩|exact ⟨rfl,⟨rfl,rfl,by
  intro p hp
  simp only [List.mem_cons,List.not_mem_nil,or_false] at hp
  rcases hp with rfl|rfl|rfl|rfl|rfl|rfl|rfl|rfl|rfl|rfl|rfl|rfl|rfl|rfl|rfl|rfl<;>first|rfl|exact congrArg I (by omega)|exact congrArg Value.bool (by simp<;>omega)|exact congrArg Value.bool (by simp)|(simp;done)⟩,put5_of (below_alloc (Below.refl _ _) _) q0 hgrow6 hown6 hat6 hne⟩
theorem p14_51n {v:World} {a:Act} {s N b o cap M:Nat} {tot bus:Int} {Cb Eb Qb Nb g T ct i:Nat} {x t:Nat} {op:Int} {sop:Int} (h2:¬ op=2) (hA:Fl 267 [(1,I (s:Nat)),(2,.slice (some ⟨b,o,none⟩) N cap),(9,.slice (some ⟨M,0,none⟩) N N),(12,.slice (some ⟨g,0,none⟩) T ct),(13,I tot),(14,I bus),(15,.slice (some ⟨Cb,0,none⟩) N N),(16,.slice (some ⟨Eb,0,none⟩) N N),(17,.slice (some ⟨Qb,0,none⟩) N N),(18,.slice (some ⟨Nb,0,none⟩) N N),(19,I (i:Nat)),(20,Pt x 0),(21,I (t:Nat)),(22,I op),(144,I sop)] a) :
 q14_51.wp Tryd.prog (Nrm fun a' w'=>Fl 267 [(266,.bool false),(1,I (s:Nat)),(2,.slice (some ⟨b,o,none⟩) N cap),(9,.slice (some ⟨M,0,none⟩) N N),(12,.slice (some ⟨g,0,none⟩) T ct),(13,I tot),(14,I bus),(15,.slice (some ⟨Cb,0,none⟩) N N),(16,.slice (some ⟨Eb,0,none⟩) N N),(17,.slice (some ⟨Qb,0,none⟩) N N),(18,.slice (some ⟨Nb,0,none⟩) N N),(19,I (i:Nat)),(20,Pt x 0),(21,I (t:Nat)),(22,I op),(144,I sop)] a'∧(w'.heap=v.heap∧w'.os=v.os∧w'.output=v.output)) a v:=by
 have g2:(op==2)=false:=by simp [h2]
 obtain ⟨hsz,hd,hp⟩:=hA
 obtain ⟨u,rfl,hg⟩:=litN hsz hd
 simp only [List.forall_mem_cons,hg] at hp
 obtain ⟨u1,u2,u9,u12,u13,u14,u15,u16,u17,u18,u19,u20,u21,u22,u144,-⟩:=hp
 clear hg hsz hd
 unfold q14_51 C14 Tryd.f14 seq1 seq2 condA condB blockC loopC
 simp only [Option.getD_some,lits,Nat.reduceAdd,u1,u2,u9,u12,u13,u14,u15,u16,u17,u18,u19,u20,u21,u22,u144]
 clear u1 u2 u9 u12 u13 u14 u15 u16 u17 u18 u19 u20 u21 u22 u144
 go_region
 all_goals exact ⟨⟨rfl,rfl,by
  intro p hp
  simp only [List.mem_cons,List.not_mem_nil,or_false] at hp
  rcases hp with rfl|rfl|rfl|rfl|rfl|rfl|rfl|rfl|rfl|rfl|rfl|rfl|rfl|rfl|rfl|rfl<;>first|rfl|exact congrArg I (by omega)|exact congrArg Value.bool (by simp<;>omega)|exact congrArg Value.bool (by simp)|(simp;done)⟩,rfl,rfl,rfl⟩
end Go.Proofs.YtfjjoohflcchnaaDoor.Gen
