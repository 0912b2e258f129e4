/- Of the proof of StackVersions. Part 28 of 34. (Joined, by program, and written short, of: La9E, La9C.) -/
import Derived.Test.YtbbhahigofeacaaDoorStackVersions26
import Derived.Test.YtbbhahigofeacaaDoorStackVersions27
set_option linter.unusedSimpArgs false
set_option linter.unusedVariables false
set_option maxHeartbeats 4000000
set_option maxRecDepth 100000
namespace Go.Proofs.YtbbhahigofeacaaDoor.Gen
open Go Go.Lift Go.Conc Go.RowKit
theorem p9_23e {v:World} {a:Act} {b o cap N sk ck T ct i ch:Nat} {hd now:Int} {p:Option Addr} {x:Nat} {s:Stp} {c1:Nat} (c0:v.cell? ⟨x,0,none⟩=some (I s.th)) (k:Nat) (hk:s.th=(k:Int)) (hkN:k<N) (e2:v.cell? ⟨ck,k,none⟩=some (I (c1:Nat))) (hd2:¬ ((c1:Int)=(ch:Int))) (hA:Fl 156 [(2,.slice (some ⟨b,o,none⟩) N cap),(11,.slice p T ct),(12,I hd),(13,I now),(14,I (ch:Nat)),(15,.slice (some ⟨sk,0,none⟩) N N),(16,.slice (some ⟨ck,0,none⟩) N N),(17,I (i:Nat)),(18,Pt x 0),(19,.bool false)] a) :
 q9_23.wp Tryd.prog (fun e a' w'=>e=.normal∧(Fl 156 [(150,.bool false),(2,.slice (some ⟨b,o,none⟩) N cap),(11,.slice p T ct),(12,I hd),(13,I now),(14,I (ch:Nat)),(15,.slice (some ⟨sk,0,none⟩) N N),(16,.slice (some ⟨ck,0,none⟩) N N),(17,I (i:Nat)),(18,Pt x 0),(19,.bool false)] a'∧∃ m,w'=v.drewN m)) a v:=by
 rw [hk] at c0
 have hkN2:(k:Int)<(N:Int):=by omega
 have hd3:((c1:Int)==(ch:Int))=false:=by simpa using hd2
 have hd4:decide ((c1:Int)=(ch:Int))=false:=decide_eq_false hd2
 obtain ⟨u,rfl,hp⟩:=litF hA
 simp only [Fls] at hp
 clear hA
 unfold q9_23 C9 Tryd.f9 seq1 seq2 blockC loopC
 simp only [Option.getD_some,lits,Nat.reduceAdd,hp]
 clear hp
 go_wp2_with fail
 go_quiet (fail)
 first
  |refine ⟨?_,⟨_,rfl⟩⟩
  |refine ⟨rfl,?_,⟨_,rfl⟩⟩
  |skip
 exact ⟨rfl,rfl,by
  intro p hp
  simp only [List.mem_cons,List.not_mem_nil,or_false] at hp
  rcases hp with rfl|rfl|rfl|rfl|rfl|rfl|rfl|rfl|rfl|rfl|rfl<;>first|rfl|exact congrArg I (by omega)|exact congrArg Value.bool (by simp<;>omega)|exact congrArg Value.bool (by simp)|(simp;done)⟩
end Go.Proofs.YtbbhahigofeacaaDoor.Gen
namespace Go.Proofs.YtbbhahigofeacaaDoor.Gen
open Go Go.Lift Go.Conc Go.RowKit
open Go.ConcN (upd upd_same upd_ne)
theorem upd_if {α β:Type} (F:α→β) (h:Nat→α) (k i:Nat) (y:α):(if i=k then F y else F (h i))=F (upd h k y i):=by
 by_cases e:i=k
 ·subst e
  rw [if_pos rfl,upd_same]
 ·rw [if_neg e,upd_ne _ _ e]
structure M9 (v0:World) (g sk ck N:Nat) (L:List Stp) (r:VR) (w:World):Prop where
 kq:Kq v0.heap.size v0 w
 tr:∀ (j:Nat) (x:Value),(flat L)[j]? = some x→w.cell? ⟨g,j,none⟩=some x
 se:w.rowIs sk 3 N (fun k=>I (r.seen k))
 cd:w.rowIs ck 3 N (fun k=>I ((r.chd k:Nat):Int))
 ne:sk≠ck∧(L≠[]→g≠sk∧g≠ck)∧v0.heap.size≤sk∧v0.heap.size≤ck
section
variable {v0 w w':World} {g sk ck N:Nat} {L:List Stp} {r:VR}
theorem M9.go (h:M9 v0 g sk ck N L r w) (k:Kq w.heap.size w w'):M9 v0 g sk ck N L r w' :=
 ⟨h.kq.trans (k.le h.kq.size),fun j x hx=>k.cell (h.tr j x hx) (World.block_lt_of_cell? _ _ (h.tr j x hx)),h.se.of_block (k.old _ h.se.lt),h.cd.of_block (k.old _ h.cd.lt),h.ne⟩
theorem flat_ne {j:Nat} {x:Value} (h:(flat L)[j]? = some x):L≠[]:=fun e=>by rw [e] at h;simp [flat] at h
theorem M9.see (h:M9 v0 g sk ck N L r w) (k:Nat) (y:Int):M9 v0 g sk ck N L ⟨r.now,r.ch,upd r.seen k y,r.chd⟩ (w.setCell ⟨sk,k,none⟩ (I y)) :=
 ⟨h.kq.trans (Kq.set _ h.ne.2.2.1),fun j x hx=>by rw [World.cell?_of_block (w:=w) (Below.heap_setCell _ _ _ _ (h.ne.2.1 (flat_ne hx)).1)];exact h.tr j x hx,(h.se.set k (I y)).congr (fun i _=>upd_if (fun z=>I z) r.seen k i y),h.cd.setOther (fun e=>h.ne.1 e.symm) _,h.ne⟩
theorem M9.cdd (h:M9 v0 g sk ck N L r w) (k c:Nat):M9 v0 g sk ck N L ⟨r.now,r.ch,r.seen,upd r.chd k c⟩ (w.setCell ⟨ck,k,none⟩ (I ((c:Nat):Int))) :=
 ⟨h.kq.trans (Kq.set _ h.ne.2.2.2),fun j x hx=>by rw [World.cell?_of_block (w:=w) (Below.heap_setCell _ _ _ _ (h.ne.2.1 (flat_ne hx)).2)];exact h.tr j x hx,h.se.setOther h.ne.1 _,(h.cd.set k (I ((c:Nat):Int))).congr (fun i _=>upd_if (fun z:Nat=>I (z:Int)) r.chd k i c),h.ne⟩
theorem M9.cnt (h:M9 v0 g sk ck N L r w) (a:Int) (c:Nat):M9 v0 g sk ck N L ⟨a,c,r.seen,r.chd⟩ w:=⟨h.kq,h.tr,h.se,h.cd,h.ne⟩
end
theorem kq_alloc (w:World) (o:Obj):Kq w.heap.size w (w.alloc o):=Kq.alloc o (Nat.le_refl _)
theorem kq_drew (w:World) (m:Nat):Kq w.heap.size w (w.drewN m):=Kq.same rfl rfl rfl
theorem step9 {v0 w:World} {n N b o cap T ct g sk ck i:Nat} {L:List Stp} {r:VR} {s:Stp} {p:Option Addr} {a:Act} (hi:i<T) (hiT:T≤400000) (hp:p=some ⟨g,0,none⟩) (hs:L[i]? = some s) (hv:vok (hdJ n) N r s) (hch:r.ch≤i) (hM:M9 v0 g sk ck N L r w) (hA:Fl 156 [(2,.slice (some ⟨b,o,none⟩) N cap),(11,.slice p T ct),(12,I (hdJ n:Nat)),(13,I (r.now)),(14,I (r.ch:Nat)),(15,.slice (some ⟨sk,0,none⟩) N N),(16,.slice (some ⟨ck,0,none⟩) N N),(17,I (i:Nat))] a) {Q:Exit→Act→World→Prop}
 (hQ:∀ a' w',Fl 156 [(2,.slice (some ⟨b,o,none⟩) N cap),(11,.slice p T ct),(12,I (hdJ n:Nat)),(13,I ((vstep (hdJ n) r s).now)),(14,I ((vstep (hdJ n) r s).ch:Nat)),(15,.slice (some ⟨sk,0,none⟩) N N),(16,.slice (some ⟨ck,0,none⟩) N N),(17,I (i:Nat))] a'→M9 v0 g sk ck N L (vstep (hdJ n) r s) w'→Q .normal a' w'):(Code.block 1 K9_1).wp Tryd.prog Q a w:=by
 have hb:∀ a' w',Fl 156 [(2,.slice (some ⟨b,o,none⟩) N cap),(11,.slice p T ct),(12,I (hdJ n:Nat)),(13,I ((vstep (hdJ n) r s).now)),(14,I ((vstep (hdJ n) r s).ch:Nat)),(15,.slice (some ⟨sk,0,none⟩) N N),(16,.slice (some ⟨ck,0,none⟩) N N),(17,I (i:Nat))] a'→M9 v0 g sk ck N L (vstep (hdJ n) r s) w'→Exit.inBlock 1 Q .normal a' w'∧Exit.inBlock 1 Q (.exit 1) a' w':=fun a' w' h1 h2=>⟨hQ a' w' h1 h2,by show Q .normal a' w';exact hQ a' w' h1 h2⟩
 refine wp_block ?_
 unfold K9_1
 obtain ⟨f0,f1,f2,f3,f4⟩:=flat_get L i s hs
 refine wp_then (p9_15 s hi hp (hM.tr _ _ f0) (hM.tr _ _ f1) (hM.tr _ _ f2) (hM.tr _ _ f3) (hM.tr _ _ f4) hA) fun a1 w1 h=>?_
 obtain ⟨h1,hw1⟩:=h
 have hc:∀ (k:Nat) (y:Value),#[I s.th,I s.ce,I s.op,I s.ol,I s.ne][k]? = some y→w1.cell? ⟨w.heap.size,k,none⟩=some y:=fun k y hy=>by
  rw [hw1];exact cell_of (v:=w.alloc (.cells #[I s.th,I s.ce,I s.op,I s.ol,I s.ne] 38)) (b:=w.heap.size) (by show (w.heap.push _)[w.heap.size]? = _;simp;exact ⟨rfl,rfl⟩) hy
 have hM1:M9 v0 g sk ck N L r w1:=hM.go (by rw [hw1];exact kq_alloc _ _)
 have hxs:w.heap.size≠sk∧w.heap.size≠ck:=⟨by have:=hM.se.lt;omega,by have:=hM.cd.lt;omega⟩
 clear hw1 hM
 generalize w.heap.size=x at *
 have c0:=hc 0 _ rfl
 have c1:=hc 1 _ rfl
 have c2:=hc 2 _ rfl
 have c3:=hc 3 _ rfl
 have c4:=hc 4 _ rfl
 clear hc
 by_cases he:s.ce=(hdJ n:Int)
 ·by_cases ho:s.op≤5
  ·obtain ⟨v1,v2,v3,v4⟩:=hv he ho
   obtain ⟨k,hk⟩:∃ k:Nat,s.th=(k:Int):=⟨s.th.toNat,by omega⟩
   have hkN:k<N:=by omega
   have hkt:s.th.toNat=k:=by rw [hk];exact Int.toNat_natCast k
   refine wp_seq ?_
   refine wp_then (p9_16n c0 c1 c2 c3 c4 he ho h1) fun a2 w2 h=>?_
   obtain ⟨h2,rfl⟩:=h
   refine wp_cond_false (h2.hf rfl) (wp_skip ?_)
   show Code.wp _ _ _ _ _
   refine wp_seq ?_
   refine wp_then (p9_17 c0 c1 c2 c3 c4 v1 v2 v3 (v4.imp_right (·.1)) h2.tl) fun a3 w3 h=>?_
   obtain ⟨h3,rfl⟩:=h
   refine wp_cond_false (h3.hf rfl) (wp_skip ?_)
   show Code.wp _ _ _ _ _
   refine wp_seq ?_
   refine wp_then (p9_19 c0 c1 c2 c3 c4 h3.tl) fun a4 w4 h=>?_
   obtain ⟨h4,rfl⟩:=h
   by_cases h1o:s.op=1
   ·refine wp_cond_true (h4.hd (by simp [h1o])) ?_
    refine wp_then (p9_20 c0 c1 c2 c3 c4 k hk hkN (hM1.se.frozen k) (hM1.se.cell hkN) h4.tl) fun a5 w5 h=>?_
    obtain ⟨h5,hw5⟩:=h
    have hM5:=hM1.see k s.ne
    rw [←hw5] at hM5
    have oth:∀ a:Addr,a.block=x→w5.cell? a=w4.cell? a:=fun a ha=>by rw [hw5];exact World.cell?_of_block (Below.heap_setCell _ _ _ _ (by rw [ha];exact hxs.1))
    clear hw5
    refine wp_then (p9_21 (by rw [oth _ rfl];exact c0) (by rw [oth _ rfl];exact c1) (by rw [oth _ rfl];exact c2) (by rw [oth _ rfl];exact c3) (by rw [oth _ rfl];exact c4) k hk hkN (hM5.cd.frozen k) (hM5.cd.cell hkN) h5) fun a6 w6 h=>?_
    obtain ⟨h6,hw6⟩:=h
    have hM6:=hM5.cdd k r.ch
    have e1:vstep (hdJ n) r s=⟨r.now,r.ch,upd r.seen k s.ne,upd r.chd k r.ch⟩:=by unfold vstep;rw [if_pos ⟨he,ho⟩,if_pos h1o,hkt]
    refine wp_exit ((hb a6 w6 ?_ ?_).2)
    ·rw [e1];exact h6.sub (by simp)
    ·rw [e1,hw6];exact hM6
   ·obtain ⟨o4,hiff,hdn⟩:=v4.resolve_left h1o
    refine wp_cond_false (h4.hf (by simp [h1o])) (wp_skip ?_)
    show Code.wp _ _ _ _ _
    refine wp_then (p9_22 c0 c1 c2 c3 c4 h4.tl) fun a5 w5 h=>?_
    obtain ⟨h5,rfl⟩:=h
    refine wp_seq ?_
    rw [hkt] at hiff hdn
    by_cases hd:s.ol=s.ne
    ·have e1:vstep (hdJ n) r s=⟨s.ne,r.ch,r.seen,r.chd⟩:=by unfold vstep;rw [if_pos ⟨he,ho⟩,if_neg h1o,if_pos hd]
     have hcc:¬ (r.chd k=r.ch):=fun e=>(hiff.2 e) hd
     have hz:decide (s.ol≠s.ne)=false:=by simp [hd]
     rw [hz] at h5
     refine wp_then (p9_23e c0 k hk hkN (hM1.cd.cell hkN) (by omega) h5) fun a6 w6 h=>?_
     obtain ⟨h6,m,rfl⟩:=h
     have hM6:=hM1.go (kq_drew _ m)
     refine wp_cond_false (h6.hf rfl) (wp_skip ?_)
     show Code.wp _ _ _ _ _
     refine wp_seq ?_
     have h6t:=h6.tl
     rw [←hz] at h6t
     refine wp_then (p9_25 h6t) fun a7 w7 h=>?_
     obtain ⟨h7,rfl⟩:=h
     refine wp_cond_false (h7.hf hz) (wp_skip ?_)
     show Code.wp _ _ _ _ _
     have h7':Fl 156 [(2,.slice (some ⟨b,o,none⟩) N cap),(11,.slice p T ct),(12,I (hdJ n:Nat)),(13,I (r.now)),(14,I (r.ch:Nat)),(15,.slice (some ⟨sk,0,none⟩) N N),(16,.slice (some ⟨ck,0,none⟩) N N),(17,I (i:Nat)),(18,Pt x 0)] a7:=h7.sub (by simp)
     refine wp_last (p9_27 (x:=x) (s:=s) c0 c1 c2 c3 c4 h7') fun a8 w8 h=>?_
     obtain ⟨h8,rfl⟩:=h
     refine (hb a8 _ ?_ ?_).1
     ·rw [e1];exact h8
     ·rw [e1];exact hM6.cnt _ _
    ·have e1:vstep (hdJ n) r s=⟨s.ne,r.ch+1,r.seen,r.chd⟩:=by unfold vstep;rw [if_pos ⟨he,ho⟩,if_neg h1o,if_neg hd]
     obtain ⟨d1,d2,d3,d4⟩:=hdn hd
     have hz:decide (s.ol≠s.ne)=true:=by simp [hd]
     have hwr:IntKind.i64.wrap (sh s.ol+1)=sh s.ol+1:=by unfold sh;rw [IntKind.wrap_i64];omega
     refine wp_then (p9_23d c0 c1 c2 c3 c4 k hk hkN (hM1.se.cell hkN) (hM1.cd.cell hkN) hd (hiff.1 hd) d1 hwr d2 h5) fun a6 w6 h=>?_
     obtain ⟨h6,m,rfl⟩:=h
     have hM6:=hM1.go (kq_drew _ m)
     refine wp_cond_false (h6.hf rfl) (wp_skip ?_)
     show Code.wp _ _ _ _ _
     refine wp_seq ?_
     refine wp_then (p9_25 h6.tl) fun a7 w7 h=>?_
     obtain ⟨h7,rfl⟩:=h
     refine wp_cond_true (h7.hd hz) ?_
     refine wp_last (p9_26 (by omega) h7.tl) fun a8 w8 h=>?_
     obtain ⟨h8,rfl⟩:=h
     show Code.wp _ _ _ _ _
     have h8':Fl 156 [(2,.slice (some ⟨b,o,none⟩) N cap),(11,.slice p T ct),(12,I (hdJ n:Nat)),(13,I (r.now)),(14,I (r.ch+1:Nat)),(15,.slice (some ⟨sk,0,none⟩) N N),(16,.slice (some ⟨ck,0,none⟩) N N),(17,I (i:Nat)),(18,Pt x 0)] a8:=h8.sub (by simp)
     refine wp_last (p9_27 (x:=x) (s:=s) c0 c1 c2 c3 c4 h8') fun a9 w9 h=>?_
     obtain ⟨h9,rfl⟩:=h
     refine (hb a9 _ ?_ ?_).1
     ·rw [e1];exact h9
     ·rw [e1];exact hM6.cnt _ _
  ·have e1:vstep (hdJ n) r s=r:=by unfold vstep;rw [if_neg (fun h=>ho h.2)]
   refine wp_seq ?_
   refine wp_then (p9_16b c0 c1 c2 c3 c4 he (by omega) h1) fun a2 w2 h=>?_
   obtain ⟨h2,rfl⟩:=h
   refine wp_cond_true (h2.hd rfl) (wp_exit ((hb a2 w2 ?_ ?_).2))
   ·rw [e1];exact h2.sub (by simp)
   ·rw [e1];exact hM1
 ·have e1:vstep (hdJ n) r s=r:=vstep_far he
  refine wp_seq ?_
  refine wp_then (p9_16a c0 c1 c2 c3 c4 he h1) fun a2 w2 h=>?_
  obtain ⟨h2,rfl⟩:=h
  refine wp_cond_true (h2.hd rfl) (wp_exit ((hb a2 w2 ?_ ?_).2))
  ·rw [e1];exact h2.sub (by simp)
  ·rw [e1];exact hM1
end Go.Proofs.YtbbhahigofeacaaDoor.Gen
