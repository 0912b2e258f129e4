/- Of the proof of OnceOnce. Part 32 of 35. (Joined, by program, and written short, of: S13Q, S13a, S13b, S13c, S13d, GIns, GWb.) -/
import Derived.Test.YtaofjdoielmobaaDoorOnceOnce12
import Derived.Test.YtaofjdoielmobaaDoorOnceOnce17
import Derived.Test.YtaofjdoielmobaaDoorOnceOnce20
import Derived.Test.YtaofjdoielmobaaDoorOnceOnce31
set_option linter.unusedSimpArgs false
set_option linter.unusedVariables false
set_option maxHeartbeats 4000000
set_option maxRecDepth 100000
namespace Go.Proofs.YtaofjdoielmobaaDoor.Gen
open Go Go.Lift Go.Conc Go.RowKit
theorem p13_23 {v:World} {a:Act} {g T ct m b o N cap Sb Eb Lb Cb Wb i:Nat} {x:Nat} {t:Nat} {op:Int} {k L cc:Nat} {tp:Option Addr} (ht:t<N) (c3:v.cell? ⟨x,3,none⟩=some (I (k:Nat))) (d:v.cell? ⟨b,o+t,none⟩=some (.slice tp L cc)) (hk:k<L) (hA:Fl 173 [(0,.slice (some ⟨g,0,none⟩) T ct),(1,I (m:Nat)),(2,.slice (some ⟨b,o,none⟩) N cap),(7,.slice (some ⟨Sb,0,none⟩) m m),(8,.slice (some ⟨Eb,0,none⟩) m m),(9,.slice (some ⟨Lb,0,none⟩) N N),(10,.slice (some ⟨Cb,0,none⟩) N N),(11,.slice (some ⟨Wb,0,none⟩) N N),(12,I (i:Nat)),(13,Pt x 0),(14,I (t:Nat)),(53,I op)] a) :
 q13_23.wp Tryd.prog (Nrm fun a' w'=>Fl 173 [(115,.bool false),(0,.slice (some ⟨g,0,none⟩) T ct),(1,I (m:Nat)),(2,.slice (some ⟨b,o,none⟩) N cap),(7,.slice (some ⟨Sb,0,none⟩) m m),(8,.slice (some ⟨Eb,0,none⟩) m m),(9,.slice (some ⟨Lb,0,none⟩) N N),(10,.slice (some ⟨Cb,0,none⟩) N N),(11,.slice (some ⟨Wb,0,none⟩) N N),(12,I (i:Nat)),(13,Pt x 0),(14,I (t:Nat)),(53,I op)] a'∧(w'.heap=v.heap∧w'.os=v.os∧w'.output=v.output)) a v:=by
 have ht':(t:Int)<(N:Int):=by omega
 have h1:¬ (k:Int)<0:=by omega
 have h2:¬ (k:Int)≥(L:Int):=by omega
 obtain ⟨hsz,hd,hp⟩:=hA
 obtain ⟨u,rfl,hg⟩:=litN hsz hd
 simp only [List.forall_mem_cons,hg] at hp
 obtain ⟨u0,u1,u2,u7,u8,u9,u10,u11,u12,u13,u14,u53,-⟩:=hp
 clear hg hsz hd
 unfold q13_23 C13 Tryd.f13 seq1 seq2 condA blockC loopC
 simp only [Option.getD_some,lits,Nat.reduceAdd,u0,u1,u2,u7,u8,u9,u10,u11,u12,u13,u14,u53]
 clear u0 u1 u2 u7 u8 u9 u10 u11 u12 u13 u14 u53
 go_region
 all_goals exact ⟨⟨rfl,rfl,by
  intro p hp
  simp only [List.mem_cons,List.not_mem_nil,or_false] at hp
  rcases hp with rfl|rfl|rfl|rfl|rfl|rfl|rfl|rfl|rfl|rfl|rfl|rfl|rfl<;>first|rfl|exact congrArg I (by omega)|exact congrArg Value.bool (by simp<;>omega)|exact congrArg Value.bool (by simp)|(simp;done)⟩,rfl,rfl,rfl⟩
theorem p13_25 {v:World} {a:Act} {g T ct m b o N cap Sb Eb Lb Cb Wb i:Nat} {x:Nat} {t:Nat} {op:Int} {k L cc rb ro:Nat} {po ca cb c4:Int} (ht:t<N) (c3:v.cell? ⟨x,3,none⟩=some (I (k:Nat))) (d:v.cell? ⟨b,o+t,none⟩=some (.slice (some ⟨rb,ro,none⟩) L cc)) (hk:k<L) (d0:v.cell? ⟨rb,ro+k*4,none⟩=some (I po)) (d1:v.cell? ⟨rb,ro+k*4+1,none⟩=some (I ca)) (d2:v.cell? ⟨rb,ro+k*4+2,none⟩=some (I cb)) (d3:v.cell? ⟨rb,ro+k*4+3,none⟩=some (I c4)) (hA:Fl 173 [(0,.slice (some ⟨g,0,none⟩) T ct),(1,I (m:Nat)),(2,.slice (some ⟨b,o,none⟩) N cap),(7,.slice (some ⟨Sb,0,none⟩) m m),(8,.slice (some ⟨Eb,0,none⟩) m m),(9,.slice (some ⟨Lb,0,none⟩) N N),(10,.slice (some ⟨Cb,0,none⟩) N N),(11,.slice (some ⟨Wb,0,none⟩) N N),(12,I (i:Nat)),(13,Pt x 0),(14,I (t:Nat)),(53,I op)] a) :
 q13_25.wp Tryd.prog (Nrm fun a' w'=>Fl 173 [(0,.slice (some ⟨g,0,none⟩) T ct),(1,I (m:Nat)),(2,.slice (some ⟨b,o,none⟩) N cap),(7,.slice (some ⟨Sb,0,none⟩) m m),(8,.slice (some ⟨Eb,0,none⟩) m m),(9,.slice (some ⟨Lb,0,none⟩) N N),(10,.slice (some ⟨Cb,0,none⟩) N N),(11,.slice (some ⟨Wb,0,none⟩) N N),(12,I (i:Nat)),(13,Pt x 0),(14,I (t:Nat)),(53,I op),(15,Pt v.heap.size 0)] a'∧(w'.heap=(v.alloc (.cells #[I po,I ca,I cb,I c4] 35)).heap∧w'.os=v.os∧w'.output=v.output)) a v:=by
 have ht':(t:Int)<(N:Int):=by omega
 have zc:∀ a X,v.cell? a=some X→(v.alloc (.cells #[I 0,I 0,I 0,I 0] 35)).cell? a=some X:=fun a X h=>by
  rw [World.cell?_of_block (w:=v) (w':=(v.alloc (.cells #[I 0,I 0,I 0,I 0] 35))) (by show (v.heap.push _)[a.block]? = _;rw [Array.getElem?_push,if_neg (by have:=World.block_lt_of_cell? _ _ h;omega)])];exact h
 have z1:=zc _ _ c3
 have z2:=zc _ _ d
 have z3:=zc _ _ d0
 have z4:=zc _ _ d1
 have z5:=zc _ _ d2
 have z6:=zc _ _ d3
 clear zc
 have hk':(k:Int)<(L:Int):=by omega
 obtain ⟨hsz,hd,hp⟩:=hA
 obtain ⟨u,rfl,hg⟩:=litN hsz hd
 simp only [List.forall_mem_cons,hg] at hp
 obtain ⟨u0,u1,u2,u7,u8,u9,u10,u11,u12,u13,u14,u53,-⟩:=hp
 clear hg hsz hd
 unfold q13_25 C13 Tryd.f13 seq1 seq2 condA blockC loopC
 simp only [Option.getD_some,lits,Nat.reduceAdd,u0,u1,u2,u7,u8,u9,u10,u11,u12,u13,u14,u53]
 clear u0 u1 u2 u7 u8 u9 u10 u11 u12 u13 u14 u53
 go_region
 all_goals exact ⟨⟨rfl,rfl,by
  intro p hp
  simp only [List.mem_cons,List.not_mem_nil,or_false] at hp
  rcases hp with rfl|rfl|rfl|rfl|rfl|rfl|rfl|rfl|rfl|rfl|rfl|rfl|rfl<;>first|rfl|exact congrArg I (by omega)|exact congrArg Value.bool (by simp<;>omega)|exact congrArg Value.bool (by simp)|(simp;done)⟩,rfl,rfl,rfl⟩
end Go.Proofs.YtaofjdoielmobaaDoor.Gen
namespace Go.Proofs.YtaofjdoielmobaaDoor.Gen
open Go Go.Lift Go.Conc Go.RowKit
open Go.ConcN (upd upd_same upd_ne)
theorem StsO.at {N m:Nat} {cl:Nat→List Cl}:∀ {L:List Stp} {r:Ro},StsO N m cl r L→∀ j s,L[j]? = some s→StO N m cl ((L.take j).foldl (rsO m cl) r) s
 |x :: L,r,h,0,s,hs=>by obtain rfl:x=s:=by simpa using hs
                        exact h.1
 |x :: L,r,h,j+1,s,hs=>StsO.at h.2 j s (by simpa using hs)
theorem rsO_le (m:Nat) (cl:Nat→List Cl) (r:Ro) (s:Stp) (n:Nat) (h:∀ t,r.co t≤n∧r.wr t≤n∧r.st t≤n) (t:Nat):(rsO m cl r s).co t≤n+1∧(rsO m cl r s).wr t≤n+1∧(rsO m cl r s).st t≤n+1:=by
 have hu:∀ (f:Nat→Nat) (k x:Nat),(∀ t,f t≤n)→x≤n+1→upd f k x t≤n+1:=fun f k x hf hx=>by
  by_cases e:t=k
  ·subst e;rw [upd_same];exact hx
  ·rw [upd_ne _ _ e];exact Nat.le_succ_of_le (hf t)
 have h0:r.co t≤n+1∧r.wr t≤n+1∧r.st t≤n+1:=⟨Nat.le_succ_of_le (h t).1,Nat.le_succ_of_le (h t).2.1,Nat.le_succ_of_le (h t).2.2⟩
 unfold rsO
 split
 ·split
  ·split
   ·exact ⟨hu _ _ _ (fun t=>(h t).1) (Nat.zero_le _),hu _ _ _ (fun t=>(h t).2.1) (Nat.zero_le _),h0.2.2⟩
   ·exact h0
  ·exact h0
 ·split
  ·split
   ·split
    ·exact h0
    ·exact h0
   ·exact h0
  ·refine ⟨hu _ _ _ (fun t=>(h t).1) (Nat.succ_le_succ (h _).1),?_,?_⟩
   ·show (if _ then _ else _:Nat→Nat) t≤_
    split
    ·exact h0.2.1
    ·exact hu _ _ _ (fun t=>(h t).2.1) (Nat.succ_le_succ (h _).2.1)
   ·show (if _ then _ else _:Nat→Nat) t≤_
    split
    ·exact hu _ _ _ (fun t=>(h t).2.2) (Nat.succ_le_succ (h _).2.2)
    ·exact h0.2.2
theorem repO_le (m:Nat) (cl:Nat→List Cl):∀ (L:List Stp) (r:Ro) (n:Nat),(∀ t,r.co t≤n∧r.wr t≤n∧r.st t≤n)→∀ t,(L.foldl (rsO m cl) r).co t≤n+L.length∧(L.foldl (rsO m cl) r).wr t≤n+L.length∧(L.foldl (rsO m cl) r).st t≤n+L.length
 | [],r,n,h,t=>h t
 |s :: L,r,n,h,t=>by
  have:=repO_le m cl L (rsO m cl r s) (n+1) (fun t=>rsO_le m cl r s n h t) t
  rw [List.foldl_cons,List.length_cons]
  omega
structure M13 (m N B:Nat) (r:Ro) (u:World):Prop where
 s:u.rowIs B 3 m (fun o=>I ((r.st o:Nat):Int))
 e:u.rowIs (B+1) 4 m (fun o=>.bool (r.en o))
 l:u.rowIs (B+2) 4 N (fun t=>.bool (r.la t))
 c:u.rowIs (B+3) 3 N (fun t=>I ((r.co t:Nat):Int))
 w:u.rowIs (B+4) 3 N (fun t=>I ((r.wr t:Nat):Int))
section
variable {m N B:Nat} {r:Ro} {u u':World}
theorem M13.same (h:M13 m N B r u) (e:u'.heap=u.heap):M13 m N B r u':=⟨h.s.of_block (by rw [e]),h.e.of_block (by rw [e]),h.l.of_block (by rw [e]),h.c.of_block (by rw [e]),h.w.of_block (by rw [e])⟩
theorem M13.alloc (h:M13 m N B r u) (o:Obj):M13 m N B r (u.alloc o):=⟨h.s.alloc o,h.e.alloc o,h.l.alloc o,h.c.alloc o,h.w.alloc o⟩
theorem upd_row {α:Type} (f:Nat→α) (k:Nat) (x:α) (g:α→Value) (i:Nat):(if i=k then g x else g (f i))=g (upd f k x i):=by
 by_cases e:i=k
 ·subst e;rw [if_pos rfl,upd_same]
 ·rw [if_neg e,upd_ne _ _ e]
theorem M13.setS (h:M13 m N B r u) (k x:Nat):M13 m N B { r with st:=upd r.st k x } (u.setCell ⟨B,k,none⟩ (I (x:Int))):=⟨(h.s.set k _).congr fun i _=>upd_row r.st k x (fun y=>I ((y:Nat):Int)) i,h.e.setOther (by show B+1≠B;omega) _,h.l.setOther (by show B+2≠B;omega) _,h.c.setOther (by show B+3≠B;omega) _,h.w.setOther (by show B+4≠B;omega) _⟩
theorem M13.setE (h:M13 m N B r u) (k:Nat) (x:Bool):M13 m N B { r with en:=upd r.en k x } (u.setCell ⟨B+1,k,none⟩ (.bool x)):=⟨h.s.setOther (by show B≠B+1;omega) _,(h.e.set k _).congr fun i _=>upd_row r.en k x Value.bool i,h.l.setOther (by show B+2≠B+1;omega) _,h.c.setOther (by show B+3≠B+1;omega) _,h.w.setOther (by show B+4≠B+1;omega) _⟩
theorem M13.setL (h:M13 m N B r u) (k:Nat) (x:Bool):M13 m N B { r with la:=upd r.la k x } (u.setCell ⟨B+2,k,none⟩ (.bool x)):=⟨h.s.setOther (by show B≠B+2;omega) _,h.e.setOther (by show B+1≠B+2;omega) _,(h.l.set k _).congr fun i _=>upd_row r.la k x Value.bool i,h.c.setOther (by show B+3≠B+2;omega) _,h.w.setOther (by show B+4≠B+2;omega) _⟩
theorem M13.setC (h:M13 m N B r u) (k x:Nat):M13 m N B { r with co:=upd r.co k x } (u.setCell ⟨B+3,k,none⟩ (I (x:Int))):=⟨h.s.setOther (by show B≠B+3;omega) _,h.e.setOther (by show B+1≠B+3;omega) _,h.l.setOther (by show B+2≠B+3;omega) _,(h.c.set k _).congr fun i _=>upd_row r.co k x (fun y=>I ((y:Nat):Int)) i,h.w.setOther (by show B+4≠B+3;omega) _⟩
theorem M13.setW (h:M13 m N B r u) (k x:Nat):M13 m N B { r with wr:=upd r.wr k x } (u.setCell ⟨B+4,k,none⟩ (I (x:Int))):=⟨h.s.setOther (by show B≠B+4;omega) _,h.e.setOther (by show B+1≠B+4;omega) _,h.l.setOther (by show B+2≠B+4;omega) _,h.c.setOther (by show B+3≠B+4;omega) _,(h.w.set k _).congr fun i _=>upd_row r.wr k x (fun y=>I ((y:Nat):Int)) i⟩
end
def arrS (s:Stp):Array Value:=#[I s.th,I s.ce,I s.op,I s.ol,I s.ne]
structure R13 (m N B x g:Nat) (L:List Stp) (v0:World) (s:Stp) (r:Ro) (u:World):Prop where
 mem:M13 m N B r u
 stp:∀ (i:Nat) (y:Value),(arrS s)[i]? = some y→u.cell? ⟨x,i,none⟩=some y
 tr:∀ j y,(flat L)[j]? = some y→u.cell? ⟨g,j,none⟩=some y
 kq:Kq v0.heap.size v0 u
 far:B+4<x∧v0.heap.size≤B∧(∀ k,k≤4→g≠B+k)
section
variable {m N B x g:Nat} {L:List Stp} {v0:World} {s:Stp} {r r':Ro} {u u':World}
theorem R13.kqs (h:R13 m N B x g L v0 s r u) {k:Nat} (hk:k≤4) (i:Nat) (y:Value) (hm:M13 m N B r' (u.setCell ⟨B+k,i,none⟩ y)):R13 m N B x g L v0 s r' (u.setCell ⟨B+k,i,none⟩ y):=by
 obtain ⟨f1,f2,f3⟩:=h.far
 refine ⟨hm,fun j z hz=>?_,fun j z hz=>?_,h.kq.trans (Kq.set _ (by omega)),h.far⟩
 ·rw [World.cell?_of_block (w:=u) (Below.heap_setCell _ _ _ _ (by show x≠B+k;omega))];exact h.stp j z hz
 ·rw [World.cell?_of_block (w:=u) (Below.heap_setCell _ _ _ _ (f3 k hk))];exact h.tr j z hz
theorem R13.same (h:R13 m N B x g L v0 s r u) (e1:u'.heap=u.heap) (e2:u'.os=u.os) (e3:u'.output=u.output):R13 m N B x g L v0 s r u':=by
 have hc:∀ a,u'.cell? a=u.cell? a:=fun a=>World.cell?_of_block (by rw [e1])
 exact ⟨h.mem.same e1,fun j z hz=>by rw [hc];exact h.stp j z hz,fun j z hz=>by rw [hc];exact h.tr j z hz,h.kq.trans (Kq.same e1 e2 e3),h.far⟩
theorem R13.more (h:R13 m N B x g L v0 s r u) {c:Array Value} {ty:TypeId} (e1:u'.heap=(u.alloc (.cells c ty)).heap) (e2:u'.os=u.os) (e3:u'.output=u.output):R13 m N B x g L v0 s r u':=by
 have k:Kq u.heap.size u u':=⟨e2,e3,by rw [e1];show _≤(u.heap.push _).size;simp,fun i hi=>by rw [e1];show (u.heap.push _)[i]? = _;rw [Array.getElem?_push,if_neg (by omega)]⟩
 exact ⟨(h.mem.alloc (.cells c ty)).same e1,fun j z hz=>kq_all k _ _ (h.stp j z hz),fun j z hz=>kq_all k _ _ (h.tr j z hz),h.kq.trans (k.le h.kq.size),h.far⟩
end
section
variable {m N B g b o cap T ct j x t:Nat} {L:List Stp} {v0:World} {s:Stp} {cl:Nat→List Cl} {ln cp rb ro:Nat→Nat} {pc:Nat→Option Addr} {r:Ro} {Q:Exit→Act→World→Prop} {a:Act} {u:World}
theorem s13_step (hm:m≤1000) {op:Int} (ho:s.op=op) (ht:s.th=(t:Int)) (htN:t<N) (h9:op≠9) (h10:op≠10) (hst:op=2→(∃ k,k<m∧s.ce=((2*k+1:Nat):Int)∧r.st k=0)∨(s.ce.tmod 2==1)=false∧s.ce % 2=0) (hle:∀ t,r.co t<1000000∧r.wr t<1000000)
 (h:R13 m N B x g L v0 s r u) (hA:Fl 173 [(0,.slice (some ⟨g,0,none⟩) T ct),(1,I (m:Nat)),(2,.slice (some ⟨b,o,none⟩) N cap),(7,.slice (some ⟨B,0,none⟩) m m),(8,.slice (some ⟨(B+1),0,none⟩) m m),(9,.slice (some ⟨(B+2),0,none⟩) N N),(10,.slice (some ⟨(B+3),0,none⟩) N N),(11,.slice (some ⟨(B+4),0,none⟩) N N),(12,I (j:Nat)),(13,Pt x 0),(14,I (t:Nat)),(53,I op)] a)
 (k:∀ a' w',Fl 173 [(0,.slice (some ⟨g,0,none⟩) T ct),(1,I (m:Nat)),(2,.slice (some ⟨b,o,none⟩) N cap),(7,.slice (some ⟨B,0,none⟩) m m),(8,.slice (some ⟨(B+1),0,none⟩) m m),(9,.slice (some ⟨(B+2),0,none⟩) N N),(10,.slice (some ⟨(B+3),0,none⟩) N N),(11,.slice (some ⟨(B+4),0,none⟩) N N),(12,I (j:Nat))] a'→R13 m N B x g L v0 s (rsO m cl r s) w'→Q .normal a' w') :
 (Code.seq q13_14 (.seq (.seq q13_15 (.cond (.tmp 62) q13_16 .skip)) (.seq q13_17 (.cond (.tmp 84) (.seq q13_18 (.seq q13_19 (.cond (.tmp 99) (.seq q13_20 .ret) .skip))) .skip)))).wp Tryd.prog Q a u:=by
 obtain ⟨th,ce,op',ol,ne⟩:=s
 have ho:op'=op:=ho
 have ht:th=(t:Int):=ht
 subst ho ht
 have hrs:rsO m cl r ⟨t,ce,op',ol,ne⟩=_:=rsO_stp h9 h10
 refine wp_then (p13_14 htN (by have:=(hle t).1;omega) (h.mem.c.cell htN) (h.mem.c.frozen _) hA) fun a1 w1 q=>?_
 obtain ⟨hA1,rfl⟩:=q
 have h1:=h.kqs (k:=3) (by omega) t _ (h.mem.setC t (r.co t+1))
 refine wp_seq ?_
 refine wp_then (p13_15 (h1.stp 2 _ rfl) hA1) fun a2 w2 q=>?_
 obtain ⟨hA2,rfl⟩:=q
 have rest:∀ {a':Act} {w':World},Fl 173 [(0,.slice (some ⟨g,0,none⟩) T ct),(1,I (m:Nat)),(2,.slice (some ⟨b,o,none⟩) N cap),(7,.slice (some ⟨B,0,none⟩) m m),(8,.slice (some ⟨(B+1),0,none⟩) m m),(9,.slice (some ⟨(B+2),0,none⟩) N N),(10,.slice (some ⟨(B+3),0,none⟩) N N),(11,.slice (some ⟨(B+4),0,none⟩) N N),(12,I (j:Nat)),(13,Pt x 0),(14,I (t:Nat)),(53,I op')] a'→R13 m N B x g L v0 ⟨t,ce,op',ol,ne⟩ { r with co:=upd r.co t (r.co t+1),wr:=if op'=1 then r.wr else upd r.wr t (r.wr t+1) } w' →
  (Code.seq q13_17 (.cond (.tmp 84) (.seq q13_18 (.seq q13_19 (.cond (.tmp 99) (.seq q13_20 .ret) .skip))) .skip)).wp Tryd.prog Q a' w':=by
  intro a' w' hA' h'
  by_cases h2:op'=2
  ·subst h2
   rcases hst rfl with ⟨k1,hk1,hce,hs0⟩|⟨hce,hce2⟩
   ·have hce:ce=((2*k1+1:Nat):Int):=hce
    have g2:(ce.tmod 2==1)=true:=by
     rw [hce,Int.tmod_eq_emod_of_nonneg (by omega)]
     simp
    have g3:wrap64 (ce.tdiv 2)=(k1:Int):=by
     rw [hce,Int.tdiv_eq_ediv_of_nonneg (by omega)]
     unfold wrap64
     omega
    refine wp_then (p13_17c hk1 (h'.stp 1 _ rfl) g3 (h'.stp 2 _ rfl) g2 hA') fun a3 w3 q=>?_
    obtain ⟨hA3,rfl⟩:=q
    refine wp_cond_true (hA3.hd rfl) ?_
    have c1:=h'.mem.s.cell hk1
    have c1:w3.cell? ⟨B,k1,none⟩=some (I ((0:Nat):Int)):=by rw [c1];show some (I ((r.st k1:Nat):Int))=_;rw [hs0]
    refine wp_then (p13_18 hk1 (h'.stp 1 _ rfl) g3 (by omega) c1 (h'.mem.s.frozen _) hA3.tl) fun a4 w4 q=>?_
    obtain ⟨hA4,rfl⟩:=q
    have h4:R13 m N B x g L v0 _ _ (w3.setCell ⟨B,k1,none⟩ (I ((0+1:Nat):Int))):=h'.kqs (k:=0) (by omega) k1 _ (h'.mem.setS k1 (0+1))
    have d1:=h4.mem.s.cell hk1
    refine wp_then (p13_19 (c:=1) hk1 (h4.stp 1 _ rfl) g3 (by rw [d1];show some (I ((upd r.st k1 (0+1) k1:Nat):Int))=_;rw [upd_same];rfl) (by omega) hA4) fun a5 w5 q=>?_
    obtain ⟨hA5,rfl⟩:=q
    refine wp_cond_false (hA5.hf rfl) (wp_skip ?_)
    refine k _ _ (hA5.sub (by simp)) ?_
    rw [hrs,if_pos ⟨rfl,by rw [hce];omega,by rw [hce];omega⟩]
    have e1:(ce / 2).toNat=k1:=by rw [hce];omega
    rw [e1,hs0]
    exact h4
   ·refine wp_then (p13_17b (h'.stp 2 _ rfl) (h'.stp 1 _ rfl) hce hA') fun a3 w3 q=>?_
    obtain ⟨hA3,rfl⟩:=q
    refine wp_cond_false (hA3.hf rfl) (wp_skip ?_)
    refine k _ _ (hA3.sub (by simp)) ?_
    rw [hrs,if_neg (fun q=>by have:=q.2.1;have h9:ce % 2=0:=hce2;omega)]
    exact h'
  ·refine wp_then (p13_17a (h'.stp 2 _ rfl) h2 hA') fun a3 w3 q=>?_
   obtain ⟨hA3,rfl⟩:=q
   refine wp_cond_false (hA3.hf rfl) (wp_skip ?_)
   refine k _ _ (hA3.sub (by simp)) ?_
   rw [hrs,if_neg (fun q=>h2 q.1)]
   exact h'
 by_cases h1':op'=1
 ·subst h1'
  refine wp_cond_false (hA2.hf rfl) (wp_skip ?_)
  exact rest hA2.tl h1
 ·refine wp_cond_true (hA2.hd (by simp [h1'])) ?_
  refine wp_last (p13_16 htN (by show r.wr t<1000000000;have:=(hle t).2;omega) (h1.mem.w.cell htN) (h1.mem.w.frozen _) hA2.tl) fun a3 w3 q=>?_
  obtain ⟨hA3,rfl⟩:=q
  have h3:=h1.kqs (k:=4) (by omega) t _ (h1.mem.setW t (r.wr t+1))
  refine rest hA3 ?_
  rw [if_neg h1']
  exact h3
end
section
variable {m:Nat} {cl:Nat→List Cl} {r:Ro} {s:Stp} {t k:Nat} {c:Cl}
theorem rsO_9 (h9:s.op=9) (ht:s.th=(t:Int)) (hk:s.ol=(k:Int)) (hc:(cl t)[k]? = some c):rsO m cl r s=if 1≤c.po∧c.po≤4 then { r with la:=upd r.la t (r.en (which c.ca m)),co:=upd r.co t 0,wr:=upd r.wr t 0 } else r:=by
 unfold rsO
 rw [if_pos h9,ht,hk]
 simp only [Int.toNat_natCast,hc]
theorem rsO_10 (h10:s.op=10) (ht:s.th=(t:Int)) (hk:s.ol=(k:Int)) (hc:(cl t)[k]? = some c):rsO m cl r s=if 1≤c.po∧c.po≤4 then { r with en:=upd r.en (which c.ca m) true } else r:=by
 unfold rsO
 rw [if_neg (by rw [h10];decide),if_pos h10,ht,hk]
 simp only [Int.toNat_natCast,hc]
end
section
variable {m N B g b o cap T ct j x t:Nat} {L:List Stp} {v0:World} {s:Stp} {cl:Nat→List Cl} {ln cp rb ro:Nat→Nat} {pc:Nat→Option Addr} {r:Ro} {Q:Exit→Act→World→Prop} {a:Act} {u:World}
theorem s13_mark (h0:0<m) (hm:m≤1000) (hS:SL N b o ln cp rb ro pc cl v0) {op:Int} (ho:s.op=op) (hop:op=9∨op=10) (ht:s.th=(t:Int)) (htN:t<N) {k:Nat} {c:Cl} (hk:s.ol=(k:Int)) (hc:(cl t)[k]? = some c) (hchk:op=10→isO c→r.la t=true→r.co t=2∧r.wr t=0)
 (h:R13 m N B x g L v0 s r u) (hA:Fl 173 [(0,.slice (some ⟨g,0,none⟩) T ct),(1,I (m:Nat)),(2,.slice (some ⟨b,o,none⟩) N cap),(7,.slice (some ⟨B,0,none⟩) m m),(8,.slice (some ⟨(B+1),0,none⟩) m m),(9,.slice (some ⟨(B+2),0,none⟩) N N),(10,.slice (some ⟨(B+3),0,none⟩) N N),(11,.slice (some ⟨(B+4),0,none⟩) N N),(12,I (j:Nat)),(13,Pt x 0),(14,I (t:Nat)),(53,I op)] a)
 (k1:∀ a' w',Fl 173 [(0,.slice (some ⟨g,0,none⟩) T ct),(1,I (m:Nat)),(2,.slice (some ⟨b,o,none⟩) N cap),(7,.slice (some ⟨B,0,none⟩) m m),(8,.slice (some ⟨(B+1),0,none⟩) m m),(9,.slice (some ⟨(B+2),0,none⟩) N N),(10,.slice (some ⟨(B+3),0,none⟩) N N),(11,.slice (some ⟨(B+4),0,none⟩) N N),(12,I (j:Nat))] a'→R13 m N B x g L v0 s (rsO m cl r s) w'→Q .normal a' w') (k2:∀ a' w',Fl 173 [(0,.slice (some ⟨g,0,none⟩) T ct),(1,I (m:Nat)),(2,.slice (some ⟨b,o,none⟩) N cap),(7,.slice (some ⟨B,0,none⟩) m m),(8,.slice (some ⟨(B+1),0,none⟩) m m),(9,.slice (some ⟨(B+2),0,none⟩) N N),(10,.slice (some ⟨(B+3),0,none⟩) N N),(11,.slice (some ⟨(B+4),0,none⟩) N N),(12,I (j:Nat))] a'→R13 m N B x g L v0 s (rsO m cl r s) w'→Q (.exit 1) a' w') :
 (Code.seq (.seq q13_23 (.cond (.tmp 115) (.seq q13_24 .ret) .skip)) (.seq q13_25 (.seq (.seq q13_26 (.cond (.tmp 131) (.exit 1) .skip)) (.seq q13_27 (.seq (.seq q13_28 (.cond (.tmp 138) (.seq q13_29 (.seq q13_30 (.seq q13_31 (.exit 1)))) .skip)) (.seq q13_32 (.seq q13_33 (.cond (.tmp 172) (.seq q13_34 .ret) .skip)))))))).wp Tryd.prog Q a u:=by
 have hkl:k<ln t:=by rw [←hS.len t htN];exact (List.getElem?_eq_some_iff.1 hc).1
 have hpq:=hS.pq t htN (by omega)
 have c3:u.cell? ⟨x,3,none⟩=some (I (k:Nat)):=by rw [←hk];exact h.stp 3 _ rfl
 refine wp_seq (wp_then (wp_nrm (p13_23 htN c3 ((hS.go h.kq).sr t htN) hkl hA)) fun a1 w1 q=>?_)
 obtain ⟨hA1,e1,e2,e3⟩:=q
 refine wp_cond_false (hA1.hf rfl) (wp_skip ?_)
 have h1:=h.same e1 e2 e3
 have hS1:=hS.go h1.kq
 have c3':w1.cell? ⟨x,3,none⟩=some (I (k:Nat)):=by rw [←hk];exact h1.stp 3 _ rfl
 have sr:=hS1.sr t htN
 rw [hpq] at sr
 obtain ⟨d0,d1,d2,d3⟩:=hS1.sa t htN k c hc
 show Code.wp _ _ _ _ _
 refine wp_then (wp_nrm (p13_25 htN c3' sr hkl d0 d1 d2 d3 hA1.tl)) fun a2 w2 q=>?_
 obtain ⟨hA2,f1,f2,f3⟩:=q
 have h2:=h1.more f1 f2 f3
 have hy:w2.heap[w1.heap.size]? = some (.cells #[I c.po,I c.ca,I c.cb,I c.cc] 35 (0,0)):=by rw [f1];exact Array.getElem?_push_size
 have y0:w2.cell? ⟨w1.heap.size,0,none⟩=some (I c.po):=cell_of hy rfl
 have y1:w2.cell? ⟨w1.heap.size,1,none⟩=some (I c.ca):=cell_of hy rfl
 generalize w1.heap.size=y at hA2 y0 y1
 clear hy f1 f2 f3 d0 d1 d2 d3 sr c3 c3'
 refine wp_seq ?_
 by_cases hco:isO c
 ·refine wp_then (p13_26y y0 hco.1 hco.2 hA2) fun a3 w3 q=>?_
  obtain ⟨hA3,rfl⟩:=q
  refine wp_cond_false (hA3.hf rfl) (wp_skip ?_)
  show Code.wp _ _ _ _ _
  refine wp_then (p13_27 h0 hm y1 hA3.tl) fun a4 w4 q=>?_
  obtain ⟨hA4,rfl⟩:=q
  refine wp_seq ?_
  refine wp_then (p13_28 (by rw [←ho];exact h2.stp 2 _ rfl) hA4) fun a5 w5 q=>?_
  obtain ⟨hA5,rfl⟩:=q
  have hom:=which_lt c.ca h0
  rcases hop with rfl|rfl
  ·refine wp_cond_true (hA5.hd rfl) ?_
   have hr:rsO m cl r s={ r with la:=upd r.la t (r.en (which c.ca m)),co:=upd r.co t 0,wr:=upd r.wr t 0 }:=by rw [rsO_9 ho ht hk hc,if_pos (show 1≤c.po∧c.po≤4 from hco)]
   refine wp_then (p13_29 htN hom (h2.mem.e.cell hom) (h2.mem.l.cell htN) (h2.mem.l.frozen _) hA5.tl) fun a6 w6 q=>?_
   obtain ⟨hA6,rfl⟩:=q
   have h6:=h2.kqs (k:=2) (by omega) t _ (h2.mem.setL t (r.en (which c.ca m)))
   refine wp_then (p13_30 htN (h6.mem.c.cell htN) (h6.mem.c.frozen _) hA6) fun a7 w7 q=>?_
   obtain ⟨hA7,rfl⟩:=q
   have h7:=h6.kqs (k:=3) (by omega) t _ (h6.mem.setC t 0)
   refine wp_then (p13_31 htN (h7.mem.w.cell htN) (h7.mem.w.frozen _) hA7) fun a8 w8 q=>?_
   obtain ⟨hA8,rfl⟩:=q
   have h8:=h7.kqs (k:=4) (by omega) t _ (h7.mem.setW t 0)
   refine wp_exit (k2 _ _ (hA8.sub (by simp)) ?_)
   rw [hr]
   exact h8
  ·refine wp_cond_false (hA5.hf rfl) (wp_skip ?_)
   have hr:rsO m cl r s={ r with en:=upd r.en (which c.ca m) true }:=by rw [rsO_10 ho ht hk hc,if_pos (show 1≤c.po∧c.po≤4 from hco)]
   show Code.wp _ _ _ _ _
   refine wp_then (p13_32 hom (h2.mem.e.cell hom) (h2.mem.e.frozen _) hA5.tl) fun a6 w6 q=>?_
   obtain ⟨hA6,rfl⟩:=q
   have h6:=h2.kqs (k:=1) (by omega) (which c.ca m) _ (h2.mem.setE (which c.ca m) true)
   have fin:∀ a' w',Fl 173 [(172,.bool false),(0,.slice (some ⟨g,0,none⟩) T ct),(1,I (m:Nat)),(2,.slice (some ⟨b,o,none⟩) N cap),(7,.slice (some ⟨B,0,none⟩) m m),(8,.slice (some ⟨(B+1),0,none⟩) m m),(9,.slice (some ⟨(B+2),0,none⟩) N N),(10,.slice (some ⟨(B+3),0,none⟩) N N),(11,.slice (some ⟨(B+4),0,none⟩) N N),(12,I (j:Nat)),(13,Pt x 0),(14,I (t:Nat)),(53,I 10),(15,Pt y 0),(16,I (which c.ca m:Nat))] a'∧w'=w5.setCell ⟨B+1,which c.ca m,none⟩ (.bool true)→(Code.cond (.tmp 172) (.seq q13_34 .ret) .skip).wp Tryd.prog Q a' w':=fun a' w' q=>by
    obtain ⟨hA7,rfl⟩:=q
    refine wp_cond_false (hA7.hf rfl) (wp_skip ?_)
    refine k1 _ _ (hA7.sub (by simp)) ?_
    rw [hr]
    exact h6
   have l1:=h6.mem.l.cell htN
   cases hla:r.la t with
   |false=>exact wp_then (p13_33n htN (by rw [l1];show some (Value.bool (r.la t))=_;rw [hla]) hA6) fin
   |true =>
    obtain ⟨z1,z2⟩:=hchk rfl hco hla
    exact wp_then (p13_33y htN (by rw [l1];show some (Value.bool (r.la t))=_;rw [hla]) (by rw [h6.mem.c.cell htN];show some (I ((r.co t:Nat):Int))=_;rw [z1];rfl) (by rw [h6.mem.w.cell htN];show some (I ((r.wr t:Nat):Int))=_;rw [z2];rfl) hA6) fin
 ·have hr:rsO m cl r s=r:=by
   rcases hop with rfl|rfl
   ·rw [rsO_9 ho ht hk hc,if_neg (show ¬ (1≤c.po∧c.po≤4) from hco)]
   ·rw [rsO_10 ho ht hk hc,if_neg (show ¬ (1≤c.po∧c.po≤4) from hco)]
  by_cases hlo:c.po<1
  ·refine wp_then (p13_26a y0 hlo hA2) fun a3 w3 q=>?_
   obtain ⟨hA3,rfl⟩:=q
   exact wp_cond_true (hA3.hd rfl) (wp_exit (k2 _ _ (hA3.sub (by simp)) (by rw [hr];exact h2)))
  ·have hhi:4<c.po:=by
    have:¬ (1≤c.po∧c.po≤4):=hco
    omega
   refine wp_then (p13_26b y0 hhi hA2) fun a3 w3 q=>?_
   obtain ⟨hA3,rfl⟩:=q
   exact wp_cond_true (hA3.hd rfl) (wp_exit (k2 _ _ (hA3.sub (by simp)) (by rw [hr];exact h2)))
end
theorem fl_three {n k:Nat} (x y z:Value) (h:n=k+3):Fl n [(0,x),(1,y),(2,z)] { tmps:=#[x,y,z]++Array.replicate k undef,defers:=[] }:=by
 refine ⟨by simp;omega,rfl,fun p hp=>?_⟩
 simp only [List.mem_cons,List.not_mem_nil,or_false] at hp
 rcases hp with rfl|rfl|rfl
 ·simp [Array.getD_eq_getD_getElem?,Array.getElem?_append]
 ·simp [Array.getD_eq_getD_getElem?,Array.getElem?_append]
 ·simp [Array.getD_eq_getD_getElem?,Array.getElem?_append]
section
variable {m N b o cap T ct:Nat} {p:Option Addr} {g:Nat} {L:List Stp} {v:World} {cl:Nat→List Cl} {ln cp rb ro:Nat→Nat} {pc:Nat→Option Addr}
theorem s13_round {j:Nat} {s:Stp} {r:Ro} {Q:Exit→Act→World→Prop} {a:Act} {u:World} (h0:0<m) (hm:m≤1000) (hS:SL N b o ln cp rb ro pc cl v) (hlt:j<T) (hs:L[j]? = some s) (hst:StO N m cl r s) (hgB:g<v.heap.size) (hle:∀ t,r.co t<1000000∧r.wr t<1000000)
 (hg:∀ j x,(flat L)[j]? = some x→u.cell? ⟨g,j,none⟩=some x) (hM:M13 m N v.heap.size r u) (hk:Kq v.heap.size v u) (hA:Fl 173 [(0,.slice (some ⟨g,0,none⟩) T ct),(1,I (m:Nat)),(2,.slice (some ⟨b,o,none⟩) N cap),(7,.slice (some ⟨v.heap.size,0,none⟩) m m),(8,.slice (some ⟨(v.heap.size+1),0,none⟩) m m),(9,.slice (some ⟨(v.heap.size+2),0,none⟩) N N),(10,.slice (some ⟨(v.heap.size+3),0,none⟩) N N),(11,.slice (some ⟨(v.heap.size+4),0,none⟩) N N),(12,I (j:Nat))] a)
 (k1:∀ a' w',Fl 173 [(0,.slice (some ⟨g,0,none⟩) T ct),(1,I (m:Nat)),(2,.slice (some ⟨b,o,none⟩) N cap),(7,.slice (some ⟨v.heap.size,0,none⟩) m m),(8,.slice (some ⟨(v.heap.size+1),0,none⟩) m m),(9,.slice (some ⟨(v.heap.size+2),0,none⟩) N N),(10,.slice (some ⟨(v.heap.size+3),0,none⟩) N N),(11,.slice (some ⟨(v.heap.size+4),0,none⟩) N N),(12,I (j:Nat))] a'→M13 m N v.heap.size (rsO m cl r s) w'∧Kq v.heap.size v w'→Q .normal a' w') (k2:∀ a' w',Fl 173 [(0,.slice (some ⟨g,0,none⟩) T ct),(1,I (m:Nat)),(2,.slice (some ⟨b,o,none⟩) N cap),(7,.slice (some ⟨v.heap.size,0,none⟩) m m),(8,.slice (some ⟨(v.heap.size+1),0,none⟩) m m),(9,.slice (some ⟨(v.heap.size+2),0,none⟩) N N),(10,.slice (some ⟨(v.heap.size+3),0,none⟩) N N),(11,.slice (some ⟨(v.heap.size+4),0,none⟩) N N),(12,I (j:Nat))] a'→M13 m N v.heap.size (rsO m cl r s) w'∧Kq v.heap.size v w'→Q (.exit 1) a' w'):K13_1.wp Tryd.prog Q a u:=by
 unfold K13_1
 obtain ⟨f0,f1,f2,f3,f4⟩:=flat_get L j s hs
 obtain ⟨t,ht,htN,hrg,hchk,hst2⟩:=hst
 refine wp_then (p13_9 hlt (hg _ _ f0) (hg _ _ f1) (hg _ _ f2) (hg _ _ f3) (hg _ _ f4) hA) fun a4 w4 q=>?_
 obtain ⟨hA4,hw4⟩:=q
 have hlr:=hM.w.lt
 have k4:Kq u.heap.size u w4:=hw4▸Kq.alloc _ (Nat.le_refl _)
 have hR:R13 m N v.heap.size u.heap.size g L v s r w4:=by
  refine ⟨hw4▸hM.alloc _,fun i y hy=>?_,fun j y h=>kq_all k4 _ _ (hg j y h),hk.trans (k4.le hk.size),hlr,Nat.le_refl _,fun k _=>by omega⟩
  rw [hw4]
  exact cell_of (v:=u.alloc (.cells #[I s.th,I s.ce,I s.op,I s.ol,I s.ne] 58)) (b:=u.heap.size) Array.getElem?_push_size hy
 generalize u.heap.size=x at hA4 hR
 clear hw4 k4 hg hM hk hlr
 have c0:=hR.stp 0 (I s.th) rfl
 rw [ht] at c0
 refine wp_seq (wp_then (p13_10 c0 htN hA4) fun a5 w5 q=>?_)
 obtain ⟨hA5,rfl⟩:=q
 refine wp_cond_false (hA5.hf rfl) (wp_skip ?_)
 show Code.wp _ _ _ _ _
 refine wp_then (p13_12 c0 hA5.tl) fun a6 w6 q=>?_
 obtain ⟨hA6,rfl⟩:=q
 refine wp_then (p13_13 (hR.stp 2 _ rfl) hA6) fun a7 w7 q=>?_
 obtain ⟨hA7,rfl⟩:=q
 refine wp_block ?_
 unfold K13_2
 refine wp_seq (wp_then (p13_21 hA7) fun a8 w8 q=>?_)
 obtain ⟨hA8,rfl⟩:=q
 by_cases h9:s.op=9
 ·refine wp_cond_true (hA8.hd (by simp [h9])) (wp_skip ?_)
  show Code.wp _ _ _ _ _
  refine wp_cond_true (hA8.hd (by simp [h9])) ?_
  obtain ⟨k,hk,hkl⟩:=hrg (.inl h9)
  obtain ⟨c,hc⟩:∃ c,(cl t)[k]? = some c:=⟨_,List.getElem?_eq_getElem hkl⟩
  exact s13_mark h0 hm hS rfl (.inl h9) ht htN hk hc (fun q=>by rw [h9] at q;cases q) hR hA8.tl (fun a' w' q1 q2=>k1 a' w' q1 ⟨q2.mem,q2.kq⟩) (fun a' w' q1 q2=>k2 a' w' q1 ⟨q2.mem,q2.kq⟩)
 ·refine wp_cond_false (hA8.hf (by simp [h9])) ?_
  refine wp_last (p13_22 hA8.tl) fun a9 w9 q=>?_
  obtain ⟨hA9,rfl⟩:=q
  show Code.wp _ _ _ _ _
  by_cases h10:s.op=10
  ·refine wp_cond_true (hA9.hd (by simp [h10])) ?_
   obtain ⟨k,hk,hkl⟩:=hrg (.inr h10)
   obtain ⟨c,hc⟩:∃ c,(cl t)[k]? = some c:=⟨_,List.getElem?_eq_getElem hkl⟩
   exact s13_mark h0 hm hS rfl (.inr h10) ht htN hk hc (fun _=>hchk h10 k c hk hc) hR hA9.tl (fun a' w' q1 q2=>k1 a' w' q1 ⟨q2.mem,q2.kq⟩) (fun a' w' q1 q2=>k2 a' w' q1 ⟨q2.mem,q2.kq⟩)
  ·refine wp_cond_false (hA9.hf (by simp [h10])) ?_
   refine s13_step (cl:=cl) hm rfl ht htN h9 h10 (fun q=>?_) hle hR hA9.tl (fun a' w' q1 q2=>k1 a' w' q1 ⟨q2.mem,q2.kq⟩)
   obtain ⟨⟨kk,hkk,hlk⟩,hz⟩:=hst2 q
   by_cases hev:kk % 2=0
   ·right
    rw [hkk]
    refine ⟨?_,by omega⟩
    rw [Int.tmod_eq_emod_of_nonneg (by omega)]
    have:((kk:Int) % 2)=0:=by omega
    rw [this]
    rfl
   ·left
    exact ⟨kk / 2,by omega,by rw [hkk];omega,hz (kk / 2) (by omega) (by rw [hkk];omega)⟩
theorem steps_any (h0:0<m) (hm:m≤1000) (hN:N≤8) (hS:SL N b o ln cp rb ro pc cl v) (hT:T=L.length) (hT4:T≤400000) (hp:0<T→p=some ⟨g,0,none⟩) (hg:∀ j x,(flat L)[j]? = some x→v.cell? ⟨g,j,none⟩=some x) (hst:StsO N m cl ro0 L) :
 Body Tryd.f13 #[.slice p T ct,I (m:Nat),.slice (some ⟨b,o,none⟩) N cap] v (fun r w'=>r=.bool true∧Grows v w'):=by
 intro code hb
 have hw0:code=C13:=by unfold C13;rw [hb];rfl
 subst hw0
 clear hb
 rw [e13]
 have hA:Fl 173 [(0,.slice p T ct),(1,I (m:Nat)),(2,.slice (some ⟨b,o,none⟩) N cap)] _:=fl_three (n:=173) (k:=170) (.slice p T ct) (I (m:Nat)) (.slice (some ⟨b,o,none⟩) N cap) rfl
 rw [show Tryd.f13.ntmps - #[Value.slice p T ct,I (m:Nat),Value.slice (some ⟨b,o,none⟩) N cap].size=170 from rfl]
 generalize ({ tmps:=#[Value.slice p T ct,I (m:Nat),Value.slice (some ⟨b,o,none⟩) N cap]++Array.replicate 170 undef,defers:=[] }:Act)=a0 at hA
 refine wp_then (p13_0 hA) fun a1 w1 q=>?_
 obtain ⟨hA1,rfl⟩:=q
 have hA1':Fl 173 [(0,.slice p T ct),(1,I (m:Nat)),(2,.slice (some ⟨b,o,none⟩) N cap)] a1:=hA1.sub (by simp)
 refine wp_then (p13_1 hm hA1') fun a2 w2 q=>?_
 obtain ⟨hA2,hw2⟩:=q
 have r1:w2.rowIs w1.heap.size 3 m (fun _=>I 0):=hw2▸World.rowIs_made w1 (I 0) m 3
 have z2:w2.heap.size=w1.heap.size+1:=by rw [hw2];simp
 have k2:Kq w1.heap.size w1 w2:=hw2▸Kq.alloc _ (Nat.le_refl _)
 refine wp_then (p13_2 hm hA2) fun a3 w3 q=>?_
 obtain ⟨hA3,hw3⟩:=q
 rw [z2] at hA3
 have r2:w3.rowIs (w1.heap.size+1) 4 m (fun _=>.bool false):=by rw [hw3,←z2];exact World.rowIs_made w2 (.bool false) m 4
 have r1:w3.rowIs w1.heap.size 3 m (fun _=>I 0):=hw3▸r1.alloc _
 have z3:w3.heap.size=w1.heap.size+2:=by rw [hw3];simp;omega
 have k3:Kq w1.heap.size w1 w3:=k2.trans (hw3▸(Kq.alloc _ (by omega)))
 refine wp_then (p13_3 hN hA3) fun a4 w4 q=>?_
 obtain ⟨hA4,hw4⟩:=q
 rw [z3] at hA4
 have r3:w4.rowIs (w1.heap.size+2) 4 N (fun _=>.bool false):=by rw [hw4,←z3];exact World.rowIs_made w3 (.bool false) N 4
 have r2:w4.rowIs (w1.heap.size+1) 4 m (fun _=>.bool false):=hw4▸r2.alloc _
 have r1:w4.rowIs w1.heap.size 3 m (fun _=>I 0):=hw4▸r1.alloc _
 have z4:w4.heap.size=w1.heap.size+3:=by rw [hw4];simp;omega
 have k4:Kq w1.heap.size w1 w4:=k3.trans (hw4▸(Kq.alloc _ (by omega)))
 refine wp_then (p13_4 hN hA4) fun a5 w5 q=>?_
 obtain ⟨hA5,hw5⟩:=q
 rw [z4] at hA5
 have r4:w5.rowIs (w1.heap.size+3) 3 N (fun _=>I 0):=by rw [hw5,←z4];exact World.rowIs_made w4 (I 0) N 3
 have r3:w5.rowIs (w1.heap.size+2) 4 N (fun _=>.bool false):=hw5▸r3.alloc _
 have r2:w5.rowIs (w1.heap.size+1) 4 m (fun _=>.bool false):=hw5▸r2.alloc _
 have r1:w5.rowIs w1.heap.size 3 m (fun _=>I 0):=hw5▸r1.alloc _
 have z5:w5.heap.size=w1.heap.size+4:=by rw [hw5];simp;omega
 have k5:Kq w1.heap.size w1 w5:=k4.trans (hw5▸(Kq.alloc _ (by omega)))
 refine wp_then (p13_5 hN hA5) fun a6 w6 q=>?_
 obtain ⟨hA6,hw6⟩:=q
 rw [z5] at hA6
 have r5:w6.rowIs (w1.heap.size+4) 3 N (fun _=>I 0):=by rw [hw6,←z5];exact World.rowIs_made w5 (I 0) N 3
 have hM:M13 m N w1.heap.size ro0 w6:=⟨(hw6▸r1.alloc _:w6.rowIs w1.heap.size 3 m (fun _=>I 0)),(hw6▸r2.alloc _:w6.rowIs (w1.heap.size+1) 4 m (fun _=>.bool false)),(hw6▸r3.alloc _:w6.rowIs (w1.heap.size+2) 4 N (fun _=>.bool false)),(hw6▸r4.alloc _:w6.rowIs (w1.heap.size+3) 3 N (fun _=>I 0)),r5⟩
 have k6:Kq w1.heap.size w1 w6:=k5.trans (hw6▸(Kq.alloc _ (by omega)))
 clear hw2 hw3 hw4 hw5 hw6 r1 r2 r3 r4 r5 z2 z3 z4 z5 k2 k3 k4 k5 hA hA1 hA1' hA2 hA3 hA4 hA5
 refine wp_seq (wp_then (p13_6 hA6) fun a7 w7 q=>?_)
 obtain ⟨hA7,rfl⟩:=q
 have hgB:0<T→g<w1.heap.size:=fun h=>by
  obtain ⟨s,hs⟩:∃ s,L[0]? = some s:=⟨_,List.getElem?_eq_getElem (by omega)⟩
  exact World.block_lt_of_cell? _ _ (hg _ _ (flat_get L 0 s hs).1)
 unfold K13_0
 refine wp_while (t:=33) (fun c a x=>∃ j,j≤T∧c=T - j∧Fl 173 [(0,.slice p T ct),(1,I (m:Nat)),(2,.slice (some ⟨b,o,none⟩) N cap),(7,.slice (some ⟨w1.heap.size,0,none⟩) m m),(8,.slice (some ⟨(w1.heap.size+1),0,none⟩) m m),(9,.slice (some ⟨(w1.heap.size+2),0,none⟩) N N),(10,.slice (some ⟨(w1.heap.size+3),0,none⟩) N N),(11,.slice (some ⟨(w1.heap.size+4),0,none⟩) N N),(12,I (j:Nat))] a∧M13 m N w1.heap.size (repO m cl (L.take j)) x∧Kq w1.heap.size w1 x) T ⟨0,Nat.zero_le _,rfl,hA7,hM,k6⟩ ?_
 clear hA7 hM k6 hA6
 rintro c a2 u ⟨j,hj,rfl,hA2,hM,hk⟩
 refine ⟨_,p13_7 hA2,?_⟩
 rintro a3 u3 ⟨hA3,rfl⟩
 by_cases hlt:j<T
 ·refine .inr ⟨hA3.hd (by simp [hlt]),?_⟩
  refine wp_seq (wp_block ?_)
  have hp':=hp (by omega)
  have hgB':=hgB (by omega)
  subst hp'
  obtain ⟨s,hs⟩:∃ s,L[j]? = some s:=⟨_,List.getElem?_eq_getElem (by omega)⟩
  have hrep:repO m cl (L.take (j+1))=rsO m cl (repO m cl (L.take j)) s:=by
   rw [List.take_add_one,hs]
   unfold repO
   rw [List.foldl_append]
   rfl
  have hle:=repO_le m cl (L.take j) ro0 0 (fun t=>⟨Nat.le_refl _,Nat.le_refl _,Nat.le_refl _⟩)
  have hlj:(L.take j).length≤400000:=by rw [List.length_take];omega
  have go:∀ a' w',Fl 173 [(0,.slice (some ⟨g,0,none⟩) T ct),(1,I (m:Nat)),(2,.slice (some ⟨b,o,none⟩) N cap),(7,.slice (some ⟨w1.heap.size,0,none⟩) m m),(8,.slice (some ⟨(w1.heap.size+1),0,none⟩) m m),(9,.slice (some ⟨(w1.heap.size+2),0,none⟩) N N),(10,.slice (some ⟨(w1.heap.size+3),0,none⟩) N N),(11,.slice (some ⟨(w1.heap.size+4),0,none⟩) N N),(12,I (j:Nat))] a'→M13 m N w1.heap.size (rsO m cl (repO m cl (L.take j)) s) w'∧Kq w1.heap.size w1 w'→q13_8.wp Tryd.prog (fun e a'' w''=>e=.normal∧Fl 173 [(0,.slice (some ⟨g,0,none⟩) T ct),(1,I (m:Nat)),(2,.slice (some ⟨b,o,none⟩) N cap),(7,.slice (some ⟨w1.heap.size,0,none⟩) m m),(8,.slice (some ⟨(w1.heap.size+1),0,none⟩) m m),(9,.slice (some ⟨(w1.heap.size+2),0,none⟩) N N),(10,.slice (some ⟨(w1.heap.size+3),0,none⟩) N N),(11,.slice (some ⟨(w1.heap.size+4),0,none⟩) N N),(12,I ((j+1:Nat):Int))] a''∧w''=w') a' w':=fun a' w' hA' _=>p13_8 (by omega) hA'
  refine s13_round h0 hm hS hlt hs (hst.at j s hs) hgB' (fun t=>⟨by have:=(hle t).1;have:(repO m cl (L.take j)).co t≤0+(L.take j).length:=this;omega,by have:=(hle t).2.1;have:(repO m cl (L.take j)).wr t≤0+(L.take j).length:=this;omega⟩) (fun j y h=>kq_all hk _ _ (hg j y h)) hM hk hA3.tl (fun a' w' hA' hR=>?_) (fun a' w' hA' hR=>?_)
  ·refine wp_last (go a' w' hA' hR) fun a'' w'' q=>?_
   obtain ⟨q1,rfl⟩:=q
   exact ⟨T - (j+1),by omega,j+1,by omega,rfl,q1,by rw [hrep];exact hR.1,hR.2⟩
  ·refine wp_last (go a' w' hA' hR) fun a'' w'' q=>?_
   obtain ⟨q1,rfl⟩:=q
   exact ⟨T - (j+1),by omega,j+1,by omega,rfl,q1,by rw [hrep];exact hR.1,hR.2⟩
 ·refine .inl ⟨hA3.hf (by simp [hlt]),?_⟩
  have hA9:Fl 173 [] a3:=hA3.sub (by simp)
  refine wp_then (p13_35 hA9) fun a9 w9 q=>?_
  obtain ⟨hA10,rfl⟩:=q
  refine wp_ret ⟨hA10.2.1,_,results_tmp (t:=6) rfl _ _ _,_,rfl,hA10.2.2 (6,.bool true) (by simp),hk.grows (Nat.le_refl _)⟩
end
end Go.Proofs.YtaofjdoielmobaaDoor.Gen
namespace Go.Proofs.YtaofjdoielmobaaDoor.Gen
open Go Go.Lift Go.Conc Go.RowKit
def InR (x:Int):Prop:=-9223372036854775808≤x∧x<9223372036854775808
def Cl.ok (c:Cl):Prop:=InR c.cb∧InR c.cc
structure InI (W:World) (p:Option Addr) (b o:Nat) (xs:List Int):Prop where
 at_:0<xs.length→p=some ⟨b,o,none⟩
 cell:∀ k x,xs[k]? = some x→W.cell? ⟨b,o+k,none⟩=some (I x)
 inr:∀ x∈xs,InR x
 len:xs.length≤17592186043904
theorem InI.grows {W W':World} {p:Option Addr} {b o:Nat} {xs:List Int} (h:InI W p b o xs) (g:Grows W W'):InI W' p b o xs :=
 ⟨h.at_,fun k x hk=>g.cell (h.cell k x hk),h.inr,h.len⟩
structure InS (W:World) (p:Option Addr) (b o n:Nat) (pc:Nat→Option Addr) (ln cp rb:Nat→Nat) (cl:Nat→List Cl):Prop where
 at_:0<n→p=some ⟨b,o,none⟩
 row:∀ k,k<n→W.cell? ⟨b,o+k,none⟩=some (.slice (pc k) (ln k) (cp k))
 len:∀ j,j<n→(cl j).length=ln j
 pq:∀ j,j<n→0<ln j→pc j=some ⟨rb j,roOf (pc j),none⟩
 call:∀ j,j<n→∀ (k:Nat) (c:Cl),(cl j)[k]? = some c→W.cell? ⟨rb j,roOf (pc j)+k*4,none⟩=some (I c.po)∧W.cell? ⟨rb j,roOf (pc j)+k*4+1,none⟩=some (I c.ca)∧W.cell? ⟨rb j,roOf (pc j)+k*4+2,none⟩=some (I c.cb)∧W.cell? ⟨rb j,roOf (pc j)+k*4+3,none⟩=some (I c.cc)
 ok:∀ j,j<n→∀ c∈cl j,InR c.ca∧c.ok
 n:n≤17592186043904
theorem InS.grows {W W':World} {p:Option Addr} {b o n:Nat} {pc:Nat→Option Addr} {ln cp rb:Nat→Nat} {cl:Nat→List Cl} (h:InS W p b o n pc ln cp rb cl) (g:Grows W W'):InS W' p b o n pc ln cp rb cl :=
 ⟨h.at_,fun k hk=>g.cell (h.row k hk),h.len,h.pq,fun j hj k c hc=>by
  have:=h.call j hj k c hc
  exact ⟨g.cell this.1,g.cell this.2.1,g.cell this.2.2.1,g.cell this.2.2.2⟩,h.ok,h.n⟩
theorem lens_scrs (mc:Mc) (fid:FuncId) (caps:Array Value) (pk:Nat→Option Obj) (N n:Nat) (K:List (Nat×Int)) (pc:Nat→Option Addr) (ln cp rb:Nat→Nat) (cl:Nat→List Cl) (hl:∀ j,j<n→(cl j).length≤64):lens (scrs mc fid caps pk N n K pc ln cp rb cl)≤64*n:=by
 unfold lens scrs
 rw [List.map_map]
 have:∀ (m j:Nat),j+m≤n→((List.range' j m).map ((fun s:Scr mc=>s.calls.length) ∘ scrOf mc fid caps pk N n (K.map (·.1)) pc ln cp rb cl)).sum≤64*m:=by
  intro m
  induction m with
  |zero=>intro j _;simp
  |succ m ih =>
   intro j hj
   rw [List.range'_succ,List.map_cons,List.sum_cons]
   have h1:=ih (j+1) (by omega)
   have h2:((fun s:Scr mc=>s.calls.length) ∘ scrOf mc fid caps pk N n (K.map (·.1)) pc ln cp rb cl) j≤64:=hl j (by omega)
   omega
 exact this n 0 (by omega)
theorem scrs_len (mc:Mc) (fid:FuncId) (caps:Array Value) (pk:Nat→Option Obj) (N n:Nat) (K:List (Nat×Int)) (pc:Nat→Option Addr) (ln cp rb:Nat→Nat) (cl:Nat→List Cl):(scrs mc fid caps pk N n K pc ln cp rb cl).length=n:=by simp [scrs]
theorem asked_of {W v:World} {p:Option Addr} {b o n:Nat} {pc:Nat→Option Addr} {ln cp rb:Nat→Nat} {cl:Nat→List Cl} (h:InS W p b o n pc ln cp rb cl) {xs:List Int} {wb bk:Nat} {sc:Value} (hn:IsNew W xs wb bk sc v) (h64:∀ j,j<n→ln j≤64) (h0:0<n):Asked v (newS wb bk W.heap.size sc xs) n b o pc ln cp rb cl:=by
 have g:=h.grows hn.old
 have far:∀ (a:Addr) (x:Value),W.cell? a=some x→¬ Own (newS wb bk W.heap.size sc xs) [] a.block:=fun a x ha ho=>by
  have:=hn.new _ (.inl ho)
  have:=World.block_lt_of_cell? _ _ ha
  omega
 refine ⟨fun j hj=>⟨h.len j hj,h64 j hj⟩,g.row,far _ _ (h.row 0 h0),fun j hj hl=>⟨h.pq j hj hl,?_⟩,g.call,fun j hj c hc=>(h.ok j hj c hc).1⟩
 obtain ⟨c,hc⟩:∃ c,(cl j)[0]? = some c:=⟨_,List.getElem?_eq_getElem (by rw [h.len j hj];exact hl)⟩
 exact far _ _ (h.call j hj 0 c hc).1
theorem going_wb (S:TS) (i:Nat) (t:Thr):(going S i t).wb=S.wb:=by
 unfold going
 first
  |rfl
  |(unfold picked;split<;>rfl)
  |(split<;>rfl)
theorem pturn_wb {mc:Mc} {p p':PSt} (h:pturn mc p=some p'):p'.S.wb=p.S.wb:=by
 unfold pturn at h
 split at h
 ·split at h
  ·cases h;rfl
  ·cases h
 ·cases h
  exact (resume_sta _ _ _ _ _).wb.trans (going_wb _ _ _)
theorem turns_wb {mc:Mc} {m:Nat} {p p':PSt} (h:Turns mc m p p'):p'.S.wb=p.S.wb:=by
 induction h with
 |stop _=>rfl
 |step h1 _ ih=>exact ih.trans (pturn_wb h1)
theorem hires_wb {mc:Mc} {k:Nat} {ss:List (Scr mc)} {S S':TS} {l l':Nat→Ph} (h:Hires mc k ss S l S' l'):S'.wb=S.wb:=by
 induction h with
 |nil=>rfl
 |cons tv tb gc _ ih=>exact ih.trans (flow_sta _ _ _ _ _ _ _).wb
end Go.Proofs.YtaofjdoielmobaaDoor.Gen
