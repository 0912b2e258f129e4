/- OnceOnce, part 24 of 26: S13a, S13b, S13c, S13d, GIns, GWb, OnPk, OnPkg, OnN. -/
import Derived.Test.YtfjjoohflcchnaaDoorOnceOnce01
import Derived.Test.YtfjjoohflcchnaaDoorOnceOnce07
import Derived.Test.YtfjjoohflcchnaaDoorOnceOnce09
import Derived.Test.YtfjjoohflcchnaaDoorOnceOnce13
import Derived.Test.YtfjjoohflcchnaaDoorOnceOnce15
import Derived.Test.YtfjjoohflcchnaaDoorOnceOnce16
import Derived.Test.YtfjjoohflcchnaaDoorOnceOnce23
set_option linter.unusedSimpArgs false
set_option linter.unusedVariables false
set_option maxHeartbeats 4000000
set_option maxRecDepth 100000
noncomputable section
namespace Go.Proofs.YtfjjoohflcchnaaDoor.Gen
open Go Go.Lift Go.Conc Go.RowKit
open Go.ConcN (upd upd_same upd_ne)
variable {k:Nat}
theorem StsO.at {N m:Nat}{cl:Nat->List Cl}:∀ {L:List Stp}{r:Ro},StsO N m cl r L->∀ j s,L[j]? = some s->StO N m cl ((L.take j).foldl (rsO m cl) r) s
 |x :: L,r,h,0,s,hs=>by obtain rfl:x=s:=by simpa using hs
                        exact h.1
 |x :: L,r,h,j+1,s,hs=>StsO.at h.2 j s (by simpa using hs)
theorem rsO_le (m:Nat) (cl:Nat->List Cl) (r:Ro) (s:Stp) (n:Nat) (h:∀ t,r.co t<=n∧r.wr t<=n∧r.st t<=n) (t:Nat):(rsO m cl r s).co t<=n+1∧(rsO m cl r s).wr t<=n+1∧(rsO m cl r s).st t<=n+1:=by
 have hu:∀ (f:Nat->Nat) (k x:Nat),(∀ t,f t<=n)->x<=n+1->upd f k x t<=n+1:=λf k x hf hx=>by by_cases e:t=k;subst e;rw[upd_same];exact hx;rw[upd_ne _ _ e];exact Nat.le_succ_of_le (hf t)
 have h0:r.co t<=n+1∧r.wr t<=n+1∧r.st t<=n+1:=⟨Nat.le_succ_of_le (h t).1,Nat.le_succ_of_le (h t).2.1,Nat.le_succ_of_le (h t).2.2⟩
 unfold rsO;split
 .split
  .split
   exact ⟨hu _ _ _ (λt=>(h t).1) (Nat.zero_le _),hu _ _ _ (λt=>(h t).2.1) (Nat.zero_le _),h0.2.2⟩;exact h0
  exact h0
 .split
  .split
   .split
    exact h0;exact h0
   exact h0
  .refine ⟨hu _ _ _ (λt=>(h t).1) (Nat.succ_le_succ (h _).1),?_,?_⟩
   .show (if _ then _ else _:Nat->Nat) t<=_
    split;exact h0.2.1;exact hu _ _ _ (λt=>(h t).2.1) (Nat.succ_le_succ (h _).2.1)
   .show (if _ then _ else _:Nat->Nat) t<=_
    split;exact hu _ _ _ (λt=>(h t).2.2) (Nat.succ_le_succ (h _).2.2);exact h0.2.2
theorem repO_le (m:Nat) (cl:Nat->List Cl):∀ (L:List Stp) (r:Ro) (n:Nat),(∀ t,r.co t<=n∧r.wr t<=n∧r.st t<=n)->∀ t,(L.foldl (rsO m cl) r).co t<=n+L.length∧(L.foldl (rsO m cl) r).wr t<=n+L.length∧(L.foldl (rsO m cl) r).st t<=n+L.length
 | [],r,n,h,t=>h t
 |s :: L,r,n,h,t=>by have:=repO_le m cl L (rsO m cl r s) (n+1) (λt=>rsO_le m cl r s n h t) t;rw[List.foldl_cons,List.length_cons];omega
structure M13 (m N B:Nat) (r:Ro) (u:World):Prop where
 s:u.rowIs B 3 m (λo=>I ((r.st o:Nat):Int))
 e:u.rowIs (B+1) 4 m (λo=>.bool (r.en o))
 l:u.rowIs (B+2) 4 N (λt=>.bool (r.la t))
 c:u.rowIs (B+3) 3 N (λt=>I ((r.co t:Nat):Int))
 w:u.rowIs (B+4) 3 N (λt=>I ((r.wr t:Nat):Int))
section
variable {m N B:Nat}{r:Ro}{u u':World}
theorem M13.same (h:M13 m N B r u) (e:u'.heap=u.heap):M13 m N B r u':=⟨h.s.of_block (by rw[e]),h.e.of_block (by rw[e]),h.l.of_block (by rw[e]),h.c.of_block (by rw[e]),h.w.of_block (by rw[e])⟩
theorem M13.alloc (h:M13 m N B r u) (o:Obj):M13 m N B r (u.alloc o):=⟨h.s.alloc o,h.e.alloc o,h.l.alloc o,h.c.alloc o,h.w.alloc o⟩
theorem upd_row {α:Type}(f:Nat->α) (k:Nat) (x:α) (g:α->Value) (i:Nat):(if i=k then g x else g (f i))=g (upd f k x i):=by by_cases e:i=k;subst e;rw[if_pos rfl,upd_same];rw[if_neg e,upd_ne _ _ e]
theorem M13.setS (h:M13 m N B r u) (k x:Nat):M13 m N B { r with st:=upd r.st k x } (u.setCell ⟨B,k,none⟩ (I (x:Int))):=⟨(h.s.set k _).congr λi _=>upd_row r.st k x (λy=>I ((y:Nat):Int)) i,h.e.setOther (by show B+1≠B;omega) _,h.l.setOther (by show B+2≠B;omega) _,h.c.setOther (by show B+3≠B;omega) _,h.w.setOther (by show B+4≠B;omega) _⟩
theorem M13.setE (h:M13 m N B r u) (k:Nat) (x:Bool):M13 m N B { r with en:=upd r.en k x } (u.setCell ⟨B+1,k,none⟩ (.bool x)):=⟨h.s.setOther (by show B≠B+1;omega) _,(h.e.set k _).congr λi _=>upd_row r.en k x Value.bool i,h.l.setOther (by show B+2≠B+1;omega) _,h.c.setOther (by show B+3≠B+1;omega) _,h.w.setOther (by show B+4≠B+1;omega) _⟩
theorem M13.setL (h:M13 m N B r u) (k:Nat) (x:Bool):M13 m N B { r with la:=upd r.la k x } (u.setCell ⟨B+2,k,none⟩ (.bool x)):=⟨h.s.setOther (by show B≠B+2;omega) _,h.e.setOther (by show B+1≠B+2;omega) _,(h.l.set k _).congr λi _=>upd_row r.la k x Value.bool i,h.c.setOther (by show B+3≠B+2;omega) _,h.w.setOther (by show B+4≠B+2;omega) _⟩
theorem M13.setC (h:M13 m N B r u) (k x:Nat):M13 m N B { r with co:=upd r.co k x } (u.setCell ⟨B+3,k,none⟩ (I (x:Int))):=⟨h.s.setOther (by show B≠B+3;omega) _,h.e.setOther (by show B+1≠B+3;omega) _,h.l.setOther (by show B+2≠B+3;omega) _,(h.c.set k _).congr λi _=>upd_row r.co k x (λy=>I ((y:Nat):Int)) i,h.w.setOther (by show B+4≠B+3;omega) _⟩
theorem M13.setW (h:M13 m N B r u) (k x:Nat):M13 m N B { r with wr:=upd r.wr k x } (u.setCell ⟨B+4,k,none⟩ (I (x:Int))):=⟨h.s.setOther (by show B≠B+4;omega) _,h.e.setOther (by show B+1≠B+4;omega) _,h.l.setOther (by show B+2≠B+4;omega) _,h.c.setOther (by show B+3≠B+4;omega) _,(h.w.set k _).congr λi _=>upd_row r.wr k x (λy=>I ((y:Nat):Int)) i⟩
end
def arrS (s:Stp):Array Value:=#[I s.th,I s.ce,I s.op,I s.ol,I s.ne]
structure R13 (m N B x g:Nat) (L:List Stp) (v0:World) (s:Stp) (r:Ro) (u:World):Prop where
 mem:M13 m N B r u
 stp:∀ (i:Nat) (y:Value),(arrS s)[i]? = some y->u.cell? ⟨x,i,none⟩=some y
 tr:∀ j y,(flat L)[j]? = some y->u.cell? ⟨g,j,none⟩=some y
 kq:Kq v0.heap.size v0 u
 far:B+4<x∧v0.heap.size<=B∧(∀ k,k<=4->g≠B+k)
section
variable {m N B x g:Nat}{L:List Stp}{v0:World}{s:Stp}{r r':Ro}{u u':World}
theorem R13.kqs (h:R13 m N B x g L v0 s r u) (hk:k<=4) (i:Nat) (y:Value) (hm:M13 m N B r' (u.setCell ⟨B+k,i,none⟩ y)):R13 m N B x g L v0 s r' (u.setCell ⟨B+k,i,none⟩ y):=by obtain ⟨f1,f2,f3⟩:=h.far;refine ⟨hm,λj z hz=>?_,λj z hz=>?_,h.kq.trans (Kq.set _ (by omega)),h.far⟩;rw[World.cell?_of_block (w:=u) (Below.heap_setCell _ _ _ _ (by show x≠B+k;omega))];exact h.stp j z hz;rw[World.cell?_of_block (w:=u) (Below.heap_setCell _ _ _ _ (f3 k hk))];exact h.tr j z hz
theorem R13.same (h:R13 m N B x g L v0 s r u) (e1:u'.heap=u.heap) (e2:u'.os=u.os) (e3:u'.output=u.output):R13 m N B x g L v0 s r u':=by have hc:∀ a,u'.cell? a=u.cell? a:=λa=>World.cell?_of_block (by rw[e1]);exact ⟨h.mem.same e1,λj z hz=>by rw[hc];exact h.stp j z hz,λj z hz=>by rw[hc];exact h.tr j z hz,h.kq.trans (Kq.same e1 e2 e3),h.far⟩
theorem R13.more (h:R13 m N B x g L v0 s r u) {c:Array Value}{ty:TypeId}(e1:u'.heap=(u.alloc (.cells c ty)).heap) (e2:u'.os=u.os) (e3:u'.output=u.output):R13 m N B x g L v0 s r u':=by
 have k:Kq u.heap.size u u':=⟨e2,e3,by rw[e1];show _<=(u.heap.push _).size;simp,λi hi=>by rw[e1];show (u.heap.push _)[i]? = _;rw[Qg,if_neg (by omega)]⟩
 exact ⟨(h.mem.alloc (.cells c ty)).same e1,λj z hz=>kq_all k _ _ (h.stp j z hz),λj z hz=>kq_all k _ _ (h.tr j z hz),h.kq.trans (k.le h.kq.size),h.far⟩
end
section
variable {m N B g b o cap T ct j x t:Nat}{L:List Stp}{v0:World}{s:Stp}{cl:Nat->List Cl}{ln cp rb ro:Nat->Nat}{pc:Nat->Option Addr}{r:Ro}{Q:Exit->Act->World->Prop}{a:Act}{u:World}
theorem s13_step (hm:m<=1000) {op:Int}(ho:s.op=op) (ht:s.th=(t:Int)) (htN:t<N) (h9:op≠9) (h10:op≠10) (hst:op=2->(∃ k,k<m∧s.ce=((2*k+1:Nat):Int)∧r.st k=0)∨(s.ce.tmod 2==1)=false∧s.ce % 2=0) (hle:∀ t,r.co t<1000000∧r.wr t<1000000)
 (h:R13 m N B x g L v0 s r u) (hA:Fl 173 [(0,.slice (some ⟨g,0,none⟩) T ct),(1,I (m:Nat)),(2,.slice (some ⟨b,o,none⟩) N cap),(7,.slice (some ⟨B,0,none⟩) m m),(8,.slice (some ⟨(B+1),0,none⟩) m m),(9,.slice (some ⟨(B+2),0,none⟩) N N),(10,.slice (some ⟨(B+3),0,none⟩) N N),(11,.slice (some ⟨(B+4),0,none⟩) N N),(12,I (j:Nat)),(13,Pt x 0),(14,I (t:Nat)),(53,I op)] a)
 (k:∀ a' w',Fl 173 [(0,.slice (some ⟨g,0,none⟩) T ct),(1,I (m:Nat)),(2,.slice (some ⟨b,o,none⟩) N cap),(7,.slice (some ⟨B,0,none⟩) m m),(8,.slice (some ⟨(B+1),0,none⟩) m m),(9,.slice (some ⟨(B+2),0,none⟩) N N),(10,.slice (some ⟨(B+3),0,none⟩) N N),(11,.slice (some ⟨(B+4),0,none⟩) N N),(12,I (j:Nat))] a'->R13 m N B x g L v0 s (rsO m cl r s) w'->Q .normal a' w'):
 (Code.seq q13_14 (.seq (.seq q13_15 (.cond (.tmp 62) q13_16 .skip)) (.seq q13_17 (.cond (.tmp 84) (.seq q13_18 (.seq q13_19 (.cond (.tmp 99) (.seq q13_20 .ret) .skip))) .skip)))).wp Tryd.prog Q a u:=by
 obtain ⟨th,ce,op',ol,ne⟩:=s;have ho:op'=op:=ho;have ht:th=(t:Int):=ht;subst ho ht;have hrs:rsO m cl r ⟨t,ce,op',ol,ne⟩=_:=A6 h9 h10;refine wp_then (p13_14 htN (by have:=(hle t).1;omega) (h.mem.c.cell htN) (h.mem.c.frozen _) hA) λa1 w1 q=>?_;obtain ⟨hA1,rfl⟩:=q;have h1:=h.kqs (k:=3) (by omega) t _ (h.mem.setC t (r.co t+1));refine wp_seq ?_;refine wp_then (p13_15 (h1.stp 2 _ rfl) hA1) λa2 w2 q=>?_;obtain ⟨hA2,rfl⟩:=q;have rest:∀ {a':Act} {w':World},Fl 173 [(0,.slice (some ⟨g,0,none⟩) T ct),(1,I (m:Nat)),(2,.slice (some ⟨b,o,none⟩) N cap),(7,.slice (some ⟨B,0,none⟩) m m),(8,.slice (some ⟨(B+1),0,none⟩) m m),(9,.slice (some ⟨(B+2),0,none⟩) N N),(10,.slice (some ⟨(B+3),0,none⟩) N N),(11,.slice (some ⟨(B+4),0,none⟩) N N),(12,I (j:Nat)),(13,Pt x 0),(14,I (t:Nat)),(53,I op')] a'->R13 m N B x g L v0 ⟨t,ce,op',ol,ne⟩ { r with co:=upd r.co t (r.co t+1),wr:=if op'=1 then r.wr else upd r.wr t (r.wr t+1) } w' ->
  (Code.seq q13_17 (.cond (.tmp 84) (.seq q13_18 (.seq q13_19 (.cond (.tmp 99) (.seq q13_20 .ret) .skip))) .skip)).wp Tryd.prog Q a' w':=by
  intro a' w' hA' h';by_cases h2:op'=2
  .subst h2
   rcases hst rfl with ⟨k1,hk1,hce,hs0⟩|⟨hce,hce2⟩
   .have hce:ce=((2*k1+1:Nat):Int):=hce
    have g2:(ce.tmod 2==1)=true:=by rw[hce,Int.tmod_eq_emod_of_nonneg (by omega)];simp
    have g3:wrap64 (ce.tdiv 2)=(k1:Int):=by rw[hce,Int.tdiv_eq_ediv_of_nonneg (by omega)];unfold wrap64;omega
    refine wp_then (p13_17c hk1 (h'.stp 1 _ rfl) g3 (h'.stp 2 _ rfl) g2 hA') λa3 w3 q=>?_;obtain ⟨hA3,rfl⟩:=q;refine wp_cond_true (hA3.hd rfl) ?_;have c1:=h'.mem.s.cell hk1;have c1:w3.cell? ⟨B,k1,none⟩=some (I ((0:Nat):Int)):=by rw[c1];show some (I ((r.st k1:Nat):Int))=_;rw[hs0]
    refine wp_then (p13_18 hk1 (h'.stp 1 _ rfl) g3 (by omega) c1 (h'.mem.s.frozen _) hA3.tl) λa4 w4 q=>?_;obtain ⟨hA4,rfl⟩:=q;have h4:R13 m N B x g L v0 _ _ (w3.setCell ⟨B,k1,none⟩ (I ((0+1:Nat):Int))):=h'.kqs (k:=0) (by omega) k1 _ (h'.mem.setS k1 (0+1));have d1:=h4.mem.s.cell hk1;refine wp_then (p13_19 (c:=1) hk1 (h4.stp 1 _ rfl) g3 (by rw[d1];show some (I ((upd r.st k1 (0+1) k1:Nat):Int))=_;rw[upd_same];rfl) (by omega) hA4) λa5 w5 q=>?_;obtain ⟨hA5,rfl⟩:=q;refine wp_cond_false (hA5.hf rfl) (wp_skip ?_);refine k _ _ (hA5.sub (by simp)) ?_;rw[hrs,if_pos ⟨rfl,by rw[hce];omega,by rw[hce];omega⟩];have e1:(ce / 2).toNat=k1:=by rw[hce];omega
    rw[e1,hs0];exact h4
   .refine wp_then (p13_17b (h'.stp 2 _ rfl) (h'.stp 1 _ rfl) hce hA') λa3 w3 q=>?_
    obtain ⟨hA3,rfl⟩:=q;refine wp_cond_false (hA3.hf rfl) (wp_skip ?_);refine k _ _ (hA3.sub (by simp)) ?_;rw[hrs,if_neg (λq=>by have:=q.2.1;have h9:ce % 2=0:=hce2;omega)];exact h'
  .refine wp_then (p13_17a (h'.stp 2 _ rfl) h2 hA') λa3 w3 q=>?_
   obtain ⟨hA3,rfl⟩:=q;refine wp_cond_false (hA3.hf rfl) (wp_skip ?_);refine k _ _ (hA3.sub (by simp)) ?_;rw[hrs,if_neg (λq=>h2 q.1)];exact h'
 by_cases h1':op'=1
 .subst h1'
  refine wp_cond_false (hA2.hf rfl) (wp_skip ?_);exact rest hA2.tl h1
 .refine wp_cond_true (hA2.hd (by simp[h1'])) ?_
  refine wp_last (p13_16 htN (by show r.wr t<1000000000;have:=(hle t).2;omega) (h1.mem.w.cell htN) (h1.mem.w.frozen _) hA2.tl) λa3 w3 q=>?_;obtain ⟨hA3,rfl⟩:=q;have h3:=h1.kqs (k:=4) (by omega) t _ (h1.mem.setW t (r.wr t+1));refine rest hA3 ?_;rw[if_neg h1'];exact h3
end
section
variable {m:Nat}{cl:Nat->List Cl}{r:Ro}{s:Stp}{t k:Nat}{c:Cl}
theorem rsO_9 (h9:s.op=9) (ht:s.th=(t:Int)) (hk:s.ol=(k:Int)) (hc:(cl t)[k]? = some c):rsO m cl r s=if 1<=c.po∧c.po<=4 then { r with la:=upd r.la t (r.en (which c.ca m)),co:=upd r.co t 0,wr:=upd r.wr t 0 } else r:=by unfold rsO;rw[if_pos h9,ht,hk];simp only[Int.toNat_natCast,hc]
theorem rsO_10 (h10:s.op=10) (ht:s.th=(t:Int)) (hk:s.ol=(k:Int)) (hc:(cl t)[k]? = some c):rsO m cl r s=if 1<=c.po∧c.po<=4 then { r with en:=upd r.en (which c.ca m) true } else r:=by unfold rsO;rw[if_neg (by rw[h10];decide),if_pos h10,ht,hk];simp only[Int.toNat_natCast,hc]
end
section
variable {m N B g b o cap T ct j x t:Nat}{L:List Stp}{v0:World}{s:Stp}{cl:Nat->List Cl}{ln cp rb ro:Nat->Nat}{pc:Nat->Option Addr}{r:Ro}{Q:Exit->Act->World->Prop}{a:Act}{u:World}
theorem s13_mark (h0:0<m) (hm:m<=1000) (hS:SL N b o ln cp rb ro pc cl v0) {op:Int}(ho:s.op=op) (hop:op=9∨op=10) (ht:s.th=(t:Int)) (htN:t<N) {c:Cl}(hk:s.ol=(k:Int)) (hc:(cl t)[k]? = some c) (hchk:op=10->isO c->r.la t=true->r.co t=2∧r.wr t=0)
 (h:R13 m N B x g L v0 s r u) (hA:Fl 173 [(0,.slice (some ⟨g,0,none⟩) T ct),(1,I (m:Nat)),(2,.slice (some ⟨b,o,none⟩) N cap),(7,.slice (some ⟨B,0,none⟩) m m),(8,.slice (some ⟨(B+1),0,none⟩) m m),(9,.slice (some ⟨(B+2),0,none⟩) N N),(10,.slice (some ⟨(B+3),0,none⟩) N N),(11,.slice (some ⟨(B+4),0,none⟩) N N),(12,I (j:Nat)),(13,Pt x 0),(14,I (t:Nat)),(53,I op)] a)
 (k1:∀ a' w',Fl 173 [(0,.slice (some ⟨g,0,none⟩) T ct),(1,I (m:Nat)),(2,.slice (some ⟨b,o,none⟩) N cap),(7,.slice (some ⟨B,0,none⟩) m m),(8,.slice (some ⟨(B+1),0,none⟩) m m),(9,.slice (some ⟨(B+2),0,none⟩) N N),(10,.slice (some ⟨(B+3),0,none⟩) N N),(11,.slice (some ⟨(B+4),0,none⟩) N N),(12,I (j:Nat))] a'->R13 m N B x g L v0 s (rsO m cl r s) w'->Q .normal a' w') (k2:∀ a' w',Fl 173 [(0,.slice (some ⟨g,0,none⟩) T ct),(1,I (m:Nat)),(2,.slice (some ⟨b,o,none⟩) N cap),(7,.slice (some ⟨B,0,none⟩) m m),(8,.slice (some ⟨(B+1),0,none⟩) m m),(9,.slice (some ⟨(B+2),0,none⟩) N N),(10,.slice (some ⟨(B+3),0,none⟩) N N),(11,.slice (some ⟨(B+4),0,none⟩) N N),(12,I (j:Nat))] a'->R13 m N B x g L v0 s (rsO m cl r s) w'->Q (.exit 1) a' w'):
 (Code.seq (.seq q13_23 (.cond (.tmp 115) (.seq q13_24 .ret) .skip)) (.seq q13_25 (.seq (.seq q13_26 (.cond (.tmp 131) (.exit 1) .skip)) (.seq q13_27 (.seq (.seq q13_28 (.cond (.tmp 138) (.seq q13_29 (.seq q13_30 (.seq q13_31 (.exit 1)))) .skip)) (.seq q13_32 (.seq q13_33 (.cond (.tmp 172) (.seq q13_34 .ret) .skip)))))))).wp Tryd.prog Q a u:=by
 have hkl:k<ln t:=by rw[<-hS.len t htN];exact (Qc hc).1
 have hpq:=hS.pq t htN (by omega);have c3:u.cell? ⟨x,3,none⟩=some (I (k:Nat)):=by rw[<-hk];exact h.stp 3 _ rfl
 refine wp_seq (wp_then (wp_nrm (p13_23 htN c3 ((hS.go h.kq).sr t htN) hkl hA)) λa1 w1 q=>?_);obtain ⟨hA1,e1,e2,e3⟩:=q;refine wp_cond_false (hA1.hf rfl) (wp_skip ?_);have h1:=h.same e1 e2 e3;have hS1:=hS.go h1.kq;have c3':w1.cell? ⟨x,3,none⟩=some (I (k:Nat)):=by rw[<-hk];exact h1.stp 3 _ rfl
 have sr:=hS1.sr t htN;rw[hpq] at sr;obtain ⟨d0,d1,d2,d3⟩:=hS1.sa t htN k c hc;show Code.wp _ _ _ _ _;refine wp_then (wp_nrm (p13_25 htN c3' sr hkl d0 d1 d2 d3 hA1.tl)) λa2 w2 q=>?_;obtain ⟨hA2,f1,f2,f3⟩:=q;have h2:=h1.more f1 f2 f3;have hy:w2.heap[w1.heap.size]? = some (.cells #[I c.po,I c.ca,I c.cb,I c.cc] 35 (0,0)):=by rw[f1];exact Qo
 have y0:w2.cell? ⟨w1.heap.size,0,none⟩=some (I c.po):=cell_of hy rfl;have y1:w2.cell? ⟨w1.heap.size,1,none⟩=some (I c.ca):=cell_of hy rfl;generalize w1.heap.size=y at hA2 y0 y1;clear hy f1 f2 f3 d0 d1 d2 d3 sr c3 c3';refine wp_seq ?_;by_cases hco:isO c
 .refine wp_then (p13_26y y0 hco.1 hco.2 hA2) λa3 w3 q=>?_
  obtain ⟨hA3,rfl⟩:=q;refine wp_cond_false (hA3.hf rfl) (wp_skip ?_);show Code.wp _ _ _ _ _;refine wp_then (p13_27 h0 hm y1 hA3.tl) λa4 w4 q=>?_;obtain ⟨hA4,rfl⟩:=q;refine wp_seq ?_;refine wp_then (p13_28 (by rw[<-ho];exact h2.stp 2 _ rfl) hA4) λa5 w5 q=>?_;obtain ⟨hA5,rfl⟩:=q;have hom:=which_lt c.ca h0;rcases hop with rfl|rfl
  .refine wp_cond_true (hA5.hd rfl) ?_
   have hr:rsO m cl r s={ r with la:=upd r.la t (r.en (which c.ca m)),co:=upd r.co t 0,wr:=upd r.wr t 0 }:=by rw[rsO_9 ho ht hk hc,if_pos (show 1<=c.po∧c.po<=4 from hco)]
   refine wp_then (p13_29 htN hom (h2.mem.e.cell hom) (h2.mem.l.cell htN) (h2.mem.l.frozen _) hA5.tl) λa6 w6 q=>?_;obtain ⟨hA6,rfl⟩:=q;have h6:=h2.kqs (k:=2) (by omega) t _ (h2.mem.setL t (r.en (which c.ca m)));refine wp_then (p13_30 htN (h6.mem.c.cell htN) (h6.mem.c.frozen _) hA6) λa7 w7 q=>?_;obtain ⟨hA7,rfl⟩:=q;have h7:=h6.kqs (k:=3) (by omega) t _ (h6.mem.setC t 0);refine wp_then (p13_31 htN (h7.mem.w.cell htN) (h7.mem.w.frozen _) hA7) λa8 w8 q=>?_;obtain ⟨hA8,rfl⟩:=q;have h8:=h7.kqs (k:=4) (by omega) t _ (h7.mem.setW t 0);refine wp_exit (k2 _ _ (hA8.sub (by simp)) ?_);rw[hr];exact h8
  .refine wp_cond_false (hA5.hf rfl) (wp_skip ?_)
   have hr:rsO m cl r s={ r with en:=upd r.en (which c.ca m) true }:=by rw[rsO_10 ho ht hk hc,if_pos (show 1<=c.po∧c.po<=4 from hco)]
   show Code.wp _ _ _ _ _;refine wp_then (p13_32 hom (h2.mem.e.cell hom) (h2.mem.e.frozen _) hA5.tl) λa6 w6 q=>?_;obtain ⟨hA6,rfl⟩:=q;have h6:=h2.kqs (k:=1) (by omega) (which c.ca m) _ (h2.mem.setE (which c.ca m) true);have fin:∀ a' w',Fl 173 [(172,.bool false),(0,.slice (some ⟨g,0,none⟩) T ct),(1,I (m:Nat)),(2,.slice (some ⟨b,o,none⟩) N cap),(7,.slice (some ⟨B,0,none⟩) m m),(8,.slice (some ⟨(B+1),0,none⟩) m m),(9,.slice (some ⟨(B+2),0,none⟩) N N),(10,.slice (some ⟨(B+3),0,none⟩) N N),(11,.slice (some ⟨(B+4),0,none⟩) N N),(12,I (j:Nat)),(13,Pt x 0),(14,I (t:Nat)),(53,I 10),(15,Pt y 0),(16,I (which c.ca m:Nat))] a'∧w'=w5.setCell ⟨B+1,which c.ca m,none⟩ (.bool true)->(Code.cond (.tmp 172) (.seq q13_34 .ret) .skip).wp Tryd.prog Q a' w':=λa' w' q=>by obtain ⟨hA7,rfl⟩:=q;refine wp_cond_false (hA7.hf rfl) (wp_skip ?_);refine k1 _ _ (hA7.sub (by simp)) ?_;rw[hr];exact h6
   have l1:=h6.mem.l.cell htN;cases hla:r.la t with
   |false=>exact wp_then (p13_33n htN (by rw[l1];show some (Value.bool (r.la t))=_;rw[hla]) hA6) fin
   |true =>obtain ⟨z1,z2⟩:=hchk rfl hco hla;exact wp_then (p13_33y htN (by rw[l1];show some (Value.bool (r.la t))=_;rw[hla]) (by rw[h6.mem.c.cell htN];show some (I ((r.co t:Nat):Int))=_;rw[z1];rfl) (by rw[h6.mem.w.cell htN];show some (I ((r.wr t:Nat):Int))=_;rw[z2];rfl) hA6) fin
 .have hr:rsO m cl r s=r:=by rcases hop with rfl|rfl;rw[rsO_9 ho ht hk hc,if_neg (show ¬ (1<=c.po∧c.po<=4) from hco)];rw[rsO_10 ho ht hk hc,if_neg (show ¬ (1<=c.po∧c.po<=4) from hco)]
  by_cases hlo:c.po<1
  .refine wp_then (p13_26a y0 hlo hA2) λa3 w3 q=>?_
   obtain ⟨hA3,rfl⟩:=q;exact wp_cond_true (hA3.hd rfl) (wp_exit (k2 _ _ (hA3.sub (by simp)) (by rw[hr];exact h2)))
  .have hhi:4<c.po:=by have:¬ (1<=c.po∧c.po<=4):=hco;omega
   refine wp_then (p13_26b y0 hhi hA2) λa3 w3 q=>?_;obtain ⟨hA3,rfl⟩:=q;exact wp_cond_true (hA3.hd rfl) (wp_exit (k2 _ _ (hA3.sub (by simp)) (by rw[hr];exact h2)))
end
theorem fl_three {n:Nat}(x y z:Value) (h:n=k+3):Fl n [(0,x),(1,y),(2,z)] { tmps:=#[x,y,z]++Array.replicate k undef,defers:=[] }:=by refine ⟨by simp;omega,rfl,λp hp=>?_⟩;simp only[Sm,or_false] at hp;rcases hp with rfl|rfl|rfl;simp[Qe,Array.getElem?_append];simp[Qe,Array.getElem?_append];simp[Qe,Array.getElem?_append]
section
variable {m N b o cap T ct:Nat}{p:Option Addr}{g:Nat}{L:List Stp}{v:World}{cl:Nat->List Cl}{ln cp rb ro:Nat->Nat}{pc:Nat->Option Addr}
theorem s13_round {j:Nat}{s:Stp}{r:Ro}{Q:Exit->Act->World->Prop}{a:Act}{u:World}(h0:0<m) (hm:m<=1000) (hS:SL N b o ln cp rb ro pc cl v) (hlt:j<T) (hs:L[j]? = some s) (hst:StO N m cl r s) (hgB:g<v.heap.size) (hle:∀ t,r.co t<1000000∧r.wr t<1000000)
 (hg:∀ j x,(flat L)[j]? = some x->u.cell? ⟨g,j,none⟩=some x) (hM:M13 m N v.heap.size r u) (hk:Kq v.heap.size v u) (hA:Fl 173 [(0,.slice (some ⟨g,0,none⟩) T ct),(1,I (m:Nat)),(2,.slice (some ⟨b,o,none⟩) N cap),(7,.slice (some ⟨v.heap.size,0,none⟩) m m),(8,.slice (some ⟨(v.heap.size+1),0,none⟩) m m),(9,.slice (some ⟨(v.heap.size+2),0,none⟩) N N),(10,.slice (some ⟨(v.heap.size+3),0,none⟩) N N),(11,.slice (some ⟨(v.heap.size+4),0,none⟩) N N),(12,I (j:Nat))] a)
 (k1:∀ a' w',Fl 173 [(0,.slice (some ⟨g,0,none⟩) T ct),(1,I (m:Nat)),(2,.slice (some ⟨b,o,none⟩) N cap),(7,.slice (some ⟨v.heap.size,0,none⟩) m m),(8,.slice (some ⟨(v.heap.size+1),0,none⟩) m m),(9,.slice (some ⟨(v.heap.size+2),0,none⟩) N N),(10,.slice (some ⟨(v.heap.size+3),0,none⟩) N N),(11,.slice (some ⟨(v.heap.size+4),0,none⟩) N N),(12,I (j:Nat))] a'->M13 m N v.heap.size (rsO m cl r s) w'∧Kq v.heap.size v w'->Q .normal a' w') (k2:∀ a' w',Fl 173 [(0,.slice (some ⟨g,0,none⟩) T ct),(1,I (m:Nat)),(2,.slice (some ⟨b,o,none⟩) N cap),(7,.slice (some ⟨v.heap.size,0,none⟩) m m),(8,.slice (some ⟨(v.heap.size+1),0,none⟩) m m),(9,.slice (some ⟨(v.heap.size+2),0,none⟩) N N),(10,.slice (some ⟨(v.heap.size+3),0,none⟩) N N),(11,.slice (some ⟨(v.heap.size+4),0,none⟩) N N),(12,I (j:Nat))] a'->M13 m N v.heap.size (rsO m cl r s) w'∧Kq v.heap.size v w'->Q (.exit 1) a' w'):K13_1.wp Tryd.prog Q a u:=by
 unfold K13_1;obtain ⟨f0,f1,f2,f3,f4⟩:=flat_get L j s hs;obtain ⟨t,ht,htN,hrg,hchk,hst2⟩:=hst;refine wp_then (p13_9 hlt (hg _ _ f0) (hg _ _ f1) (hg _ _ f2) (hg _ _ f3) (hg _ _ f4) hA) λa4 w4 q=>?_;obtain ⟨hA4,hw4⟩:=q;have hlr:=hM.w.lt;have k4:Kq u.heap.size u w4:=hw4▸Kq.alloc _ (Qi _);have hR:R13 m N v.heap.size u.heap.size g L v s r w4:=by refine ⟨hw4▸hM.alloc _,λi y hy=>?_,λj y h=>kq_all k4 _ _ (hg j y h),hk.trans (k4.le hk.size),hlr,Qi _,λk _=>by omega⟩;rw[hw4];exact cell_of (v:=u.alloc (.cells #[I s.th,I s.ce,I s.op,I s.ol,I s.ne] 60)) (b:=u.heap.size) Qo hy
 generalize u.heap.size=x at hA4 hR;clear hw4 k4 hg hM hk hlr;have c0:=hR.stp 0 (I s.th) rfl;rw[ht] at c0;refine wp_seq (wp_then (p13_10 c0 htN hA4) λa5 w5 q=>?_);obtain ⟨hA5,rfl⟩:=q;refine wp_cond_false (hA5.hf rfl) (wp_skip ?_);show Code.wp _ _ _ _ _;refine wp_then (p13_12 c0 hA5.tl) λa6 w6 q=>?_;obtain ⟨hA6,rfl⟩:=q;refine wp_then (p13_13 (hR.stp 2 _ rfl) hA6) λa7 w7 q=>?_;obtain ⟨hA7,rfl⟩:=q;refine wp_block ?_;unfold K13_2;refine wp_seq (wp_then (p13_21 hA7) λa8 w8 q=>?_);obtain ⟨hA8,rfl⟩:=q;by_cases h9:s.op=9
 .refine wp_cond_true (hA8.hd (by simp[h9])) (wp_skip ?_)
  show Code.wp _ _ _ _ _;refine wp_cond_true (hA8.hd (by simp[h9])) ?_;obtain ⟨k,hk,hkl⟩:=hrg (.inl h9);obtain ⟨c,hc⟩:∃ c,(cl t)[k]? = some c:=⟨_,Qf hkl⟩
  exact s13_mark h0 hm hS rfl (.inl h9) ht htN hk hc (λq=>by rw[h9] at q;cases q) hR hA8.tl (λa' w' q1 q2=>k1 a' w' q1 ⟨q2.mem,q2.kq⟩) (λa' w' q1 q2=>k2 a' w' q1 ⟨q2.mem,q2.kq⟩)
 .refine wp_cond_false (hA8.hf (by simp[h9])) ?_
  refine wp_last (p13_22 hA8.tl) λa9 w9 q=>?_;obtain ⟨hA9,rfl⟩:=q;show Code.wp _ _ _ _ _;by_cases h10:s.op=10
  .refine wp_cond_true (hA9.hd (by simp[h10])) ?_
   obtain ⟨k,hk,hkl⟩:=hrg (.inr h10);obtain ⟨c,hc⟩:∃ c,(cl t)[k]? = some c:=⟨_,Qf hkl⟩
   exact s13_mark h0 hm hS rfl (.inr h10) ht htN hk hc (λ_=>hchk h10 k c hk hc) hR hA9.tl (λa' w' q1 q2=>k1 a' w' q1 ⟨q2.mem,q2.kq⟩) (λa' w' q1 q2=>k2 a' w' q1 ⟨q2.mem,q2.kq⟩)
  .refine wp_cond_false (hA9.hf (by simp[h10])) ?_
   refine s13_step (cl:=cl) hm rfl ht htN h9 h10 (λq=>?_) hle hR hA9.tl (λa' w' q1 q2=>k1 a' w' q1 ⟨q2.mem,q2.kq⟩);obtain ⟨⟨kk,hkk,hlk⟩,hz⟩:=hst2 q;by_cases hev:kk % 2=0
   .right
    rw[hkk];refine ⟨?_,by omega⟩;rw[Int.tmod_eq_emod_of_nonneg (by omega)];have:((kk:Int) % 2)=0:=by omega
    rw[this];rfl
   .left
    exact ⟨kk / 2,by omega,by rw[hkk];omega,hz (kk / 2) (by omega) (by rw[hkk];omega)⟩
theorem steps_any (h0:0<m) (hm:m<=1000) (hN:N<=8) (hS:SL N b o ln cp rb ro pc cl v) (hT:T=L.length) (hT4:T<=400000) (hp:0<T->p=some ⟨g,0,none⟩) (hg:∀ j x,(flat L)[j]? = some x->v.cell? ⟨g,j,none⟩=some x) (hst:StsO N m cl ro0 L):
 Body Tryd.f22 #[.slice p T ct,I (m:Nat),.slice (some ⟨b,o,none⟩) N cap] v (λr w'=>r=.bool true∧Grows v w'):=by
 intro code hb;have hw0:code=C13:=by unfold C13;rw[hb];rfl
 subst hw0;clear hb;rw[e13];have hA:Fl 173 [(0,.slice p T ct),(1,I (m:Nat)),(2,.slice (some ⟨b,o,none⟩) N cap)] _:=fl_three (n:=173) (k:=170) (.slice p T ct) (I (m:Nat)) (.slice (some ⟨b,o,none⟩) N cap) rfl;rw[show Tryd.f22.ntmps - #[Value.slice p T ct,I (m:Nat),Value.slice (some ⟨b,o,none⟩) N cap].size=170 from rfl];generalize ({ tmps:=#[Value.slice p T ct,I (m:Nat),Value.slice (some ⟨b,o,none⟩) N cap]++Array.replicate 170 undef,defers:=[] }:Act)=a0 at hA;refine wp_then (p13_0 hA) λa1 w1 q=>?_;obtain ⟨hA1,rfl⟩:=q;have hA1':Fl 173 [(0,.slice p T ct),(1,I (m:Nat)),(2,.slice (some ⟨b,o,none⟩) N cap)] a1:=hA1.sub (by simp);refine wp_then (p13_1 hm hA1') λa2 w2 q=>?_;obtain ⟨hA2,hw2⟩:=q;have r1:w2.rowIs w1.heap.size 3 m (λ_=>I 0):=hw2▸World.rowIs_made w1 (I 0) m 3;have z2:w2.heap.size=w1.heap.size+1:=by rw[hw2];simp
 have k2:Kq w1.heap.size w1 w2:=hw2▸Kq.alloc _ (Qi _);refine wp_then (p13_2 hm hA2) λa3 w3 q=>?_;obtain ⟨hA3,hw3⟩:=q;rw[z2] at hA3;have r2:w3.rowIs (w1.heap.size+1) 4 m (λ_=>.bool false):=by rw[hw3,<-z2];exact World.rowIs_made w2 (.bool false) m 4
 have r1:w3.rowIs w1.heap.size 3 m (λ_=>I 0):=hw3▸r1.alloc _;have z3:w3.heap.size=w1.heap.size+2:=by rw[hw3];simp;omega
 have k3:Kq w1.heap.size w1 w3:=k2.trans (hw3▸(Kq.alloc _ (by omega)));refine wp_then (p13_3 hN hA3) λa4 w4 q=>?_;obtain ⟨hA4,hw4⟩:=q;rw[z3] at hA4;have r3:w4.rowIs (w1.heap.size+2) 4 N (λ_=>.bool false):=by rw[hw4,<-z3];exact World.rowIs_made w3 (.bool false) N 4
 have r2:w4.rowIs (w1.heap.size+1) 4 m (λ_=>.bool false):=hw4▸r2.alloc _;have r1:w4.rowIs w1.heap.size 3 m (λ_=>I 0):=hw4▸r1.alloc _;have z4:w4.heap.size=w1.heap.size+3:=by rw[hw4];simp;omega
 have k4:Kq w1.heap.size w1 w4:=k3.trans (hw4▸(Kq.alloc _ (by omega)));refine wp_then (p13_4 hN hA4) λa5 w5 q=>?_;obtain ⟨hA5,hw5⟩:=q;rw[z4] at hA5;have r4:w5.rowIs (w1.heap.size+3) 3 N (λ_=>I 0):=by rw[hw5,<-z4];exact World.rowIs_made w4 (I 0) N 3
 have r3:w5.rowIs (w1.heap.size+2) 4 N (λ_=>.bool false):=hw5▸r3.alloc _;have r2:w5.rowIs (w1.heap.size+1) 4 m (λ_=>.bool false):=hw5▸r2.alloc _;have r1:w5.rowIs w1.heap.size 3 m (λ_=>I 0):=hw5▸r1.alloc _;have z5:w5.heap.size=w1.heap.size+4:=by rw[hw5];simp;omega
 have k5:Kq w1.heap.size w1 w5:=k4.trans (hw5▸(Kq.alloc _ (by omega)));refine wp_then (p13_5 hN hA5) λa6 w6 q=>?_;obtain ⟨hA6,hw6⟩:=q;rw[z5] at hA6;have r5:w6.rowIs (w1.heap.size+4) 3 N (λ_=>I 0):=by rw[hw6,<-z5];exact World.rowIs_made w5 (I 0) N 3
 have hM:M13 m N w1.heap.size ro0 w6:=⟨(hw6▸r1.alloc _:w6.rowIs w1.heap.size 3 m (λ_=>I 0)),(hw6▸r2.alloc _:w6.rowIs (w1.heap.size+1) 4 m (λ_=>.bool false)),(hw6▸r3.alloc _:w6.rowIs (w1.heap.size+2) 4 N (λ_=>.bool false)),(hw6▸r4.alloc _:w6.rowIs (w1.heap.size+3) 3 N (λ_=>I 0)),r5⟩
 have k6:Kq w1.heap.size w1 w6:=k5.trans (hw6▸(Kq.alloc _ (by omega)));clear hw2 hw3 hw4 hw5 hw6 r1 r2 r3 r4 r5 z2 z3 z4 z5 k2 k3 k4 k5 hA hA1 hA1' hA2 hA3 hA4 hA5;refine wp_seq (wp_then (p13_6 hA6) λa7 w7 q=>?_);obtain ⟨hA7,rfl⟩:=q;have hgB:0<T->g<w1.heap.size:=λh=>by
  obtain ⟨s,hs⟩:∃ s,L[0]? = some s:=⟨_,Qf (by omega)⟩
  exact World.block_lt_of_cell? _ _ (hg _ _ (flat_get L 0 s hs).1)
 unfold K13_0;refine wp_while (t:=33) (λc a x=>∃ j,j<=T∧c=T - j∧Fl 173 [(0,.slice p T ct),(1,I (m:Nat)),(2,.slice (some ⟨b,o,none⟩) N cap),(7,.slice (some ⟨w1.heap.size,0,none⟩) m m),(8,.slice (some ⟨(w1.heap.size+1),0,none⟩) m m),(9,.slice (some ⟨(w1.heap.size+2),0,none⟩) N N),(10,.slice (some ⟨(w1.heap.size+3),0,none⟩) N N),(11,.slice (some ⟨(w1.heap.size+4),0,none⟩) N N),(12,I (j:Nat))] a∧M13 m N w1.heap.size (repO m cl (L.take j)) x∧Kq w1.heap.size w1 x) T ⟨0,Nat.zero_le _,rfl,hA7,hM,k6⟩ ?_;clear hA7 hM k6 hA6;rintro c a2 u ⟨j,hj,rfl,hA2,hM,hk⟩;refine ⟨_,p13_7 hA2,?_⟩;rintro a3 u3 ⟨hA3,rfl⟩;by_cases hlt:j<T
 .refine .inr ⟨hA3.hd (by simp[hlt]),?_⟩
  refine wp_seq (wp_block ?_);have hp':=hp (by omega);have hgB':=hgB (by omega);subst hp';obtain ⟨s,hs⟩:∃ s,L[j]? = some s:=⟨_,Qf (by omega)⟩
  have hrep:repO m cl (L.take (j+1))=rsO m cl (repO m cl (L.take j)) s:=by rw[List.take_add_one,hs];unfold repO;rw[List.foldl_append];rfl
  have hle:=repO_le m cl (L.take j) ro0 0 (λt=>⟨Qi _,Qi _,Qi _⟩);have hlj:(L.take j).length<=400000:=by rw[List.length_take];omega
  have go:∀ a' w',Fl 173 [(0,.slice (some ⟨g,0,none⟩) T ct),(1,I (m:Nat)),(2,.slice (some ⟨b,o,none⟩) N cap),(7,.slice (some ⟨w1.heap.size,0,none⟩) m m),(8,.slice (some ⟨(w1.heap.size+1),0,none⟩) m m),(9,.slice (some ⟨(w1.heap.size+2),0,none⟩) N N),(10,.slice (some ⟨(w1.heap.size+3),0,none⟩) N N),(11,.slice (some ⟨(w1.heap.size+4),0,none⟩) N N),(12,I (j:Nat))] a'->M13 m N w1.heap.size (rsO m cl (repO m cl (L.take j)) s) w'∧Kq w1.heap.size w1 w'->q13_8.wp Tryd.prog (λe a'' w''=>e=.normal∧Fl 173 [(0,.slice (some ⟨g,0,none⟩) T ct),(1,I (m:Nat)),(2,.slice (some ⟨b,o,none⟩) N cap),(7,.slice (some ⟨w1.heap.size,0,none⟩) m m),(8,.slice (some ⟨(w1.heap.size+1),0,none⟩) m m),(9,.slice (some ⟨(w1.heap.size+2),0,none⟩) N N),(10,.slice (some ⟨(w1.heap.size+3),0,none⟩) N N),(11,.slice (some ⟨(w1.heap.size+4),0,none⟩) N N),(12,I ((j+1:Nat):Int))] a''∧w''=w') a' w':=λa' w' hA' _=>p13_8 (by omega) hA';refine s13_round h0 hm hS hlt hs (hst.at j s hs) hgB' (λt=>⟨by have:=(hle t).1;have:(repO m cl (L.take j)).co t<=0+(L.take j).length:=this;omega,by have:=(hle t).2.1;have:(repO m cl (L.take j)).wr t<=0+(L.take j).length:=this;omega⟩) (λj y h=>kq_all hk _ _ (hg j y h)) hM hk hA3.tl (λa' w' hA' hR=>?_) (λa' w' hA' hR=>?_)
  .refine wp_last (go a' w' hA' hR) λa'' w'' q=>?_
   obtain ⟨q1,rfl⟩:=q;exact ⟨T - (j+1),by omega,j+1,by omega,rfl,q1,by rw[hrep];exact hR.1,hR.2⟩
  .refine wp_last (go a' w' hA' hR) λa'' w'' q=>?_
   obtain ⟨q1,rfl⟩:=q;exact ⟨T - (j+1),by omega,j+1,by omega,rfl,q1,by rw[hrep];exact hR.1,hR.2⟩
 .refine .inl ⟨hA3.hf (by simp[hlt]),?_⟩
  have hA9:Fl 173 [] a3:=hA3.sub (by simp);refine wp_then (p13_35 hA9) λa9 w9 q=>?_;obtain ⟨hA10,rfl⟩:=q;refine wp_ret ⟨hA10.2.1,_,results_tmp (t:=6) rfl _ _ _,_,rfl,hA10.2.2 (6,.bool true) (by simp),hk.grows (Qi _)⟩
end
end Go.Proofs.YtfjjoohflcchnaaDoor.Gen
namespace Go.Proofs.YtfjjoohflcchnaaDoor.Gen
open Go Go.Lift Go.Conc Go.RowKit
variable {W:World} {p:Option Addr} {n o:Nat} {mc:Mc}
def InR (x:Int):Prop:=-9223372036854775808<=x∧x<9223372036854775808
def Cl.ok (c:Cl):Prop:=InR c.cb∧InR c.cc
structure InI (W:World) (p:Option Addr) (b o:Nat) (xs:List Int):Prop where
 at_:0<xs.length->p=some ⟨b,o,none⟩
 cell:∀ k x,xs[k]? = some x->W.cell? ⟨b,o+k,none⟩=some (I x)
 inr:∀ x∈xs,InR x
 len:xs.length<=17592186043904
theorem InI.grows {W':World}{b:Nat}{xs:List Int}(h:InI W p b o xs) (g:Grows W W'):InI W' p b o xs :=
 ⟨h.at_,λk x hk=>g.cell (h.cell k x hk),h.inr,h.len⟩
structure InS (W:World) (p:Option Addr) (b o n:Nat) (pc:Nat->Option Addr) (ln cp rb:Nat->Nat) (cl:Nat->List Cl):Prop where
 at_:0<n->p=some ⟨b,o,none⟩
 row:∀ k,k<n->W.cell? ⟨b,o+k,none⟩=some (.slice (pc k) (ln k) (cp k))
 len:∀ j,j<n->(cl j).length=ln j
 pq:∀ j,j<n->0<ln j->pc j=some ⟨rb j,roOf (pc j),none⟩
 call:∀ j,j<n->∀ (k:Nat) (c:Cl),(cl j)[k]? = some c->W.cell? ⟨rb j,roOf (pc j)+k*4,none⟩=some (I c.po)∧W.cell? ⟨rb j,roOf (pc j)+k*4+1,none⟩=some (I c.ca)∧W.cell? ⟨rb j,roOf (pc j)+k*4+2,none⟩=some (I c.cb)∧W.cell? ⟨rb j,roOf (pc j)+k*4+3,none⟩=some (I c.cc)
 ok:∀ j,j<n->∀ c∈cl j,InR c.ca∧c.ok
 n:n<=17592186043904
theorem InS.grows {W':World}{b:Nat}{pc:Nat->Option Addr}{ln cp rb:Nat->Nat}{cl:Nat->List Cl}(h:InS W p b o n pc ln cp rb cl) (g:Grows W W'):InS W' p b o n pc ln cp rb cl :=
 ⟨h.at_,λk hk=>g.cell (h.row k hk),h.len,h.pq,λj hj k c hc=>by have:=h.call j hj k c hc;exact ⟨g.cell this.1,g.cell this.2.1,g.cell this.2.2.1,g.cell this.2.2.2⟩,h.ok,h.n⟩
theorem lens_scrs (mc:Mc) (fid:FuncId) (caps:Array Value) (pk:Nat->Option Obj) (N n:Nat) (K:List (Nat×Int)) (pc:Nat->Option Addr) (ln cp rb:Nat->Nat) (cl:Nat->List Cl) (hl:∀ j,j<n->(cl j).length<=64):lens (scrs mc fid caps pk N n K pc ln cp rb cl)<=64*n:=by
 unfold lens scrs;rw[List.map_map];have:∀ (m j:Nat),j+m<=n->((List.range' j m).map ((λs:Scr mc=>s.calls.length) ∘ scrOf mc fid caps pk N n (K.map (·.1)) pc ln cp rb cl)).sum<=64*m:=by
  intro m;induction m with
  |zero=>intro j _;simp
  |succ m ih =>intro j hj;rw[List.range'_succ,List.map_cons,List.sum_cons];have h1:=ih (j+1) (by omega);have h2:((λs:Scr mc=>s.calls.length) ∘ scrOf mc fid caps pk N n (K.map (·.1)) pc ln cp rb cl) j<=64:=hl j (by omega);omega
 exact this n 0 (by omega)
theorem scrs_len (mc:Mc) (fid:FuncId) (caps:Array Value) (pk:Nat->Option Obj) (N n:Nat) (K:List (Nat×Int)) (pc:Nat->Option Addr) (ln cp rb:Nat->Nat) (cl:Nat->List Cl):(scrs mc fid caps pk N n K pc ln cp rb cl).length=n:=by simp[scrs]
theorem asked_of {v:World}{b:Nat}{pc:Nat->Option Addr}{ln cp rb:Nat->Nat}{cl:Nat->List Cl}(h:InS W p b o n pc ln cp rb cl) {xs:List Int}{wb bk:Nat}{sc:Value}(hn:IsNew W xs wb bk sc v) (h64:∀ j,j<n->ln j<=64) (h0:0<n):Asked v (newS wb bk W.heap.size sc xs) n b o pc ln cp rb cl:=by
 have g:=h.grows hn.old;have far:∀ (a:Addr) (x:Value),W.cell? a=some x->¬ Own (newS wb bk W.heap.size sc xs) [] a.block:=λa x ha ho=>by have:=hn.new _ (.inl ho);have:=World.block_lt_of_cell? _ _ ha;omega
 refine ⟨λj hj=>⟨h.len j hj,h64 j hj⟩,g.row,far _ _ (h.row 0 h0),λj hj hl=>⟨h.pq j hj hl,?_⟩,g.call,λj hj c hc=>(h.ok j hj c hc).1⟩;obtain ⟨c,hc⟩:∃ c,(cl j)[0]? = some c:=⟨_,Qf (by rw[h.len j hj];exact hl)⟩
 exact far _ _ (h.call j hj 0 c hc).1
theorem going_wb (S:TS) (i:Nat) (t:Thr):(going S i t).wb=S.wb:=by
 unfold going;first
  |rfl
  |(unfold picked;split<;>rfl)
  |(split<;>rfl)
theorem pturn_wb {p p':PSt}(h:pturn mc p=some p'):p'.S.wb=p.S.wb:=by
 unfold pturn at h;split at h
 .split at h
  cases h;rfl;cases h
 .cases h
  exact (resume_sta _ _ _ _ _).wb.trans (going_wb _ _ _)
theorem turns_wb {m:Nat}{p p':PSt}(h:Turns mc m p p'):p'.S.wb=p.S.wb:=by
 induction h with
 |stop _=>rfl
 |step h1 _ ih=>exact ih.trans (pturn_wb h1)
theorem hires_wb {k:Nat}{ss:List (Scr mc)}{S S':TS}{l l':Nat->Ph}(h:Hires mc k ss S l S' l'):S'.wb=S.wb:=by
 induction h with
 |nil=>rfl
 |cons tv tb gc _ ih=>exact ih.trans (flow_sta _ _ _ _ _ _ _).wb
section
variable {m:Nat}{X:Fix (mcO m)}{z:Nat->Option Nat}{cont:Addr->Value}{Ch:Nat->Prop}{Stop:Goroutine->World->Prop}{cu:Value->Goroutine}{S0:TS}{K0:List (Nat×Int)}{v0:World}{Mo0 M:Nat->Option Obj}{σ:TS}{κ:List (Nat×Int)}{S:TS}{v w:World}{t:Thr}{H:Nx->(Nat->Option Obj)->Goroutine->Prop}
variable {o ob kp cw cv:Nat}{k b:Int}{d:Nat}{f:Frs}{rb b3 b4 b5:Nat}{a:Act}
theorem look_goes (hD:ODat X o ob kp cw cv) (hk:0<=k∧k<=3) (hf:f.Ok) (hC:OCtx (X.h==0) X.tb kp ob k b d M f.ret cu) (hB:Box3 ob X.tb k b b3 b4 b5 M) (hr:M rb=none) (hA:GF kp X.tb b3 b4 b5 rb a) (hH:∀ x Mo' g,Good v0 Mo0 x Mo'->oSit X x Mo' cu g->H x Mo' g)
 (hob:Ob X H z cont Ch Stop cu S0 K0 v0 Mo0 σ κ (.turn 1 (2*o) (1,lO o k b d X.i))) (N:NowP X z cont Ch S0 K0 v0 Mo0 (uni (oneM rb Af) M) σ κ S v w t):
 GoesI Tryd.prog (X.h==0) (DT (ScZ z) Ch) Stop (G (gFr a) f.stack) w:=by
 have htb:=N.now.at_.tb;have hgc:=N.now.at_.gc;rw[<-htb] at hA;refine get_look (h:=X.h) (i:=X.i) (j:=2*o) (cb:=cw) (kp:=kp) (rb:=rb) (cont:=cont) (cellAt κ (2*o)).2 (hD.mem v N.now.at_.pk).2.2.1 hA _ (H (.turn 1 (2*o) (1,lO o k b d X.i)) (uni (oneM rb Af) M)) (λg hg=>?_) N.now.at_.rel N.now.at_.noRow N.now.at_.mem N.now.at_.thr (N.now.cell hD.kw).1 (by rw[htb];exact N.now.at_.z) (by rw[htb,hgc];exact N.now.at_.cont) (ob_turn hob N.now);obtain ⟨a2,hA2,hg⟩:=hg;rw[htb] at hA2 hg;exact hH _ _ g (N.now.good (λ_ _ h=>by cases h)) ⟨N.now.row,o,ob,kp,cw,cv,k,b,d,f,rb,b3,b4,b5,a2,M,hD,hk,hf,hC,hB,hr,hA2,.inl ⟨rfl,.inl ⟨rfl,hg⟩⟩⟩
theorem done_goes {e y:Int}(he:0<=e∧e<1048576) (he4:e≠4) (hD:ODat X o ob kp cw cv) (hk:0<=k∧k<=3) (hf:f.Ok) (hC:OCtx (X.h==0) X.tb kp ob k b d M f.ret cu) (hB:Box3 ob X.tb k b b3 b4 b5 M) (hr:M rb=none) (hA:Fl 62 [(0,Pt kp 0),(1,Pt X.tb 0),(2,.func (.func 65) #[] #[Pt b3 0,Pt b4 0,Pt b5 0]),(6,Pt rb 0),(57,Pt kp 0),(58,Pt X.tb 0)] a) (hH:∀ x Mo' g,Good v0 Mo0 x Mo'->oSit X x Mo' cu g->H x Mo' g)
 (hob:Ob X H z cont Ch Stop cu S0 K0 v0 Mo0 σ κ (.turn 2 (2*o+1) (5,lO o k b d X.i++[e,y]))) (N:NowP X z cont Ch S0 K0 v0 Mo0 (uni (oneM rb Af) M) σ κ S v w t):
 GoesI Tryd.prog (X.h==0) (DT (ScZ z) Ch) Stop (G (gDone a (.agg #[I e,I y])) f.stack) w:=by
 refine get_came hA f.stack (λa2 o2 hA2 ho hd code hc=>?_);refine keep_in he4 _ N.now.at_.rel N.now.at_.noRow (λa3 v' w' hA3 r n g hbx hrb=>?_) code hc;have hbx':∀ b,uni (oneM rb Af) M b≠none->b<v.heap.size:=λb hb=>N.lt hb;have hM:∀ b,M b≠none->b<v.heap.size:=λb hb=>hbx' b (Aj.2 (.inr hb));have hrl:rb<v.heap.size:=hbx' rb (Aj.2 (.inl (by rw[Ah];simp)));have hMn:∀ b,v.heap.size<=b->M b=none:=λb hb=>by
  cases hx:M b with
  |none=>rfl
  |some o=>have:=hM b (by rw[hx];simp);omega
 have N1:NowP X z cont Ch S0 K0 v0 Mo0 (kMo v.heap.size (v.heap.size+1) rb e y M) σ κ S v' w' t:=N.to g r n (λb o hb=>by
  unfold kMo at hb;by_cases h1:b=v.heap.size
  .subst h1
   rw[Ai (Ah _ _)] at hb;cases hb;exact .inr ⟨Qi _,hbx,_,_,_,rfl⟩
  by_cases h2:b=v.heap.size+1
  .subst h2
   rw[Ak (Ag (by omega)) (Ai (Ah _ _))] at hb;cases hb;exact .inr ⟨by omega,hrb,_,_,_,rfl⟩
  .left
   unfold uni at hb;rw[Ag h1,Ag h2] at hb;exact hb)
 have htb:=N1.now.at_.tb;have hgc:=N1.now.at_.gc;rw[<-htb] at hA3;refine keep_store (h:=X.h) (x:=y) (i:=X.i) (j:=2*o+1) (cb:=cv) (kp:=kp) (cont:=cont) (cellAt κ (2*o+1)).2 (hD.mem v' N1.now.at_.pk).2.2.2 (by simp[World.cell?,hbx]) hA3 _ (H (.turn 2 (2*o+1) (5,lO o k b d X.i++[e,y])) (kMo v.heap.size (v.heap.size+1) rb e y M)) (λg hg=>?_) N1.now.at_.rel N1.now.at_.noRow N1.now.at_.mem N1.now.at_.thr (N1.now.cell hD.kv).1 (by rw[htb];exact N1.now.at_.z) (by rw[htb,hgc];exact N1.now.at_.cont) (ob_turn hob N1.now);obtain ⟨a4,hA4,hg⟩:=hg;rw[htb] at hA4 hg;exact hH _ _ g (N1.now.good (λ_ _ h=>by cases h)) ⟨N1.now.row,o,ob,kp,cw,cv,k,b,d,f,rb,b3,b4,b5,a2,M,hD,hk,hf,hC,hB,hr,hA2,.inr ⟨e,y,v.heap.size,v.heap.size+1,a4,rfl,hA4,he,⟨by omega,by omega,hMn _ (Qi _),by omega,hMn _ (by omega)⟩,.inl ⟨rfl,hg⟩⟩⟩
theorem ctx_ans {c:Value->Goroutine}(hD:ODat X o ob kp cw cv) (hk:0<=k∧k<=3) (hC:OCtx (X.h==0) X.tb kp ob k b d M c cu) (hH:∀ x Mo' g,Good v0 Mo0 x Mo'->oSit X x Mo' cu g->H x Mo' g) (an:Int×Int)
 (hob:Ob X H z cont Ch Stop cu S0 K0 v0 Mo0 σ κ (nxO o k b d X.i an)) (N:NowP X z cont Ch S0 K0 v0 Mo0 M σ κ S v w t):
 GoesI Tryd.prog (X.h==0) (DT (ScZ z) Ch) Stop (c (.agg #[I an.1,I an.2])) w:=by
 cases hC with
 |base hK =>exact hK z Ch Stop w v S κ an N.now.at_.rel N.now.at_.noRow N.now.at_.mem N.now.mo N.now.far (λv' w' r' n' e'=>hob.ans an rfl v' w' S r' n' N.now.nv (N.now.evo.join e' (λb hb=>N.now.new b hb)))
 |@nest d M0 M1 _ _ f a rb b3 b4 b5 hf h0 hA hB hK ha1 ha2 =>obtain ⟨k1,k2⟩:=has_uni N.now.mo ha1;refine hK z Ch Stop w v S κ an N.now.at_.rel N.now.at_.noRow N.now.at_.mem k1 (λb hb=>N.now.far b (Aj.2 (.inl hb))) (λv' w' r' n' e'=>?_);exact done_goes (e:=70) (y:=an.1) (by decide) (by decide) hD hk hf h0 hB ha2 hA hH hob (N.wrote ha1 e' r' n')
theorem NowP.laid {an:Int×Int}(N:NowP X z cont Ch S0 K0 v0 Mo0 (uni (oneM rb Af) M) σ κ S v w t) (hr:M rb=none) {w':World}(r:Rel z (ansW v rb an.1 an.2) w') (n:NoRow Ch (ansW v rb an.1 an.2)):NowP X z cont Ch S0 K0 v0 Mo0 M σ κ S (ansW v rb an.1 an.2) w' t :=
 N.wrote (one_apart hr) ((ans_evo N.now.at_.mem (N.now.far rb (Aj.2 (.inl (by rw[Ah];simp)))) an.1 an.2).wider (λb _ hb=>by rw[show b=rb from hb,Ah];simp)) r n
theorem NowP.zero (N:NowP X z cont Ch S0 K0 v0 Mo0 (uni (oneM rb Af) M) σ κ S v w t):v.heap[rb]? = some Af:=N.now.mo rb _ (Ai (Ah _ _))
theorem seen_goes (x:Int) (hD:ODat X o ob kp cw cv) (hk:0<=k∧k<=3) (hf:f.Ok) (hC:OCtx (X.h==0) X.tb kp ob k b d M f.ret cu) (hB:Box3 ob X.tb k b b3 b4 b5 M) (hr:M rb=none) (hA:GF kp X.tb b3 b4 b5 rb a) (hH:∀ x Mo' g,Good v0 Mo0 x Mo'->oSit X x Mo' cu g->H x Mo' g)
 (hob:Ob X H z cont Ch Stop cu S0 K0 v0 Mo0 σ κ ((mcO m).set S.stk (Az o k b d X.i x))) (N:NowP X z cont Ch S0 K0 v0 Mo0 (uni (oneM rb Af) M) σ κ S v w t):
 GoesI Tryd.prog (X.h==0) (DT (ScZ z) Ch) Stop (G (gSeen a (I x)) f.stack) w:=by
 refine get_st (hD.mem v N.now.at_.pk).1 hA _ N.now.at_.rel N.now.at_.noRow (λa1 v1 w1 hA1 r1 n1 g1=>?_);have N1:=N.grows g1 r1 n1;have htb:=N1.now.at_.tb;have hgc:=N1.now.at_.gc;have hz:z t.tb=some 2:=by rw[htb];exact N1.now.at_.z
 have hcont:cont ⟨t.tb,2,none⟩=.chan (some t.gc):=by rw[htb,hgc];exact N1.now.at_.cont
 obtain ⟨m1,m2,m3,m4⟩:=hD.mem v1 N1.now.at_.pk;have hid:v1.cell? ⟨X.tb,1,none⟩=some (I X.i):=by rw[<-htb];exact (N1.now.at_.mem.rep.cell N1.now.at_.thr).2.1
 unfold Az at hob;by_cases h2:R1.stI x=2
 .rw[if_pos h2] at hob
  rw[<-htb] at hA1;refine get_done (h:=X.h) (i:=X.i) (j:=2*o+1) (cb:=cv) (kp:=kp) (rb:=rb) (cont:=cont) (cellAt κ (2*o+1)).2 h2 m1 m4 hA1 _ (H (.turn 1 (2*o+1) (2,lO o k b d X.i++[R1.codI x])) (uni (oneM rb Af) M)) (λg hg=>?_) r1 n1 N1.now.at_.mem N1.now.at_.thr (N1.now.cell hD.kv).1 hz hcont (ob_turn hob N1.now);obtain ⟨a2,hA2,hg⟩:=hg;rw[htb] at hA2 hg;exact hH _ _ g (N1.now.good (λ_ _ h=>by cases h)) ⟨N1.now.row,o,ob,kp,cw,cv,k,b,d,f,rb,b3,b4,b5,a2,M,hD,hk,hf,hC,hB,hr,hA2.sub (by simp),.inl ⟨rfl,.inr (.inl ⟨R1.codI x,rfl,hA2.sub (by simp),hg⟩)⟩⟩
 rw[if_neg h2] at hob;by_cases h0:R1.stI x=0
 .rw[if_pos h0] at hob
  rw[<-htb] at hA1;refine get_new (h:=X.h) (i:=X.i) (j:=2*o) (cb:=cw) (kp:=kp) (rb:=rb) (cont:=cont) (cellAt κ (2*o)).2 h0 m1 m3 hA1 _ (H (.turn 4 (2*o) (3,lO o k b d X.i++[x])) (uni (oneM rb Af) M)) (λg hg=>?_) r1 n1 N1.now.at_.mem N1.now.at_.thr (N1.now.cell hD.kw).1 hz hcont (ob_turn hob N1.now);obtain ⟨a2,hA2,hg⟩:=hg;rw[htb] at hA2 hg;exact hH _ _ g (N1.now.good (λ_ _ h=>by cases h)) ⟨N1.now.row,o,ob,kp,cw,cv,k,b,d,f,rb,b3,b4,b5,a2,M,hD,hk,hf,hC,hB,hr,hA2,.inl ⟨rfl,.inr (.inr (.inl ⟨x,rfl,hg⟩))⟩⟩
 rw[if_neg h0] at hob;by_cases hw:R1.whoI x=(X.i:Int)
 .rw[if_pos hw,set_nx] at hob
  refine get_again (bc:=f.bd) (ac:=f.ad) (ops:=f.od) (q:=f.qd) (rest:=f.rd) (oc:=f.oe) (k0:=f.kd) h2 h0 hw m1 hid hA1 f.fs hf N1.zero r1 n1 (λv2 w2 r2 n2 g2 w' r' n'=>?_);exact ctx_ans hD hk hC hH (72,0) hob ((N1.grows g2 r2 n2).laid (an:=(72,0)) hr r' n')
 rw[if_neg hw] at hob;refine get_wait (j:=2*o) (cb:=cw) h2 h0 hw m1 hid m3 (N1.now.at_.mem.cells (N1.now.cell hD.kw).1).1 hA1 _ r1 n1 (λv2 w2 a2 bd ad od qd rd oe kd hA2 r2 n2 g2 hoe hfr code hcode=>?_);have N2:=N1.grows g2 r2 n2;cases hs:S.stk with
 |true =>
  rw[hs] at hob;have hob:Ob X H z cont Ch Stop cu S0 K0 v0 Mo0 σ κ ((mcO m).stuck (4,lO o k b d X.i)):=hob;rw[stuck4] at hob;have:=await_no (i:=X.i) (main:=X.h==0) (Ch:=Ch) (Stop:=Stop) ((2*o:Nat):Int) f.stack hoe N2.now.at_.rel N2.now.at_.noRow N2.now.at_.mem hs N2.now.at_.thr (λv3 w3 r3 n3 e3=>by
   rw[hfr];have N3:NowP X z cont Ch S0 K0 v0 Mo0 (uni (oneM rb Af) M) σ κ S v3 w3 t:=⟨N2.now.on e3 r3 n3 N2.now.nv N2.now.at_.thr N2.now.at_.tb N2.now.at_.gc rfl N2.now.at_.kb.2,N2.hp⟩
   exact get_stuck (bc:=f.bd) (ac:=f.ad) (ops:=f.od) (q:=f.qd) (rest:=f.rd) (oc:=f.oe) (k0:=f.kd) hA2 f.fs hf N3.zero r3 n3 (λw' r' n'=>ctx_ans hD hk hC hH (4,0) hob (N3.laid (an:=(4,0)) hr r' n'))) code hcode
  rw[N2.now.at_.tb] at this;exact this
 |false =>
  rw[hs,(mcO m).set_false] at hob;have ee:(λr=>G (bd.at (ad.put oe.dst r) (.inRegion od rd :: kd)) f.stack)=(λr=>G (gWoke a2 r) f.stack):=funext λr=>by rw[hfr]
  have:=await_goes (h:=X.h) (cont:=cont) (i:=X.i) (Stop:=Stop) ((2*o:Nat):Int) f.stack (H (.wait (2*o) (4,lO o k b d X.i)) (uni (oneM rb Af) M)) hoe (λg hg=>hH _ _ g (N2.now.good (λ_ _ h=>by cases h)) ⟨N2.now.row,o,ob,kp,cw,cv,k,b,d,f,rb,b3,b4,b5,a2,M,hD,hk,hf,hC,hB,hr,hA2,.inl ⟨rfl,.inr (.inr (.inr ⟨rfl,by rw[<-ee,<-N2.now.at_.tb];exact hg⟩))⟩⟩) N2.now.at_.rel N2.now.at_.noRow N2.now.at_.mem hs N2.now.at_.thr hz hcont (ob_wait hob N2.now) code hcode;rw[N2.now.at_.tb] at this;exact this
def doM (n ob tb:Nat) (k b:Int):Nat->Option Obj:=uni (oneM n (.cells #[Pt ob 0] 46 (0,0))) (uni (oneM (n+1) (.cells #[Pt tb 0] 48 (0,0))) (uni (oneM (n+2) (.cells #[I k,I b] 52 (0,0))) (oneM (n+3) Af)))
theorem doM_at (n ob tb:Nat) (k b:Int):Box3 ob tb k b n (n+1) (n+2) (doM n ob tb k b)∧doM n ob tb k b (n+3)=some Af:=by refine ⟨⟨Ai (Ah _ _),Ak (Ag (by omega)) (Ai (Ah _ _)),Ak (Ag (by omega)) (Ak (Ag (by omega)) (Ai (Ah _ _)))⟩,Ak (Ag (by omega)) (Ak (Ag (by omega)) (Ak (Ag (by omega)) (Ah _ _)))⟩
theorem doM_ne {ob tb:Nat}{k b:Int}{c:Nat}(h:doM n ob tb k b c≠none):c=n∨c=n+1∨c=n+2∨c=n+3:=by unfold doM at h;rcases Aj.1 h with h|h;exact .inl (Ao h);rcases Aj.1 h with h|h;exact .inr (.inl (Ao h));rcases Aj.1 h with h|h;exact .inr (.inr (.inl (Ao h)));exact .inr (.inr (.inr (Ao h)))
theorem doM_some {ob tb:Nat}{k b:Int}{c:Nat}{o:Obj}(h:doM n ob tb k b c=some o):n<=c∧c<=n+3∧((c=n∧o=.cells #[Pt ob 0] 46 (0,0))∨(c=n+1∧o=.cells #[Pt tb 0] 48 (0,0))∨(c=n+2∧o=.cells #[I k,I b] 52 (0,0))∨(c=n+3∧o=Af)):=by obtain ⟨⟨h3,h4,h5⟩,h6⟩:=doM_at n ob tb k b;rcases doM_ne (by rw[h];simp) with rfl|rfl|rfl|rfl;rw[h3] at h;cases h;exact ⟨by omega,by omega,.inl ⟨rfl,rfl⟩⟩;rw[h4] at h;cases h;exact ⟨by omega,by omega,.inr (.inl ⟨rfl,rfl⟩)⟩;rw[h5] at h;cases h;exact ⟨by omega,by omega,.inr (.inr (.inl ⟨rfl,rfl⟩))⟩;rw[h6] at h;cases h;exact ⟨by omega,by omega,.inr (.inr (.inr ⟨rfl,rfl⟩))⟩
theorem enter_do {f0:Frs}(hf0:f0.Ok) (hD:ODat X o ob kp cw cv) (hk:0<=k∧k<=3) (hH:∀ x Mo' g,Good v0 Mo0 x Mo'->oSit X x Mo' cu g->H x Mo' g)
 (hctx:∀ f:Frs,KBack (X.h==0) (doM v.heap.size ob X.tb k b) (λa=>a) f.ret f0.ret->OCtx (X.h==0) X.tb kp ob k b d (uni (doM v.heap.size ob X.tb k b) M) f.ret cu)
 (hob:Ob X H z cont Ch Stop cu S0 K0 v0 Mo0 σ κ (.turn 1 (2*o) (1,lO o k b d X.i))) (N:NowP X z cont Ch S0 K0 v0 Mo0 M σ κ S v w t) (code:Code) (hc:Tryd.f28.body=some code):
 GoesI Tryd.prog (X.h==0) (DT (ScZ z) Ch) Stop (G ((base 28).at { tmps:=#[Pt ob 0,Pt X.tb 0,.agg #[I k,I b]]++Array.replicate 11 undef,defers:=[] } [.code code]) f0.stack) w:=by
 refine do_in (hD.mem v N.now.at_.pk).2.1 _ N.now.at_.rel N.now.at_.noRow (λa1 v1 w1 o1 hA1 r1 n1 g1 e3 e4 e5 e6 ho1 hd1 code1 hc1=>?_) code hc;have hdm:=doM_at v.heap.size ob X.tb k b
 let f1:Frs:=⟨base 28,a1,dO1,6,[7],o1,[.code .ret],f0.stack⟩
 have hret:f1.ret=λr=>G (dFr a1 r) f0.stack:=funext λr=>by show G ((base 28).at (a1.put o1.dst r) _) _=_;rw[hd1];rfl
 have hkb:KBack (X.h==0) (doM v.heap.size ob X.tb k b) (λa=>a) f1.ret f0.ret:=by
  rw[hret];refine (kb_of (rb:=v.heap.size+3) (λz Ch Stop v w e x hz hvw hn hk=>?_)).more (λc o' hb=>by obtain ⟨rfl,rfl⟩:=oneM_eq hb;exact hdm.2)
  exact do_back (bc:=f0.bd) (ac:=f0.ad) (ops:=f0.od) (q:=f0.qd) (rest:=f0.rd) (oc:=f0.oe) (k0:=f0.kd) hA1 f0.fs hf0 hz hvw hn hk
 have hC:=hctx f1 hkb;have hl1:v.heap.size+3<v1.heap.size:=(Qb e6).1;have hMn:∀ c,v.heap.size<=c->M c=none:=λc hb=>by
  cases hx:M c with
  |none=>rfl
  |some o=>have:=N.lt (b:=c) (by rw[hx];simp);omega
 have N1:NowP X z cont Ch S0 K0 v0 Mo0 (uni (doM v.heap.size ob X.tb k b) M) σ κ S v1 w1 t:=N.to g1 r1 n1 (λc o' hb=>by
  cases hx:doM v.heap.size ob X.tb k b c with
  |none =>unfold uni at hb;rw[hx] at hb;exact .inl hb
  |some o2 =>
   rw[Ai hx] at hb;cases hb;obtain ⟨q1,q2,q3⟩:=doM_some hx;rcases q3 with ⟨rfl,rfl⟩|⟨rfl,rfl⟩|⟨rfl,rfl⟩|⟨rfl,rfl⟩
   exact .inr ⟨q1,e3,_,_,_,rfl⟩;exact .inr ⟨q1,e4,_,_,_,rfl⟩;exact .inr ⟨q1,e5,_,_,_,rfl⟩;exact .inr ⟨q1,e6,_,_,_,rfl⟩)
 refine get_in _ r1 n1 (λa2 v2 w2 hA2 r2 n2 g2 hz2=>?_) code1 hc1;have N2:NowP X z cont Ch S0 K0 v0 Mo0 (uni (oneM v1.heap.size Af) (uni (doM v.heap.size ob X.tb k b) M)) σ κ S v2 w2 t:=N1.to g2 r2 n2 (λc o' hb=>by
  by_cases hcc:c=v1.heap.size
  .subst hcc
   rw[Ai (Ah _ _)] at hb;cases hb;exact .inr ⟨Qi _,hz2,_,_,_,rfl⟩
  .left
   unfold uni at hb;rw[Ag hcc] at hb;exact hb)
 have hnone:uni (doM v.heap.size ob X.tb k b) M v1.heap.size=none:=by
  cases hx:uni (doM v.heap.size ob X.tb k b) M v1.heap.size with
  |none=>rfl
  |some o=>have:=N1.lt (b:=v1.heap.size) (by rw[hx];simp);omega
 exact look_goes (f:=f1) hD hk ho1 hC ⟨Ai hdm.1.1,Ai hdm.1.2.1,Ai hdm.1.2.2⟩ hnone hA2 hH hob N2
theorem won_goes (hD:ODat X o ob kp cw cv) (hk:0<=k∧k<=3) (hf:f.Ok) (hC:OCtx (X.h==0) X.tb kp ob k b d M f.ret cu) (hB:Box3 ob X.tb k b b3 b4 b5 M) (hr:M rb=none) (hA:GF kp X.tb b3 b4 b5 rb a) (hH:∀ x Mo' g,Good v0 Mo0 x Mo'->oSit X x Mo' cu g->H x Mo' g)
 (hob:Ob X H z cont Ch Stop cu S0 K0 v0 Mo0 σ κ (Au o k b d X.i)) (N:NowP X z cont Ch S0 K0 v0 Mo0 (uni (oneM rb Af) M) σ κ S v w t):
 GoesI Tryd.prog (X.h==0) (DT (ScZ z) Ch) Stop (G (gTry a (.bool true)) f.stack) w:=by
 have hin:∀ c o',M c=some o'->uni (oneM rb Af) M c=some o':=λc o' hb=>by by_cases e:c=rb;subst e;rw[hr] at hb;cases hb;exact Ak (Ag e) hb
 refine get_won hA f.stack (λa2 o2 hA2 ho2 hd2 code hc=>?_);refine clo_in (N.now.mo _ _ (hin _ _ hB.1)) (N.now.mo _ _ (hin _ _ hB.2.1)) (N.now.mo _ _ (hin _ _ hB.2.2)) _ N.now.at_.rel N.now.at_.noRow (λa3 v1 w1 o3 hA3 r1 n1 g1 hz1 ho3 hd3 code3 hc3=>?_) code hc;have hl1:v.heap.size<v1.heap.size:=(Qb hz1).1;have hkc:KBack (X.h==0) (oneM v.heap.size Af) (λa=>a) (λr=>G ((base 65).at (a3.put o3.dst r) (.inRegion cO1 [4] :: [.code .ret])) ((base 64).at a2 (.inRegion gO11 [3,4,5] :: [.code .ret,.inBlock 2,.inBlock 1,.inLoop gL,.inBlock 0]) :: f.stack)) (λr=>G (gDone a2 r) f.stack):=by refine kb_of (λz Ch Stop v w e x hz hvw hn hk=>?_);rw[hd3];refine clo_back (bc:=base 64) (ac:=a2) (ops:=gO11) (q:=3) (rest:=[4,5]) (oc:=o2) (k0:=[.code .ret,.inBlock 2,.inBlock 1,.inLoop gL,.inBlock 0]) hA3 f.stack ho2 hz hvw hn (λw' r' n'=>?_);rw[hd2];exact hk w' r' n'
 have N1:NowP X z cont Ch S0 K0 v0 Mo0 (uni (oneM v.heap.size Af) (uni (oneM rb Af) M)) σ κ S v1 w1 t:=N.to g1 r1 n1 (λc o' hb=>by
  by_cases hcc:c=v.heap.size
  .subst hcc
   rw[Ai (Ah _ _)] at hb;cases hb;exact .inr ⟨Qi _,hz1,_,_,_,rfl⟩
  .left
   unfold uni at hb;rw[Ag hcc] at hb;exact hb)
 have hap:apartM (oneM v.heap.size Af) (uni (oneM rb Af) M):=apart_lt (n:=v.heap.size) (λc hb=>by rw[Ao hb];exact Qi _) (λc hb=>N.lt hb);have fin:∀ (e y:Int),(0<=e∧e<1048576)->e≠4->Au o k b d X.i=.turn 2 (2*o+1) (5,lO o k b d X.i++[e,y])->∀ v2 w2,Rel z v2 w2->NoRow Ch v2->Grows v1 v2->GoesI Tryd.prog (X.h==0) (DT (ScZ z) Ch) Stop (G ((base 65).at (a3.put o3.dst (.agg #[I e,I y])) (.inRegion cO1 [4] :: [.code .ret])) ((base 64).at a2 (.inRegion gO11 [3,4,5] :: [.code .ret,.inBlock 2,.inBlock 1,.inLoop gL,.inBlock 0]) :: f.stack)) w2:=λe y he he4 hce v2 w2 r2 n2 g2=>by rw[hce] at hob;have N2:=N1.grows g2 r2 n2;obtain ⟨k1,k2⟩:=has_uni N2.now.mo hap;refine hkc z Ch Stop w2 v2 S κ (e,y) r2 n2 N2.now.at_.mem k1 (λc hb=>N2.now.far c (Aj.2 (.inl hb))) (λv3 w3 r3 n3 e3=>?_);exact done_goes he he4 hD hk hf hC hB hr hA2 hH hob (N2.wrote hap e3 r3 n3)
 by_cases k0:k=0;exact come0 (bc:=base 65) (ac:=a3) (ops:=cO1) (q:=3) (rest:=[4]) (oc:=o3) (k0:=[.code .ret]) k0 _ ho3 r1 n1 (fin 0 b (by decide) (by decide) (by unfold Au;rw[if_neg (by omega)];unfold cmO;rw[if_pos k0])) code3 hc3;by_cases k1:k=1;exact come1 (bc:=base 65) (ac:=a3) (ops:=cO1) (q:=3) (rest:=[4]) (oc:=o3) (k0:=[.code .ret]) k1 _ ho3 r1 n1 (fin 70 b (by decide) (by decide) (by unfold Au;rw[if_neg (by omega)];unfold cmO;rw[if_neg k0,if_pos k1])) code3 hc3;by_cases k2:k=2;exact come2 (bc:=base 65) (ac:=a3) (ops:=cO1) (q:=3) (rest:=[4]) (oc:=o3) (k0:=[.code .ret]) k2 _ ho3 r1 n1 (fin 71 b (by decide) (by decide) (by unfold Au;rw[if_neg (by omega)];unfold cmO;rw[if_neg k0,if_neg k1])) code3 hc3;have k3:k=3:=by omega
 have hce:Au o k b d X.i=.turn 1 (2*o) (1,lO o k b (d+1) X.i):=by unfold Au;rw[if_pos k3]
 rw[hce] at hob;refine come3 (bc:=base 65) (ac:=a3) (ops:=cO1) (q:=3) (rest:=[4]) (oc:=o3) (k0:=[.code .ret]) k3 _ ho3 r1 n1 (λv2 w2 bd ad od qd rd oe kd r2 n2 g2 hz2 hoe hK code4 hc4=>?_) code3 hc3;have hl2:v1.heap.size+1<v2.heap.size:=(Qb hz2).1
 let M0:=uni (oneM rb Af) M
 have N2:NowP X z cont Ch S0 K0 v0 Mo0 (uni (oneM (v1.heap.size+1) Af) (uni (oneM v.heap.size Af) (uni (oneM rb Af) M))) σ κ S v2 w2 t:=N1.to g2 r2 n2 (λc o' hb=>by
  by_cases hcc:c=v1.heap.size+1
  .subst hcc
   rw[Ai (Ah _ _)] at hb;cases hb;exact .inr ⟨by omega,hz2,_,_,_,rfl⟩
  .left
   unfold uni at hb;rw[Ag hcc] at hb;exact hb)
 rw[<-k3];refine enter_do (f0:=⟨bd,ad,od,qd,rd,oe,kd,_⟩) hoe hD hk hH (d:=d+1) (λf5 hkb=>?_) hob N2 code4 hc4;have hap2:apartM (oneM (v1.heap.size+1) Af) (oneM v.heap.size Af):=λc hb=>by rw[Ao hb];exact Ag (by omega)
 have hj:=(hkb.trans (hK.trans hkc hap2) (apart_lt (n:=v2.heap.size) (λc hb=>by have:=doM_ne hb;omega) (λc hb=>by rcases Aj.1 hb with h|h;rw[Ao h];omega;rw[Ao h];omega)))
 have hj:KBack (X.h==0) (uni (doM v2.heap.size ob X.tb k b) (uni (oneM (v1.heap.size+1) Af) (oneM v.heap.size Af))) (λa=>(70,a.1)) f5.ret (λr=>G (gDone a2 r) f.stack):=hj;have:=OCtx.nest hf hC hA2 hB hj (apart_lt (n:=v.heap.size) (λc hb=>by rcases Aj.1 hb with h|h;have:=doM_ne h;omega;rcases Aj.1 h with h|h;rw[Ao h];omega;rw[Ao h];exact Qi _) (λc hb=>N.lt hb)) hr
 rw[<-uni_assoc,<-uni_assoc] at this;exact this
end
theorem fl_join {l l':List (Nat×Value)}{a:Act}(h:Fl n l a) (h':Fl n l' a):Fl n (l++l') a:=⟨h.1,h.2.1,λp hp=>(List.mem_append.1 hp).elim (h.2.2 p) (h'.2.2 p)⟩
structure OMine (m:Nat) (X:Fix (mcO m)) (xb mb sb:Nat):Prop where
 caps:X.caps=#[Pt xb 0,Pt mb 0]
 m0:0<m
 m1:m<=1000
 mem:∀ v,Has X.pk v->R1.Flds v∧v.cell? ⟨xb,0,none⟩=some (.slice (some ⟨sb,0,none⟩) m m)∧v.cell? ⟨mb,0,none⟩=some (I m)
 obj:∀ o,o<m->∃ ob kp cw cv,X.kb[2*o]? = some cw∧X.kb[2*o+1]? = some cv∧∀ v,Has X.pk v->v.cell? ⟨sb,o,none⟩=some (Pt ob 0)∧v.cell? ⟨ob,0,none⟩=some (Pt kp 0)∧v.cell? ⟨kp,0,none⟩=some (Pt cw 0)∧v.cell? ⟨kp,1,none⟩=some (Pt cv 0)
def pkgO (m:Nat):Pkg (mcO m) 61 where
 fn:=Tryd.f61
 code:=Tryd.f61.body.getD .skip
 hf:=Tryd.func61
 hname:=by kernel_rfl
 hcode:=rfl
 Mine X:=∃ xb mb sb,OMine m X xb mb sb
 Sit:=oSit
 start:=by
  rintro X ok ⟨xb,mb,sb,hm⟩ hfid c hc cs bc ac ops q rest oc k hoc H z cont Ch Stop S K v w t A hH hob;rw[hm.caps];show GoesI Tryd.prog (X.h==0) (DT (ScZ z) Ch) Stop (G ((base 61).at { tmps:=#[Pt X.tb 0,.agg #[I c.po,I c.ca,I c.cb,I c.cc],Pt xb 0,Pt mb 0]++Array.replicate 27 undef,defers:=[] } [.code (Tryd.f61.body.getD .skip)]) (bc.at ac (.inRegion ops (q :: rest) :: k) :: cs)) w;have N0:NowP X z cont Ch S K v (λ_=>none) (λ_=>none) (Gen.nv S) K S v w t:=⟨Now.here A (λb o h=>by cases h) (λb h=>absurd rfl h) (λb o h=>by cases h),λb h=>absurd rfl h⟩
  by_cases hp:1<=c.po∧c.po<=4
  .have es:(mcO m).start X.i c=.turn 1 (2*which c.ca m) (1,lO (which c.ca m) (c.po - 1) c.cb 0 X.i):=if_pos hp
   rw[es] at hob;obtain ⟨ob,kp,cw,cv,kw,kv,hv⟩:=hm.obj (which c.ca m) (which_lt _ hm.m0);have hD:ODat X (which c.ca m) ob kp cw cv:=⟨λv hv'=>⟨(hm.mem v hv').1,(hv v hv').2⟩,kw,kv⟩
   refine call_in hp.1 hp.2 hm.m0 hm.m1 (hm.mem v A.pk).2.1 (hm.mem v A.pk).2.2 (hv v A.pk).1 _ A.rel A.noRow (λa1 v1 w1 o1 hA1 r1 n1 g1 hz1 ho1 hd1 code1 hc1=>?_) _ rfl;have N1:NowP X z cont Ch S K v (λ_=>none) (oneM (v.heap.size+1) Af) (Gen.nv S) K S v1 w1 t:=N0.to g1 r1 n1 (λb o hb=>by obtain ⟨rfl,rfl⟩:=oneM_eq hb;exact .inr ⟨by omega,hz1,_,_,_,rfl⟩)
   have hl1:v.heap.size+1<v1.heap.size:=(Qb hz1).1;refine enter_do (f0:=⟨base 61,a1,pO3,14,[15],o1,[.code .ret],bc.at ac (.inRegion ops (q :: rest) :: k) :: cs⟩) ho1 hD (by omega) hH (d:=0) (λf hkb=>?_) hob N1 code1 hc1;refine .base (hkb.trans (f2:=λa=>a) (kb_of (rb:=v.heap.size+1) (λz Ch Stop v w e x hz hvw hn hk=>?_)) (apart_lt (n:=v1.heap.size) (λc hb=>by have:=doM_ne hb;omega) (λc hb=>by rw[Ao hb];exact hl1)));show GoesI Tryd.prog (X.h==0) (DT (ScZ z) Ch) Stop (G ((base 61).at (a1.put o1.dst (.agg #[I e,I x])) (.inRegion pO3 [15] :: [.code .ret])) _) w;rw[hd1];exact call_back hA1 cs hoc hz hvw hn hk
  .have es:(mcO m).start X.i c=.ans 1 0:=if_neg hp
   rw[es] at hob;refine call_no (by omega) cs hoc A.rel A.noRow (λv' w' r' n' g'=>?_) _ rfl;have N1:=N0.grows g' r' n';exact hob.ans (1,0) rfl v' w' S r' n' rfl N1.now.evo
 turn:=by
  rintro X ok - hfid op j q Mo cu g ⟨hrow,o,ob,kp,cw,cv,k,b,d,f,rb,b3,b4,b5,a,M,hD,hk,hf,hC,hB,hr,hA,hsit⟩ H z cont Ch Stop y S K v w t A hH hop hce hl hMo hMf hMp hob;have hpk:∀ b,Mo b≠none->X.pk b=none:=λb hb=>by
   cases hx:X.pk b with
   |none=>rfl
   |some o=>exact absurd (.inr (.inr (.inr (by rw[hx];simp)))) (hMp b hb)
  have N0:NowP X z cont Ch S K v Mo Mo (Gen.nv S) K S v w t:=⟨Now.here A hMo hMf hrow,hpk⟩
  have cw':=N0.now.cell hD.kw;have cv':=N0.now.cell hD.kv;have hokK:∀ K',KOk (mcO m) K':=λK' j p _=>trivial;rcases hsit with ⟨rfl,⟨hx,hg⟩|⟨c,hx,hA37,hg⟩|⟨c,hx,hg⟩|⟨hx,_⟩⟩|⟨e,y',bx,rb2,a2,rfl,hA2,he,hne,⟨hx,hg⟩|⟨hx,hg⟩⟩
  . -- it has looked
   cases hx;refine hg z Ch Stop y w v S K t (cellAt K (2*o)).2 A.rel A.noRow A.mem A.thr A.tb hop hce cw'.1 hl (λv1 w1 tv r1 n1 e1=>?_);have sd:=sta_did (i:=X.i) S tv t (cellAt K (2*o)).2 (cellAt K (2*o)).2;have N1:NowP X z cont Ch S K v (uni (oneM rb Af) M) (uni (oneM rb Af) M) _ _ _ v1 w1 t:=⟨N0.now.on e1 r1 n1 (nv_did tv t _ _) (did_thr A.thr) A.tb A.gc sd.bk (hokK _),hpk⟩
   rw[turn1] at hob;have e2:(cellAt K (2*o)).1=cw:=by rw[cw'.2]
   rw[e2,<-sd.stk] at hob;exact seen_goes (cellAt K (2*o)).2 hD hk hf hC hB hr hA hH hob N1
  . -- it has the value
   cases hx;refine hg z Ch Stop y w v S K t (cellAt K (2*o+1)).2 A.rel A.noRow A.mem A.thr A.tb hop hce cv'.1 hl (λv1 w1 tv r1 n1 e1=>?_);have sd:=sta_did (i:=X.i) S tv t (cellAt K (2*o+1)).2 (cellAt K (2*o+1)).2;have N1:NowP X z cont Ch S K v (uni (oneM rb Af) M) (uni (oneM rb Af) M) _ _ _ v1 w1 t:=⟨N0.now.on e1 r1 n1 (nv_did tv t _ _) (did_thr A.thr) A.tb A.gc sd.bk (hokK _),hpk⟩
   rw[turn2,set_nx] at hob;have e2:(cellAt K (2*o+1)).1=cv:=by rw[cv'.2]
   rw[e2] at hob;exact get_val (bc:=f.bd) (ac:=f.ad) (ops:=f.od) (q:=f.qd) (rest:=f.rd) (oc:=f.oe) (k0:=f.kd) (fl_join hA37 hA) f.fs hf N1.zero r1 n1 (λw' r' n'=>ctx_ans hD hk hC hH (c,(cellAt K (2*o+1)).2) hob (N1.laid (an:=(c,(cellAt K (2*o+1)).2)) hr r' n'))
  . -- it has tried
   cases hx;refine hg z Ch Stop y w v S K t (cellAt K (2*o)).2 A.rel A.noRow A.mem A.thr A.tb hop hce cw'.1 hl (λv1 w1 tv r1 n1 e1=>?_);have e2:(cellAt K (2*o)).1=cw:=by rw[cw'.2]
   rw[turn3,e2] at hob;by_cases hxc:(cellAt K (2*o)).2=c
   .rw[if_pos hxc,set_come] at hob
    have ef:effCas c (R1.Ae 1 X.i 0) (cellAt K (2*o)).2=((c,R1.Ae 1 X.i 0),R1.Ae 1 X.i 0,.bool true):=by unfold effCas;rw[if_pos hxc]
    rw[ef] at e1 ⊢;have sd:=sta_did (i:=X.i) S tv t c (R1.Ae 1 X.i 0);have N1:NowP X z cont Ch S K v (uni (oneM rb Af) M) (uni (oneM rb Af) M) _ _ _ v1 w1 t:=⟨N0.now.on e1 r1 n1 (nv_did tv t _ _) (did_thr A.thr) A.tb A.gc sd.bk (hokK _),hpk⟩
    exact won_goes hD hk hf hC hB hr hA hH hob N1
   .rw[if_neg hxc] at hob
    have ef:effCas c (R1.Ae 1 X.i 0) (cellAt K (2*o)).2=(((cellAt K (2*o)).2,(cellAt K (2*o)).2),(cellAt K (2*o)).2,.bool false):=by unfold effCas;rw[if_neg hxc]
    rw[ef] at e1 ⊢;have sd:=sta_did (i:=X.i) S tv t (cellAt K (2*o)).2 (cellAt K (2*o)).2;have N1:NowP X z cont Ch S K v (uni (oneM rb Af) M) (uni (oneM rb Af) M) _ _ _ v1 w1 t:=⟨N0.now.on e1 r1 n1 (nv_did tv t _ _) (did_thr A.thr) A.tb A.gc sd.bk (hokK _),hpk⟩
    exact get_lost hA f.stack (λa2 hA2=>look_goes hD hk hf hC hB hr hA2 hH hob N1)
  cases hx
  . -- the value is stored
   cases hx;refine hg z Ch Stop y w v S K t (cellAt K (2*o+1)).2 A.rel A.noRow A.mem A.thr A.tb hop hce cv'.1 hl (λv1 w1 tv r1 n1 e1=>?_);have sd:=sta_did (i:=X.i) S tv t (cellAt K (2*o+1)).2 y';have N1:NowP X z cont Ch S K v (kMo bx rb2 rb e y' M) (kMo bx rb2 rb e y' M) _ _ _ v1 w1 t:=⟨N0.now.on e1 r1 n1 (nv_did tv t _ _) (did_thr A.thr) A.tb A.gc sd.bk (hokK _),hpk⟩
   rw[turn5] at hob;have e2:(cellAt K (2*o+1)).1=cv:=by rw[cv'.2]
   rw[e2] at hob;have htb:=N1.now.at_.tb;have hgc:=N1.now.at_.gc;rw[<-htb] at hA2;have hbx:=N1.now.mo bx _ (Ai (Ah _ _));refine keep_word (h:=X.h) (e:=e) (i:=X.i) (j:=2*o) (cb:=cw) (kp:=kp) (cont:=cont) (cellAt (K.set (2*o+1) (cv,y')) (2*o)).2 (hD.mem v1 N1.now.at_.pk).1 (hD.mem v1 N1.now.at_.pk).2.2.1 (by simp[World.cell?,hbx]) hA2 _ _ (H (.turn 2 (2*o) (6,lO o k b d X.i++[e,y'])) (kMo bx rb2 rb e y' M)) (λg hg=>?_) N1.now.at_.rel N1.now.at_.noRow N1.now.at_.mem N1.now.at_.thr (N1.now.cell hD.kw).1 (by rw[htb];exact N1.now.at_.z) (by rw[htb,hgc];exact N1.now.at_.cont) (ob_turn hob N1.now);obtain ⟨a4,hA4,hg⟩:=hg;rw[htb] at hA4 hg;exact hH _ _ g (N1.now.good (λ_ _ h=>by cases h)) ⟨N1.now.row,o,ob,kp,cw,cv,k,b,d,f,rb,b3,b4,b5,a,M,hD,hk,hf,hC,hB,hr,hA,.inr ⟨e,y',bx,rb2,a4,rfl,hA4,he,hne,.inr ⟨rfl,hg⟩⟩⟩
  . -- both are stored
   cases hx;refine hg z Ch Stop y w v S K t (cellAt K (2*o)).2 A.rel A.noRow A.mem A.thr A.tb hop hce cw'.1 hl (λv1 w1 tv r1 n1 e1=>?_);have sd:=sta_did (i:=X.i) S tv t (cellAt K (2*o)).2 (R1.Ae 2 0 e);have N1:NowP X z cont Ch S K v (kMo bx rb2 rb e y' M) (kMo bx rb2 rb e y' M) _ _ _ v1 w1 t:=⟨N0.now.on e1 r1 n1 (nv_did tv t _ _) (did_thr A.thr) A.tb A.gc sd.bk (hokK _),hpk⟩
   rw[turn6,set_nx] at hob;have e2:(cellAt K (2*o)).1=cw:=by rw[cw'.2]
   rw[e2] at hob;have hbx:=N1.now.mo bx _ (Ai (Ah _ _));have hrn:uni (oneM rb Af) M rb2=none:=by unfold uni;rw[Ag hne.2.2.2.1];exact hne.2.2.2.2
   have N2:=N1.less (M1:=uni (oneM rb2 Af) (uni (oneM rb Af) M)) (λc o' hb=>Ak (Ag (λh=>by subst h;unfold uni at hb;rw[Ag hne.1,Ag hne.2.1] at hb;simp only[Option.orElse_none] at hb;rw[hne.2.2.1] at hb;cases hb)) hb)
   have o4:gO11[4]? = some (gO11.getD 4 default):=by kernel_rfl
   refine keep_out (bc:=base 64) (ac:=a) (ops:=gO11) (q:=4) (rest:=[5]) (oc:=gO11.getD 4 default) (k0:=[.code .ret,.inBlock 2,.inBlock 1,.inLoop gL,.inBlock 0]) hA2 _ f.stack o4 hbx N2.zero r1 n1 (λw' r' n'=>?_);have N3:=N2.laid (an:=(e,y')) hrn r' n';rw[show (gO11.getD 4 default).dst=some 61 by kernel_rfl];exact get_kept (bc:=f.bd) (ac:=f.ad) (ops:=f.od) (q:=f.qd) (rest:=f.rd) (oc:=f.oe) (k0:=f.kd) hA f.fs hf N3.zero r' n' (λw'' r'' n''=>ctx_ans hD hk hC hH (e,y') hob (N3.laid (an:=(e,y')) hr r'' n''))
 wake:=by
  rintro X ok - hfid j q Mo cu g ⟨hrow,o,ob,kp,cw,cv,k,b,d,f,rb,b3,b4,b5,a,M,hD,hk,hf,hC,hB,hr,hA,hsit⟩ H z cont Ch Stop y S K v w t A hH hl hMo hMf hMp hob1 hob2;have hpk:∀ b,Mo b≠none->X.pk b=none:=λb hb=>by
   cases hx:X.pk b with
   |none=>rfl
   |some o=>exact absurd (.inr (.inr (.inr (by rw[hx];simp)))) (hMp b hb)
  have N0:NowP X z cont Ch S K v Mo Mo (Gen.nv S) K S v w t:=⟨Now.here A hMo hMf hrow,hpk⟩
  rcases hsit with ⟨rfl,⟨hx,hg⟩|⟨c,hx,hA37,hg⟩|⟨c,hx,hg⟩|⟨hx,hg⟩⟩|⟨e,y',bx,rb2,a2,rfl,hA2,he,hne,⟨hx,hg⟩|⟨hx,hg⟩⟩
  cases hx;cases hx;cases hx
  .cases hx
   refine hg z Ch Stop y w v S K t A.rel A.noRow A.mem A.thr A.tb hl (λv1 w1 tv hs r1 n1 e1=>?_) (λv1 w1 hs r1 n1 e1=>?_)
   .have N1:NowP X z cont Ch S K v (uni (oneM rb Af) M) (uni (oneM rb Af) M) _ _ _ v1 w1 t:=⟨N0.now.on e1 r1 n1 rfl A.thr A.tb A.gc rfl A.kb.2,hpk⟩
    have hob:=hob2 hs;rw[woke4] at hob;exact get_woke hA f.stack (λa2 hA2=>look_goes hD hk hf hC hB hr hA2 hH hob N1)
   .have N1:NowP X z cont Ch S K v (uni (oneM rb Af) M) (uni (oneM rb Af) M) _ _ _ v1 w1 t:=⟨N0.now.on e1 r1 n1 rfl A.thr A.tb A.gc rfl A.kb.2,hpk⟩
    have hob:=hob1 hs;rw[stuck4] at hob;exact get_stuck (bc:=f.bd) (ac:=f.ad) (ops:=f.od) (q:=f.qd) (rest:=f.rd) (oc:=f.oe) (k0:=f.kd) hA f.fs hf N1.zero r1 n1 (λw' r' n'=>ctx_ans hD hk hC hH (4,0) hob (N1.laid (an:=(4,0)) hr r' n'))
  cases hx;cases hx
section
variable {v u u':World}{S S1:TS}{K:List (Nat×Int)}{xs:List Int}{pk:Nat->Option Obj}
theorem Objs.set (h:Objs v S xs pk S1 K u) {b:Nat}{o o':Obj}(hb:pk b=some o) (hvb:v.heap.size<=b) (hw:∀ x,x≠b->u'.heap[x]? = u.heap[x]?) (hn:u'.heap[b]? = some o') (hs:u'.heap.size=u.heap.size) (e1:u'.os=u.os) (e2:u'.output=u.output) (hr:∃ c e f,o'=.cells c e f):Objs v S xs (padd pk b o') S1 K u':=by
 have ho:=(h.new b (by rw[hb];simp)).2;have em:=h.cel.mem.other (v':=u') ho hw hs e1 e2;refine ⟨⟨em.mem,⟨e1.trans h.cel.fr.os,e2.trans h.cel.fr.output,by rw[hs];exact h.cel.fr.size,λx hx hn=>by rw[hw x (by omega)];exact h.cel.fr.block x hx hn⟩,h.cel.own⟩,h.vals,h.st,λx y hx=>?_,λx hx=>?_,λx y hx=>?_⟩
 .by_cases e:x=b
  subst e;rw[padd_at] at hx;cases hx;exact hn;rw[padd_ne e] at hx;rw[hw x e];exact h.has x y hx
 .by_cases e:x=b
  subst e;exact h.new x (by rw[hb];simp);rw[padd_ne e] at hx;exact h.new x hx
 .by_cases e:x=b
  subst e;rw[padd_at] at hx;cases hx;exact hr;rw[padd_ne e] at hx;exact h.row x y hx
theorem padd_padd (pk:Nat->Option Obj) (b:Nat) (o o':Obj):padd (padd pk b o) b o'=padd pk b o':=by funext x;unfold padd;split<;>rfl
theorem kept_new (h:Objs v S xs pk S1 K u) (hl:xs.length+2<=1000000):Calls Tryd.prog 63 #[Pt S.wb 0] u (λe w'=>∃ cw cv,e=.returned (Pt u.heap.size 0)∧u.heap.size<w'.heap.size∧∃ S2,Objs v S (xs++[0]++[0]) (padd pk u.heap.size (.cells #[Pt cw 0,Pt cv 0] 146 (0,0))) S2 (K++[(cw,0)]++[(cv,0)]) w'):=by
 have o1:=h.push (u':=u.alloc (.cells #[.pointer none,.pointer none] 146)) (c:=#[.pointer none,.pointer none]) (t:=146) rfl rfl rfl;have hvu:v.heap.size<=u.heap.size:=h.cel.fr.size;have HO:Hid (Objs v S xs (padd pk u.heap.size (.cells #[.pointer none,.pointer none] 146)) S1 K (u.alloc (.cells #[.pointer none,.pointer none] 146))):=⟨o1⟩
 clear o1 h
 go_enter Tryd.func63,Tryd.ntmps63
 generalize hN:u.heap.size=N at HO hvu ⊢;go_wp2_with fail;refine (HO.out.cell 0 (by omega)).mono ?_;rintro e w1 ⟨cw,rfl,hs1,S2,o2⟩;have hk2:w1.heap[N]? = some (.cells #[.pointer none,.pointer none] 146 (0,0)):=o2.has N _ (padd_at _ _ _);have p0:w1.cell? ⟨N,0,none⟩=some (.pointer none):=by simp[World.cell?,hk2]
 have f0:w1.frozen? ⟨N,0,none⟩=false:=by simp[World.frozen?,hk2]
 have o3:=o2.set (u':=w1.setCell ⟨N,0,none⟩ (Pt cw 0)) (b:=N) (o':=.cells #[Pt cw 0,.pointer none] 146 (0,0)) (padd_at _ _ _) hvu (λx hx=>Below.heap_setCell _ _ _ _ hx) (by have:=heap_setCell_same (o:=0) hk2 (Pt cw 0);simpa using this) (by simp[World.setCell]) rfl rfl ⟨_,_,_,rfl⟩;rw[padd_padd] at o3;have HO3:Hid (Objs v S (xs++[0]) (padd pk N (.cells #[Pt cw 0,.pointer none] 146 (0,0))) S2 (K++[(cw,0)]) (w1.setCell ⟨N,0,none⟩ (Pt cw 0))):=⟨o3⟩
 clear o2 o3 hk2 HO hs1;go_wp2_with fail;refine (HO3.out.cell 0 (by simp;omega)).mono ?_;rintro e w2 ⟨cv,rfl,hs2,S3,o4⟩;have hk4:w2.heap[N]? = some (.cells #[Pt cw 0,.pointer none] 146 (0,0)):=o4.has N _ (padd_at _ _ _);have p1:w2.cell? ⟨N,1,none⟩=some (.pointer none):=by simp[World.cell?,hk4]
 have f1:w2.frozen? ⟨N,1,none⟩=false:=by simp[World.frozen?,hk4]
 have hsz:N<w2.heap.size:=(Qb hk4).1;have o5:=o4.set (u':=w2.setCell ⟨N,1,none⟩ (Pt cv 0)) (b:=N) (o':=.cells #[Pt cw 0,Pt cv 0] 146 (0,0)) (padd_at _ _ _) hvu (λx hx=>Below.heap_setCell _ _ _ _ hx) (by have:=heap_setCell_same (o:=1) hk4 (Pt cv 0);simpa using this) (by simp[World.setCell]) rfl rfl ⟨_,_,_,rfl⟩;rw[padd_padd] at o5;have HO5:Hid (Objs v S (xs++[0]++[0]) (padd pk N (.cells #[Pt cw 0,Pt cv 0] 146 (0,0))) S3 (K++[(cw,0)]++[(cv,0)]) (w2.setCell ⟨N,1,none⟩ (Pt cv 0))):=⟨o5⟩
 have HS:Hid (N<(w2.setCell ⟨N,1,none⟩ (Pt cv 0)).heap.size):=⟨by simpa [World.setCell] using hsz⟩
 clear o4 o5 hk4 HO3 hs2 p0 f0 hsz;go_wp2_with fail;go_ret;exact ⟨cw,cv,rfl,HS.out,S3,HO5.out⟩
theorem once_new (h:Objs v S xs pk S1 K u) (hl:xs.length+2<=1000000):Calls Tryd.prog 25 #[Pt S.wb 0] u (λe w'=>∃ cw cv ob,e=.returned (Pt ob 0)∧u.heap.size<ob∧ob<w'.heap.size∧∃ S2,Objs v S (xs++[0]++[0]) (padd (padd pk u.heap.size (.cells #[Pt cw 0,Pt cv 0] 146 (0,0))) ob (.cells #[Pt u.heap.size 0] 105 (0,0))) S2 (K++[(cw,0)]++[(cv,0)]) w'):=by
 have HC:Hid (Calls Tryd.prog 63 #[Pt S.wb 0] u (λe w'=>∃ cw cv,e=.returned (Pt u.heap.size 0)∧u.heap.size<w'.heap.size∧∃ S2,Objs v S (xs++[0]++[0]) (padd pk u.heap.size (.cells #[Pt cw 0,Pt cv 0] 146 (0,0))) S2 (K++[(cw,0)]++[(cv,0)]) w')):=⟨kept_new h hl⟩
 clear h
 go_enter Tryd.func25,Tryd.ntmps25
 go_wp2_with fail;refine HC.out.mono ?_;rintro e w1 ⟨cw,cv,rfl,hs1,S2,o1⟩;have o2:=o1.push (u':=w1.alloc (.cells #[Pt u.heap.size 0] 105)) (c:=#[Pt u.heap.size 0]) (t:=105) rfl rfl rfl;have HO:Hid (Objs v S (xs++[0]++[0]) (padd (padd pk u.heap.size (.cells #[Pt cw 0,Pt cv 0] 146 (0,0))) w1.heap.size (.cells #[Pt u.heap.size 0] 105)) S2 (K++[(cw,0)]++[(cv,0)]) (w1.alloc (.cells #[Pt u.heap.size 0] 105))):=⟨o2⟩
 have HS:Hid (u.heap.size<w1.heap.size):=⟨hs1⟩
 clear o1 o2 HC hs1;go_wp2_with fail;go_ret;exact ⟨cw,cv,w1.heap.size,rfl,HS.out,by simp,S2,HO.out⟩
end
end Go.Proofs.YtfjjoohflcchnaaDoor.Gen
