/- Of the proof of CounterTimes. Part 29 of 31. (Joined, by program, and written short, of: La14d, La14e, GWb, GIns.) -/
import Derived.Test.YtfjjoohflcchnaaDoorCounterTimes12
import Derived.Test.YtfjjoohflcchnaaDoorCounterTimes18
import Derived.Test.YtfjjoohflcchnaaDoorCounterTimes21
import Derived.Test.YtfjjoohflcchnaaDoorCounterTimes27
import Derived.Test.YtfjjoohflcchnaaDoorCounterTimes28
set_option linter.unusedSimpArgs false
set_option linter.unusedVariables false
set_option maxHeartbeats 4000000
set_option maxRecDepth 100000
namespace Go.Proofs.YtfjjoohflcchnaaDoor.Gen
open Go Go.Lift Go.Conc Go.RowKit
open Go.ConcN (upd upd_same upd_ne)
section
variable {s N B b o cap M g T ct i x t:Nat} {L:List Stp} {v0:World} {st:Stp} {r:Rp} {Q:Exit→Act→World→Prop} {a:Act} {u:World}
theorem R14.row (h:R14 N B x g L v0 st r u):u.rowIs B 3 N (fun t=>I ((r.call t:Nat):Int))∧u.rowIs (B+2) 4 N (fun t=>.bool (r.quiet t))∧u.rowIs (B+3) 3 N (fun t=>I ((r.count t:Nat):Int)):=by
 obtain ⟨f,hf,_⟩:=h.mem
 exact ⟨hf.c,hf.q,hf.n⟩
theorem R14.setC (h:R14 N B x g L v0 st r u) (k y:Nat):R14 N B x g L v0 st { r with call:=upd r.call k y } (u.setCell ⟨B,k,none⟩ (I (y:Int))):=h.set (k:=0) (by omega) k _ fun f hf=>hf.setC k y
theorem R14.setQ (h:R14 N B x g L v0 st r u) (k:Nat) (y:Bool):R14 N B x g L v0 st { r with quiet:=upd r.quiet k y } (u.setCell ⟨B+2,k,none⟩ (.bool y)):=h.set (k:=2) (by omega) k _ fun f hf=>hf.setQ k y
theorem R14.setN (h:R14 N B x g L v0 st r u) (k y:Nat):R14 N B x g L v0 st { r with count:=upd r.count k y } (u.setCell ⟨B+3,k,none⟩ (I (y:Int))):=h.set (k:=3) (by omega) k _ fun f hf=>hf.setN k y
theorem t14_noise {op sop:Int} (hN:N≤8) (h:R14 N B x g L v0 st r u) (hA:Fl 267 [(1,I (s:Nat)),(2,.slice (some ⟨b,o,none⟩) N cap),(9,.slice (some ⟨M,0,none⟩) N N),(12,.slice (some ⟨g,0,none⟩) T ct),(13,I r.total),(14,I (r.busy+1)),(15,.slice (some ⟨B,0,none⟩) N N),(16,.slice (some ⟨(B+1),0,none⟩) N N),(17,.slice (some ⟨(B+2),0,none⟩) N N),(18,.slice (some ⟨(B+3),0,none⟩) N N),(19,I (i:Nat)),(20,Pt x 0),(21,I (t:Nat)),(22,I op),(144,I sop)] a)
 (k:∀ a' w',Fl 267 [(1,I (s:Nat)),(2,.slice (some ⟨b,o,none⟩) N cap),(9,.slice (some ⟨M,0,none⟩) N N),(12,.slice (some ⟨g,0,none⟩) T ct),(13,I r.total),(14,I (r.busy+1)),(15,.slice (some ⟨B,0,none⟩) N N),(16,.slice (some ⟨(B+1),0,none⟩) N N),(17,.slice (some ⟨(B+2),0,none⟩) N N),(18,.slice (some ⟨(B+3),0,none⟩) N N),(19,I (i:Nat)),(20,Pt x 0),(21,I (t:Nat)),(22,I op),(144,I sop)] a'→R14 N B x g L v0 st { r with quiet:=fun _=>false } w'→Q .normal a' w'):(Code.seq q14_41 (.block 5 K14_5)).wp Tryd.prog Q a u:=by
 refine wp_then (p14_41 hA) fun a1 w1 q=>?_
 obtain ⟨hA1,rfl⟩:=q
 unfold K14_5
 refine wp_while (t:=204) (fun c a y=>∃ j,j≤N∧c=N - j∧Fl 267 [(1,I (s:Nat)),(2,.slice (some ⟨b,o,none⟩) N cap),(9,.slice (some ⟨M,0,none⟩) N N),(12,.slice (some ⟨g,0,none⟩) T ct),(13,I r.total),(14,I (r.busy+1)),(15,.slice (some ⟨B,0,none⟩) N N),(16,.slice (some ⟨(B+1),0,none⟩) N N),(17,.slice (some ⟨(B+2),0,none⟩) N N),(18,.slice (some ⟨(B+3),0,none⟩) N N),(19,I (i:Nat)),(20,Pt x 0),(21,I (t:Nat)),(22,I op),(144,I sop),(23,I (j:Nat))] a∧R14 N B x g L v0 st { r with quiet:=fun k=>if k<j then false else r.quiet k } y) N ⟨0,Nat.zero_le _,rfl,hA1,h.to (fun _ _=>rfl) (fun _ _=>rfl) (fun k _=>(show (if k<0 then false else r.quiet k)=r.quiet k from if_neg (by omega))) (fun _ _=>rfl)⟩ ?_
 clear hA1 h hA
 rintro c a2 y ⟨j,hj,rfl,hA2,h⟩
 refine ⟨_,p14_42 hA2,?_⟩
 rintro a3 w3 ⟨hA3,rfl⟩
 by_cases hlt:j<N
 ·refine .inr ⟨hA3.hd (by simp [hlt]),?_⟩
  refine wp_seq (wp_block ?_)
  unfold K14_6
  refine wp_last (p14_44 hlt (h.row.2.1.cell hlt) (h.row.2.1.frozen _) hA3.tl) fun a4 w4 q=>?_
  obtain ⟨hA4,rfl⟩:=q
  show Code.wp _ _ _ _ _
  refine wp_last (p14_43 (by omega) hA4) fun a5 w5 q=>?_
  obtain ⟨hA5,rfl⟩:=q
  refine ⟨N - (j+1),by omega,j+1,by omega,rfl,hA5,(h.setQ j false).to (fun _ _=>rfl) (fun _ _=>rfl) (fun k _=>?_) (fun _ _=>rfl)⟩
  show (if k<j+1 then false else r.quiet k)=upd (fun k=>if k<j then false else r.quiet k) j false k
  by_cases e:k=j
  ·subst e;rw [upd_same,if_pos (by omega)]
  ·rw [upd_ne _ _ e]
   by_cases e2:k<j
   ·rw [if_pos (by omega),if_pos e2]
   ·rw [if_neg (by omega),if_neg e2]
 ·refine .inl ⟨hA3.hf (by simp [hlt]),?_⟩
  refine k _ _ (hA3.sub (by simp)) (h.to (fun _ _=>rfl) (fun _ _=>rfl) (fun k hk=>?_) (fun _ _=>rfl))
  show false=(if k<j then false else r.quiet k)
  rw [if_pos (by omega)]
theorem t14_begin {op:Int} (hN:N≤8) (htN:t<N) (hb:-1000000≤r.busy∧r.busy≤1000000) (h:R14 N B x g L v0 st r u) (hA:Fl 267 [(1,I (s:Nat)),(2,.slice (some ⟨b,o,none⟩) N cap),(9,.slice (some ⟨M,0,none⟩) N N),(12,.slice (some ⟨g,0,none⟩) T ct),(13,I r.total),(14,I r.busy),(15,.slice (some ⟨B,0,none⟩) N N),(16,.slice (some ⟨(B+1),0,none⟩) N N),(17,.slice (some ⟨(B+2),0,none⟩) N N),(18,.slice (some ⟨(B+3),0,none⟩) N N),(19,I (i:Nat)),(20,Pt x 0),(21,I (t:Nat)),(22,I op),(144,I 9)] a)
 (k:∀ a' w',Fl 267 [(1,I (s:Nat)),(2,.slice (some ⟨b,o,none⟩) N cap),(9,.slice (some ⟨M,0,none⟩) N N),(12,.slice (some ⟨g,0,none⟩) T ct),(13,I r.total),(14,I (if op=1 then r.busy+1 else r.busy)),(15,.slice (some ⟨B,0,none⟩) N N),(16,.slice (some ⟨(B+1),0,none⟩) N N),(17,.slice (some ⟨(B+2),0,none⟩) N N),(18,.slice (some ⟨(B+3),0,none⟩) N N),(19,I (i:Nat))] a'→R14 N B x g L v0 st { total:=r.total,busy:=if op=1 then r.busy+1 else r.busy,call:=r.call,seen:=upd r.seen t [r.total],quiet:=upd (if op=1 then fun _=>false else r.quiet) t ((if op=1 then r.busy+1 else r.busy)==0),count:=upd r.count t 0 } w'→Q .normal a' w') :
 (Code.seq (.seq q14_39 (.cond (.tmp 198) (.seq q14_40 (.seq q14_41 (.block 5 K14_5))) .skip)) (.seq q14_45 (.seq q14_46 q14_47))).wp Tryd.prog Q a u:=by
 have rest:∀ {a':Act} {w':World} {r':Rp} {bus:Int},Fl 267 [(1,I (s:Nat)),(2,.slice (some ⟨b,o,none⟩) N cap),(9,.slice (some ⟨M,0,none⟩) N N),(12,.slice (some ⟨g,0,none⟩) T ct),(13,I r.total),(14,I bus),(15,.slice (some ⟨B,0,none⟩) N N),(16,.slice (some ⟨(B+1),0,none⟩) N N),(17,.slice (some ⟨(B+2),0,none⟩) N N),(18,.slice (some ⟨(B+3),0,none⟩) N N),(19,I (i:Nat)),(20,Pt x 0),(21,I (t:Nat)),(22,I op),(144,I 9)] a'→R14 N B x g L v0 st r' w'→(∀ a2 w2,Fl 267 [(1,I (s:Nat)),(2,.slice (some ⟨b,o,none⟩) N cap),(9,.slice (some ⟨M,0,none⟩) N N),(12,.slice (some ⟨g,0,none⟩) T ct),(13,I r.total),(14,I bus),(15,.slice (some ⟨B,0,none⟩) N N),(16,.slice (some ⟨(B+1),0,none⟩) N N),(17,.slice (some ⟨(B+2),0,none⟩) N N),(18,.slice (some ⟨(B+3),0,none⟩) N N),(19,I (i:Nat))] a2→R14 N B x g L v0 st { r' with seen:=upd r'.seen t [r.total],quiet:=upd r'.quiet t (bus==0),count:=upd r'.count t 0 } w2→Q .normal a2 w2)→(Code.seq q14_45 (.seq q14_46 q14_47)).wp Tryd.prog Q a' w':=by
  intro a' w' r' bus hA' h' k'
  refine wp_then (p14_45 htN (h'.row.2.1.cell htN) (h'.row.2.1.frozen _) hA') fun a1 w1 q=>?_
  obtain ⟨hA1,rfl⟩:=q
  have h1:=h'.setQ t (bus==0)
  refine wp_then (p14_46 htN (h1.row.2.2.cell htN) (h1.row.2.2.frozen _) hA1) fun a2 w2 q=>?_
  obtain ⟨hA2,rfl⟩:=q
  have h2:=h1.setN t 0
  obtain ⟨f,hf,hx⟩:=h2.mem
  have hfar:=h2.far
  refine wp_last (p14_47 htN (by omega) (hf.e.cell htN) (hf.e.frozen _) hA2) fun a3 w3 q=>?_
  obtain ⟨hA3,rfl⟩:=q
  exact k' _ _ (hA3.sub (by simp)) (h2.fresh htN r.total)
 refine wp_seq (wp_then (p14_39 hA) fun a1 w1 q=>?_)
 obtain ⟨hA1,rfl⟩:=q
 by_cases h1:op=1
 ·refine wp_cond_true (hA1.hd (by simp [h1])) ?_
  refine wp_then (p14_40 hb hA1.tl) fun a2 w2 q=>?_
  obtain ⟨hA2,rfl⟩:=q
  refine t14_noise hN h hA2 fun a3 w3 hA3 h3=>?_
  show Code.wp _ _ _ _ _
  refine rest hA3 h3 fun a4 w4 hA4 h4=>k _ _ ?_ ?_
  ·rw [if_pos h1];exact hA4
  ·rw [if_pos h1]
   exact h4.to (fun _ _=>rfl) (fun _ _=>rfl) (fun j _=>by show upd (if op=1 then fun _=>false else r.quiet) t _ j=_;rw [if_pos h1]) (fun _ _=>rfl)
 ·refine wp_cond_false (hA1.hf (by simp [h1])) (wp_skip ?_)
  show Code.wp _ _ _ _ _
  refine rest hA1.tl h fun a4 w4 hA4 h4=>k _ _ ?_ ?_
  ·rw [if_neg h1];exact hA4
  ·rw [if_neg h1]
   exact h4.to (fun _ _=>rfl) (fun _ _=>rfl) (fun j _=>by show upd (if op=1 then fun _=>false else r.quiet) t _ j=_;rw [if_neg h1]) (fun _ _=>rfl)
theorem t14_end {op:Int} {k Lt At:Nat} {y:Int} (hs16:s≤16) (htN:t<N) (hb:-1000000≤r.busy∧r.busy≤1000000) (hsee:(r.seen t).length≤1000000) (h:R14 N B x g L v0 st r u) (hol:st.ol=(k:Int)) (hkL:k<Lt) (hM:u.cell? ⟨M,t,none⟩=some (.slice (some ⟨At,0,none⟩) Lt Lt)) (hy:u.cell? ⟨At,k*2+1,none⟩=some (I y)) (hchk:op=2→y∈r.seen t∧(r.quiet t=true→r.count t=2*s)) (hA:Fl 267 [(1,I (s:Nat)),(2,.slice (some ⟨b,o,none⟩) N cap),(9,.slice (some ⟨M,0,none⟩) N N),(12,.slice (some ⟨g,0,none⟩) T ct),(13,I r.total),(14,I r.busy),(15,.slice (some ⟨B,0,none⟩) N N),(16,.slice (some ⟨(B+1),0,none⟩) N N),(17,.slice (some ⟨(B+2),0,none⟩) N N),(18,.slice (some ⟨(B+3),0,none⟩) N N),(19,I (i:Nat)),(20,Pt x 0),(21,I (t:Nat)),(22,I op),(144,I 10)] a)
 (k1:∀ a' w',Fl 267 [(1,I (s:Nat)),(2,.slice (some ⟨b,o,none⟩) N cap),(9,.slice (some ⟨M,0,none⟩) N N),(12,.slice (some ⟨g,0,none⟩) T ct),(13,I r.total),(14,I (if op=1 then r.busy - 1 else r.busy)),(15,.slice (some ⟨B,0,none⟩) N N),(16,.slice (some ⟨(B+1),0,none⟩) N N),(17,.slice (some ⟨(B+2),0,none⟩) N N),(18,.slice (some ⟨(B+3),0,none⟩) N N),(19,I (i:Nat))] a'→R14 N B x g L v0 st { r with busy:=if op=1 then r.busy - 1 else r.busy } w'→Q .normal a' w') :
 (Code.seq (.seq q14_49 (.cond (.tmp 226) q14_50 .skip)) (.seq q14_51 (.cond (.tmp 266) (.seq q14_52 .ret) .skip))).wp Tryd.prog Q a u:=by
 refine wp_seq (wp_then (p14_49 hA) fun a1 w1 q=>?_)
 obtain ⟨hA1,rfl⟩:=q
 by_cases h1:op=1
 ·refine wp_cond_true (hA1.hd (by simp [h1])) ?_
  refine wp_last (p14_50 hb hA1.tl) fun a2 w2 q=>?_
  obtain ⟨hA2,rfl⟩:=q
  show Code.wp _ _ _ _ _
  refine wp_then (wp_nrm (p14_51n (by omega) hA2)) fun a3 w3 q=>?_
  obtain ⟨hA3,e1,e2,e3⟩:=q
  refine wp_cond_false (hA3.hf rfl) (wp_skip (k1 _ _ ?_ ?_))
  ·rw [if_pos h1];exact hA3.sub (by simp)
  ·exact (h.same e1 e2 e3).to (fun _ _=>rfl) (fun _ _=>rfl) (fun _ _=>rfl) (fun _ _=>rfl)
 ·refine wp_cond_false (hA1.hf (by simp [h1])) (wp_skip ?_)
  show Code.wp _ _ _ _ _
  have fin:∀ {op':Int} (a':Act) (w':World),Fl 267 [(266,.bool false),(1,I (s:Nat)),(2,.slice (some ⟨b,o,none⟩) N cap),(9,.slice (some ⟨M,0,none⟩) N N),(12,.slice (some ⟨g,0,none⟩) T ct),(13,I r.total),(14,I r.busy),(15,.slice (some ⟨B,0,none⟩) N N),(16,.slice (some ⟨(B+1),0,none⟩) N N),(17,.slice (some ⟨(B+2),0,none⟩) N N),(18,.slice (some ⟨(B+3),0,none⟩) N N),(19,I (i:Nat)),(20,Pt x 0),(21,I (t:Nat)),(22,I op'),(144,I 10)] a'∧(w'.heap=w1.heap∧w'.os=w1.os∧w'.output=w1.output)→(Code.cond (.tmp 266) (.seq q14_52 .ret) .skip).wp Tryd.prog Q a' w':=fun {op'} a' w' q=>by
   obtain ⟨hA3,e1,e2,e3⟩:=q
   refine wp_cond_false (hA3.hf rfl) (wp_skip (k1 _ _ ?_ ?_))
   ·rw [if_neg h1];exact hA3.sub (by simp)
   ·exact (h.same e1 e2 e3).to (fun _ _=>rfl) (fun _ _=>rfl) (fun _ _=>rfl) (fun _ _=>rfl)
  by_cases h2:op=2
  ·subst h2
   obtain ⟨hin,hq⟩:=hchk rfl
   obtain ⟨f,hf,hx⟩:=h.mem
   have hpos:0<(r.seen t).length:=List.length_pos_of_mem hin
   have hown:=hf.own t htN
   obtain ⟨sb,tc,hfe,_,_⟩:=hown.form hpos
   have hd:w1.cell? ⟨B+1,t,none⟩=some (.slice (some ⟨sb,0,none⟩) (r.seen t).length tc):=by rw [hf.e.cell htN,hfe]
   have hc3:w1.cell? ⟨x,3,none⟩=some (I (k:Nat)):=by rw [←hol];exact h.stp 3 _ rfl
   have H:Hid (∀ w:World,w.heap=w1.heap→Calls Tryd.prog 53 #[.slice (some ⟨sb,0,none⟩) (r.seen t).length tc,I y] w (fun e w'=>e=.returned (.bool true)∧w'=w)):=⟨fun w hw=>within_yes (r.seen t) y sb 0 tc w (by omega) (fun j z hz=>by
    have hc:=hown.cells (g:=sb) (by rw [hfe];rfl) j (I z) (by rw [List.getElem?_map,hz];rfl)
    rw [show (⟨sb,0,none⟩:Addr).add j=⟨sb,0+j,none⟩ by unfold Addr.add;split<;>simp_all] at hc
    rw [World.cell?_of_block (w:=w1) (by rw [hw])]
    exact hc) hin⟩
   cases hqt:r.quiet t with
   |true=>exact wp_then (wp_nrm (p14_51y (c:=r.count t) H htN hc3 hd hM hkL hy (by rw [h.row.2.1.cell htN,hqt]) (h.row.2.2.cell htN) hs16 (hq hqt) hA1.tl)) fin
   |false=>exact wp_then (wp_nrm (p14_51q H htN hc3 hd hM hkL hy (by rw [h.row.2.1.cell htN,hqt]) hA1.tl)) fin
  ·exact wp_then (wp_nrm (p14_51n h2 hA1.tl)) fin
theorem t14_grow {op sop y:Int} (hN:N≤8) (hsee:∀ t,(r.seen t).length≤999999) (h:R14 N B x g L v0 st r u) (hA:Fl 267 [(1,I (s:Nat)),(2,.slice (some ⟨b,o,none⟩) N cap),(9,.slice (some ⟨M,0,none⟩) N N),(12,.slice (some ⟨g,0,none⟩) T ct),(13,I y),(14,I r.busy),(15,.slice (some ⟨B,0,none⟩) N N),(16,.slice (some ⟨(B+1),0,none⟩) N N),(17,.slice (some ⟨(B+2),0,none⟩) N N),(18,.slice (some ⟨(B+3),0,none⟩) N N),(19,I (i:Nat)),(20,Pt x 0),(21,I (t:Nat)),(22,I op),(144,I sop)] a)
 (k:∀ a' w',Fl 267 [(1,I (s:Nat)),(2,.slice (some ⟨b,o,none⟩) N cap),(9,.slice (some ⟨M,0,none⟩) N N),(12,.slice (some ⟨g,0,none⟩) T ct),(13,I y),(14,I r.busy),(15,.slice (some ⟨B,0,none⟩) N N),(16,.slice (some ⟨(B+1),0,none⟩) N N),(17,.slice (some ⟨(B+2),0,none⟩) N N),(18,.slice (some ⟨(B+3),0,none⟩) N N),(19,I (i:Nat)),(20,Pt x 0),(21,I (t:Nat)),(22,I op),(144,I sop)] a'→R14 N B x g L v0 st { r with seen:=fun j=>r.seen j++[y] } w'→Q .normal a' w'):(Code.seq q14_34 (.block 3 K14_3)).wp Tryd.prog Q a u:=by
 refine wp_then (p14_34 hA) fun a1 w1 q=>?_
 obtain ⟨hA1,rfl⟩:=q
 unfold K14_3
 refine wp_while (t:=182) (fun c a z=>∃ j,j≤N∧c=N - j∧Fl 267 [(1,I (s:Nat)),(2,.slice (some ⟨b,o,none⟩) N cap),(9,.slice (some ⟨M,0,none⟩) N N),(12,.slice (some ⟨g,0,none⟩) T ct),(13,I y),(14,I r.busy),(15,.slice (some ⟨B,0,none⟩) N N),(16,.slice (some ⟨(B+1),0,none⟩) N N),(17,.slice (some ⟨(B+2),0,none⟩) N N),(18,.slice (some ⟨(B+3),0,none⟩) N N),(19,I (i:Nat)),(20,Pt x 0),(21,I (t:Nat)),(22,I op),(144,I sop),(24,I (j:Nat))] a∧R14 N B x g L v0 st { r with seen:=fun k=>if k<j then r.seen k++[y] else r.seen k } z) N ⟨0,Nat.zero_le _,rfl,hA1,h.to (fun _ _=>rfl) (fun k _=>(show (if k<0 then r.seen k++[y] else r.seen k)=r.seen k from if_neg (by omega))) (fun _ _=>rfl) (fun _ _=>rfl)⟩ ?_
 clear hA1 h hA
 rintro c a2 z ⟨j,hj,rfl,hA2,h⟩
 refine ⟨_,p14_35 hA2,?_⟩
 rintro a3 w3 ⟨hA3,rfl⟩
 by_cases hlt:j<N
 ·refine .inr ⟨hA3.hd (by simp [hlt]),?_⟩
  refine wp_seq (wp_block ?_)
  unfold K14_4
  obtain ⟨f,hf,hx⟩:=h.mem
  have hown:=hf.own j hlt
  have hse:(fun k=>if k<j then r.seen k++[y] else r.seen k) j=r.seen j:=if_neg (by omega)
  obtain ⟨tp,tc,hfe⟩:=own_shape hown
  have hown':=hown
  rw [hfe] at hown'
  have hcell:=hf.e.cell hlt
  rw [hfe] at hcell
  have hlen:((fun k=>if k<j then r.seen k++[y] else r.seen k) j).length≤999999:=by rw [hse];exact hsee j
  have hfar:=h.far
  refine wp_last (p14_37 hlt hcell (hf.e.frozen _) hown' (fun q=>by
   rw [←hfe] at q
   have:=(own_lt hown _ q).1
   omega) (Nat.le_trans hlen (by omega)) (by omega) hA3.tl) fun a4 w4 q=>?_
  obtain ⟨hA4,hput⟩:=q
  rw [←hfe] at hput
  have h4:=h.put hlt hf hx hput
  show Code.wp _ _ _ _ _
  refine wp_last (p14_36 (by omega) hA4) fun a5 w5 q=>?_
  obtain ⟨hA5,rfl⟩:=q
  refine ⟨N - (j+1),by omega,j+1,by omega,rfl,hA5,h4.to (fun _ _=>rfl) (fun k _=>?_) (fun _ _=>rfl) (fun _ _=>rfl)⟩
  show (if k<j+1 then r.seen k++[y] else r.seen k)=upd (fun k=>if k<j then r.seen k++[y] else r.seen k) j ((if j<j then r.seen j++[y] else r.seen j)++[y]) k
  by_cases e:k=j
  ·subst e;rw [upd_same,if_pos (by omega),if_neg (by omega)]
  ·rw [upd_ne _ _ e]
   by_cases e2:k<j
   ·rw [if_pos (by omega),if_pos e2]
   ·rw [if_neg (by omega),if_neg e2]
 ·refine .inl ⟨hA3.hf (by simp [hlt]),?_⟩
  refine k _ _ (hA3.sub (by simp)) (h.to (fun _ _=>rfl) (fun k hk=>?_) (fun _ _=>rfl) (fun _ _=>rfl))
  show r.seen k++[y]=(if k<j then r.seen k++[y] else r.seen k)
  rw [if_pos (by omega)]
theorem t14_step {op sop:Int} {ca:Int} {c Lt cc rb ro:Nat} (hN:N≤8) (htN:t<N) (hop:st.op=sop) (hcnt:r.count t≤999999) (htot:-400000000≤r.total∧r.total≤400000000) (hsee:∀ t,(r.seen t).length≤999999) (h:R14 N B x g L v0 st r u) (hcall:r.call t=c)
 (hd:op=1→c<Lt∧u.cell? ⟨b,o+t,none⟩=some (.slice (some ⟨rb,ro,none⟩) Lt cc)∧u.cell? ⟨rb,ro+c*4+1,none⟩=some (I ca)) (hb:b<B) (hrb:op=1→rb<B) (hA:Fl 267 [(1,I (s:Nat)),(2,.slice (some ⟨b,o,none⟩) N cap),(9,.slice (some ⟨M,0,none⟩) N N),(12,.slice (some ⟨g,0,none⟩) T ct),(13,I r.total),(14,I r.busy),(15,.slice (some ⟨B,0,none⟩) N N),(16,.slice (some ⟨(B+1),0,none⟩) N N),(17,.slice (some ⟨(B+2),0,none⟩) N N),(18,.slice (some ⟨(B+3),0,none⟩) N N),(19,I (i:Nat)),(20,Pt x 0),(21,I (t:Nat)),(22,I op),(144,I sop)] a)
 (k:∀ a' w',Fl 267 [(1,I (s:Nat)),(2,.slice (some ⟨b,o,none⟩) N cap),(9,.slice (some ⟨M,0,none⟩) N N),(12,.slice (some ⟨g,0,none⟩) T ct),(13,I (if sop=4∧op=1∧st.ne≠st.ol then r.total+ca.tmod 1000 else r.total)),(14,I r.busy),(15,.slice (some ⟨B,0,none⟩) N N),(16,.slice (some ⟨(B+1),0,none⟩) N N),(17,.slice (some ⟨(B+2),0,none⟩) N N),(18,.slice (some ⟨(B+3),0,none⟩) N N),(19,I (i:Nat))] a'→R14 N B x g L v0 st (if sop=4∧op=1∧st.ne≠st.ol then { r with count:=upd r.count t (r.count t+1),total:=r.total+ca.tmod 1000,seen:=fun k=>r.seen k++[r.total+ca.tmod 1000] } else { r with count:=upd r.count t (r.count t+1) }) w'→Q .normal a' w') :
 (Code.seq q14_31 (.seq q14_32 (.cond (.tmp 164) (.seq q14_33 (.seq q14_34 (.block 3 K14_3))) .skip))).wp Tryd.prog Q a u:=by
 refine wp_then (p14_31 htN (by omega) (h.row.2.2.cell htN) (h.row.2.2.frozen _) hA) fun a1 w1 q=>?_
 obtain ⟨hA1,rfl⟩:=q
 have h1:=h.setN t (r.count t+1)
 have c2:=h1.stp 2 _ rfl
 have c3:=h1.stp 3 _ rfl
 have c4:=h1.stp 4 _ rfl
 have no:∀ {sop' op':Int} (a':Act) (w':World),¬ (sop=4∧op=1∧st.ne≠st.ol)→Fl 267 [(164,.bool false),(1,I (s:Nat)),(2,.slice (some ⟨b,o,none⟩) N cap),(9,.slice (some ⟨M,0,none⟩) N N),(12,.slice (some ⟨g,0,none⟩) T ct),(13,I r.total),(14,I r.busy),(15,.slice (some ⟨B,0,none⟩) N N),(16,.slice (some ⟨(B+1),0,none⟩) N N),(17,.slice (some ⟨(B+2),0,none⟩) N N),(18,.slice (some ⟨(B+3),0,none⟩) N N),(19,I (i:Nat)),(20,Pt x 0),(21,I (t:Nat)),(22,I op'),(144,I sop')] a'∧w'=u.setCell ⟨B+3,t,none⟩ (I ((r.count t+1:Nat):Int))→(Code.cond (.tmp 164) (.seq q14_33 (.seq q14_34 (.block 3 K14_3))) .skip).wp Tryd.prog Q a' w':=fun a' w' hn q=>by
  obtain ⟨hA3,rfl⟩:=q
  refine wp_cond_false (hA3.hf rfl) (wp_skip (k _ _ ?_ ?_))
  ·rw [if_neg hn];exact hA3.sub (by simp)
  ·rw [if_neg hn];exact h1
 by_cases h4:sop=4
 ·have hsop:st.op=4:=hop.trans h4
  have c2':(u.setCell ⟨B+3,t,none⟩ (I ((r.count t+1:Nat):Int))).cell? ⟨x,2,none⟩=some (I 4):=by rw [←hsop];exact c2
  subst h4
  by_cases ho:op=1
  ·subst ho
   by_cases hne:st.ne=st.ol
   ·refine wp_then (p14_32c c2' c3 c4 hA1) fun a2 w2 q=>no (op':=1) (sop':=4) a2 w2 (fun q=>q.2.2 hne) ⟨?_,q.2⟩
    have:=q.1
    rw [show (st.ne != st.ol)=false by simp [hne]] at this
    exact this
   ·refine wp_then (p14_32c c2' c3 c4 hA1) fun a2 w2 q=>?_
    obtain ⟨hA2,rfl⟩:=q
    refine wp_cond_true (hA2.hd (by simp [hne])) ?_
    obtain ⟨d1,d2,d3⟩:=hd rfl
    have hrb':=hrb rfl
    have sety:∀ (bb oo:Nat) (z:Value),bb<B→u.cell? ⟨bb,oo,none⟩=some z→(u.setCell ⟨B+3,t,none⟩ (I ((r.count t+1:Nat):Int))).cell? ⟨bb,oo,none⟩=some z:=fun bb oo z hbb hz=>by
     rw [World.cell?_of_block (w:=u) (Below.heap_setCell _ _ _ _ (by show bb≠B+3;omega))];exact hz
    refine wp_then (wp_nrm (p14_33 htN (by omega) (by rw [h1.row.1.cell htN];show some (I ((r.call t:Nat):Int))=_;rw [hcall]) (sety _ _ _ hb d2) d1 (sety _ _ _ hrb' d3) hA2.tl)) fun a3 w3 q=>?_
    obtain ⟨hA3,e1,e2,e3⟩:=q
    have h3:=h1.same e1 e2 e3
    refine t14_grow (r:={ r with count:=upd r.count t (r.count t+1) }) hN hsee h3 hA3 fun a4 w4 hA4 h4=>k _ _ ?_ ?_
    ·rw [if_pos ⟨rfl,rfl,hne⟩];exact hA4.sub (by simp)
    ·rw [if_pos ⟨rfl,rfl,hne⟩]
     exact h4.to (fun _ _=>rfl) (fun _ _=>rfl) (fun _ _=>rfl) (fun _ _=>rfl)
  ·exact wp_then (p14_32b c2' ho hA1) fun a2 w2 q=>no (op':=op) (sop':=4) a2 w2 (fun q=>ho q.2.1) q
 ·exact wp_then (p14_32a (by rw [←hop];exact c2) h4 hA1) fun a2 w2 q=>no (op':=op) (sop':=sop) a2 w2 (fun q=>h4 q.1) q
end
section
variable {s N B b o cap M g T ct i:Nat} {L:List Stp} {v0:World} {r:Rp} {Q:Exit→Act→World→Prop} {a:Act} {u:World} {A ln cp rb ro:Nat→Nat} {pc:Nat→Option Addr} {cl:Nat→List Cl} {l:Nat→Ph}
theorem poOf_some {t k:Nat} {c:Cl} (h:(cl t)[k]? = some c):poOf cl t k=c.po:=by unfold poOf;rw [h]
theorem caOf_some {t k:Nat} {c:Cl} (h:(cl t)[k]? = some c):caOf cl t k=c.ca:=by unfold caOf;rw [h]
theorem poOf_none {t k:Nat} (h:(cl t)[k]? = none):poOf cl t k=0:=by unfold poOf;rw [h]
theorem t14_round {st:Stp} (hs16:s≤16) (hN:N≤8) (hS:SL N b o ln cp rb ro pc cl v0) (hL:AL N M A ln l v0) (hB:v0.heap.size≤B) (hsz:B+4≤u.heap.size) (hgB:g<B) (hi:i<T) (hst:L[i]? = some st) (hck:StC N s cl l (L.take i) st) (hr:r=rep cl (L.take i)) (hsm:Sm 400000 r)
 (htr:∀ j y,(flat L)[j]? = some y→u.cell? ⟨g,j,none⟩=some y) {f:Nat→Value} (hM:M14 N B r f u) (hk:Kq v0.heap.size v0 u) (hA:Fl 267 [(1,I (s:Nat)),(2,.slice (some ⟨b,o,none⟩) N cap),(9,.slice (some ⟨M,0,none⟩) N N),(12,.slice (some ⟨g,0,none⟩) T ct),(13,I r.total),(14,I r.busy),(15,.slice (some ⟨B,0,none⟩) N N),(16,.slice (some ⟨(B+1),0,none⟩) N N),(17,.slice (some ⟨(B+2),0,none⟩) N N),(18,.slice (some ⟨(B+3),0,none⟩) N N),(19,I (i:Nat))] a)
 (k:∀ a' w',Fl 267 [(1,I (s:Nat)),(2,.slice (some ⟨b,o,none⟩) N cap),(9,.slice (some ⟨M,0,none⟩) N N),(12,.slice (some ⟨g,0,none⟩) T ct),(13,I (rs cl r st).total),(14,I (rs cl r st).busy),(15,.slice (some ⟨B,0,none⟩) N N),(16,.slice (some ⟨(B+1),0,none⟩) N N),(17,.slice (some ⟨(B+2),0,none⟩) N N),(18,.slice (some ⟨(B+3),0,none⟩) N N),(19,I (i:Nat))] a'→(∃ f',M14 N B (rs cl r st) f' w')→Kq v0.heap.size v0 w'→(∀ j y,(flat L)[j]? = some y→w'.cell? ⟨g,j,none⟩=some y)→B+4≤w'.heap.size→Q .normal a' w'):K14_1.wp Tryd.prog Q a u:=by
 unfold K14_1
 obtain ⟨f0,f1,f2,f3,f4⟩:=flat_get L i st hst
 obtain ⟨t,ht,htN,hb9,hb10⟩:=hck
 have d0:=htr _ _ f0
 rw [ht] at d0
 refine wp_then (p14_19 hi d0 (htr _ _ f1) (htr _ _ f2) (htr _ _ f3) (htr _ _ f4) hA) fun a1 w1 q=>?_
 obtain ⟨hA1,hw1⟩:=q
 have k1:Kq u.heap.size u w1:=hw1▸Kq.alloc _ (Nat.le_refl _)
 have g1:Grows u w1:=k1.grows (Nat.le_refl _)
 have hR:R14 N B u.heap.size g L v0 st r w1:=by
  refine ⟨⟨f,hM.grows g1,fun j hj q=>by have:=(own_lt (hM.own j hj) _ q).2;omega⟩,fun j y hy=>?_,fun j y h=>kq_all k1 _ _ (htr j y h),hk.trans (k1.le hk.size),by omega,hB,hgB,by rw [hw1];show _<(u.heap.push _).size;simp⟩
  rw [hw1]
  have hy':#[I (t:Nat),I st.ce,I st.op,I st.ol,I st.ne][j]? = some y:=by rw [←ht];exact hy
  exact cell_of (v:=u.alloc (.cells #[I (t:Nat),I st.ce,I st.op,I st.ol,I st.ne] 60)) (b:=u.heap.size) Array.getElem?_push_size hy'
 generalize u.heap.size=x at hA1 hR
 clear hw1 k1 g1 d0
 have c0:w1.cell? ⟨x,0,none⟩=some (I st.th):=hR.stp 0 _ rfl
 have c2:w1.cell? ⟨x,2,none⟩=some (I st.op):=hR.stp 2 _ rfl
 rw [ht] at c0
 refine wp_then (p14_20 c0 hA1) fun a2 w2 q=>?_
 obtain ⟨hA2,rfl⟩:=q
 refine wp_seq (wp_then (p14_21 htN hA2) fun a3 w3 q=>?_)
 obtain ⟨hA3,rfl⟩:=q
 refine wp_cond_false (hA3.hf rfl) (wp_skip ?_)
 show Code.wp _ _ _ _ _
 have fin:∀ (r':Rp) (a':Act) (w':World),r'=rs cl r st→Fl 267 [(1,I (s:Nat)),(2,.slice (some ⟨b,o,none⟩) N cap),(9,.slice (some ⟨M,0,none⟩) N N),(12,.slice (some ⟨g,0,none⟩) T ct),(13,I r'.total),(14,I r'.busy),(15,.slice (some ⟨B,0,none⟩) N N),(16,.slice (some ⟨(B+1),0,none⟩) N N),(17,.slice (some ⟨(B+2),0,none⟩) N N),(18,.slice (some ⟨(B+3),0,none⟩) N N),(19,I (i:Nat))] a'→R14 N B x g L v0 st r' w'→Q .normal a' w':=fun r' a' w' e hA' h'=>by
  subst e
  obtain ⟨f',hf',_⟩:=h'.mem
  have:=h'.far
  exact k a' w' hA' ⟨f',hf'⟩ h'.kq h'.tr (by omega)
 have hSm1:=hsm.tot
 have hSm2:=hsm.bus
 have opc:∀ (r':Rp) (a':Act) (w':World),Fl 267 [(1,I (s:Nat)),(2,.slice (some ⟨b,o,none⟩) N cap),(9,.slice (some ⟨M,0,none⟩) N N),(12,.slice (some ⟨g,0,none⟩) T ct),(13,I r.total),(14,I r.busy),(15,.slice (some ⟨B,0,none⟩) N N),(16,.slice (some ⟨(B+1),0,none⟩) N N),(17,.slice (some ⟨(B+2),0,none⟩) N N),(18,.slice (some ⟨(B+3),0,none⟩) N N),(19,I (i:Nat)),(20,Pt x 0),(21,I (t:Nat))] a'→R14 N B x g L v0 st r' w'→(∀ a2 w2,Fl 267 [(1,I (s:Nat)),(2,.slice (some ⟨b,o,none⟩) N cap),(9,.slice (some ⟨M,0,none⟩) N N),(12,.slice (some ⟨g,0,none⟩) T ct),(13,I r.total),(14,I r.busy),(15,.slice (some ⟨B,0,none⟩) N N),(16,.slice (some ⟨(B+1),0,none⟩) N N),(17,.slice (some ⟨(B+2),0,none⟩) N N),(18,.slice (some ⟨(B+3),0,none⟩) N N),(19,I (i:Nat)),(20,Pt x 0),(21,I (t:Nat)),(22,I (poOf cl t (r'.call t)))] a2→R14 N B x g L v0 st r' w2→q14_30.wp Tryd.prog (Exit.then (fun a3 w3=>(Code.block 2 K14_2).wp Tryd.prog Q a3 w3) Q) a2 w2)→(Code.seq q14_27 (.seq (.seq q14_28 (.cond (.tmp 131) q14_29 .skip)) (.seq q14_30 (.block 2 K14_2)))).wp Tryd.prog Q a' w':=fun r' a' w' hA' h' k'=>by
  refine wp_then (p14_27 hA') fun a5 w5 q=>?_
  obtain ⟨hA5,rfl⟩:=q
  have hS5:=hS.go h'.kq
  have sr:=hS5.sr t htN
  refine wp_seq (wp_then (wp_nrm (p14_28 htN (h'.row.1.cell htN) sr hA5)) fun a6 w6 q=>?_)
  obtain ⟨hA6,e1,e2,e3⟩:=q
  have h6:=h'.same e1 e2 e3
  by_cases hlt:r'.call t<ln t
  ·refine wp_cond_true (hA6.hd (by simp [hlt])) ?_
   obtain ⟨c,hc⟩:∃ c,(cl t)[r'.call t]? = some c:=⟨_,List.getElem?_eq_getElem (by rw [hS.len t htN];exact hlt)⟩
   have hS6:=hS.go h6.kq
   have sr6:=hS6.sr t htN
   rw [hS.pq t htN (by omega)] at sr6
   refine wp_last (wp_nrm (p14_29 htN (h6.row.1.cell htN) sr6 hlt (hS6.sa t htN _ c hc).1 hA6.tl)) fun a7 w7 q=>?_
   obtain ⟨hA7,e1',e2',e3'⟩:=q
   show Code.wp _ _ _ _ _
   refine wp_seq ?_
   refine k' _ _ ?_ (h6.same e1' e2' e3')
   rw [poOf_some hc];exact hA7
  ·refine wp_cond_false (hA6.hf (by simp [hlt])) (wp_skip ?_)
   show Code.wp _ _ _ _ _
   refine wp_seq ?_
   refine k' _ _ ?_ h6
   rw [poOf_none (List.getElem?_eq_none (by rw [hS.len t htN];omega))]
   exact hA6.tl
 by_cases h9:st.op=9
 ·obtain ⟨k9,hk9,hk9l⟩:=hb9 h9
  have hkl:k9<ln t:=by rw [←hS.len t htN];exact hk9l
  have c3:w3.cell? ⟨x,3,none⟩=some (I (k9:Nat)):=by rw [←hk9];exact hR.stp 3 _ rfl
  refine wp_seq (wp_then (p14_23a (by rw [←h9];exact c2) hA3.tl) fun a4 w4 q=>?_)
  obtain ⟨hA4,rfl⟩:=q
  refine wp_cond_true (hA4.hd rfl) ?_
  refine wp_seq (wp_then (wp_nrm (p14_24 htN c3 ((hS.go hR.kq).sr t htN) ((hL.go hR.kq).ar t htN) hkl hA4.tl)) fun a5 w5 q=>?_)
  obtain ⟨hA5,e1,e2,e3⟩:=q
  refine wp_cond_false (hA5.hf rfl) (wp_skip ?_)
  have h5:=hR.same e1 e2 e3
  show Code.wp _ _ _ _ _
  refine wp_last (p14_26 htN (h5.stp 3 _ rfl) (h5.row.1.cell htN) (h5.row.1.frozen _) hA5.tl) fun a6 w6 q=>?_
  obtain ⟨hA6,hw6⟩:=q
  have h6:=h5.setC t k9
  rw [show (I (k9:Int))=I st.ol by rw [hk9],←hw6] at h6
  show Code.wp _ _ _ _ _
  refine opc _ _ _ hA6 h6 fun a7 w7 hA7 h7=>?_
  have hp:poOf cl t (upd r.call t k9 t)=poOf cl t k9:=by rw [upd_same]
  have hA7:Fl 267 [(1,I (s:Nat)),(2,.slice (some ⟨b,o,none⟩) N cap),(9,.slice (some ⟨M,0,none⟩) N N),(12,.slice (some ⟨g,0,none⟩) T ct),(13,I r.total),(14,I r.busy),(15,.slice (some ⟨B,0,none⟩) N N),(16,.slice (some ⟨(B+1),0,none⟩) N N),(17,.slice (some ⟨(B+2),0,none⟩) N N),(18,.slice (some ⟨(B+3),0,none⟩) N N),(19,I (i:Nat)),(20,Pt x 0),(21,I (t:Nat)),(22,I (poOf cl t k9))] a7:=by rw [←hp];exact hA7
  refine wp_last (p14_30 (h7.stp 2 _ rfl) hA7) fun a8 w8 q=>?_
  obtain ⟨hA8,rfl⟩:=q
  show Code.wp _ _ _ _ _
  refine wp_block ?_
  unfold K14_2
  refine wp_then (p14_38 hA8) fun a9 w9 q=>?_
  obtain ⟨hA9,rfl⟩:=q
  refine wp_cond_true (hA9.hd (by simp [h9])) ?_
  have hA9':=hA9.tl
  rw [h9] at hA9'
  refine t14_begin hN htN (by show -1000000≤r.busy∧r.busy≤1000000;omega) h7 hA9' fun a10 w10 hA10 h10=>?_
  refine fin _ a10 w10 ?_ hA10 h10
  unfold rs
  rw [if_pos h9,ht,hk9]
  simp only [Int.toNat_natCast]
 ·by_cases h10:st.op=10
  ·obtain ⟨k9,c,hk9,hc,hup,hans⟩:=hb10 h10
   have hkl:k9<ln t:=by rw [←hS.len t htN];exact (List.getElem?_eq_some_iff.1 hc).1
   have c3:w3.cell? ⟨x,3,none⟩=some (I (k9:Nat)):=by rw [←hk9];exact hR.stp 3 _ rfl
   refine wp_seq (wp_then (p14_23b (by rw [←h10];exact c2) hA3.tl) fun a4 w4 q=>?_)
   obtain ⟨hA4,rfl⟩:=q
   refine wp_cond_true (hA4.hd rfl) ?_
   refine wp_seq (wp_then (wp_nrm (p14_24 htN c3 ((hS.go hR.kq).sr t htN) ((hL.go hR.kq).ar t htN) hkl hA4.tl)) fun a5 w5 q=>?_)
   obtain ⟨hA5,e1,e2,e3⟩:=q
   refine wp_cond_false (hA5.hf rfl) (wp_skip ?_)
   have h5:=hR.same e1 e2 e3
   show Code.wp _ _ _ _ _
   refine wp_last (p14_26 htN (h5.stp 3 _ rfl) (h5.row.1.cell htN) (h5.row.1.frozen _) hA5.tl) fun a6 w6 q=>?_
   obtain ⟨hA6,hw6⟩:=q
   have h6:=h5.setC t k9
   rw [show (I (k9:Int))=I st.ol by rw [hk9],←hw6] at h6
   show Code.wp _ _ _ _ _
   refine opc _ _ _ hA6 h6 fun a7 w7 hA7 h7=>?_
   have hp:poOf cl t (upd r.call t k9 t)=c.po:=by rw [upd_same];exact poOf_some hc
   have hA7:Fl 267 [(1,I (s:Nat)),(2,.slice (some ⟨b,o,none⟩) N cap),(9,.slice (some ⟨M,0,none⟩) N N),(12,.slice (some ⟨g,0,none⟩) T ct),(13,I r.total),(14,I r.busy),(15,.slice (some ⟨B,0,none⟩) N N),(16,.slice (some ⟨(B+1),0,none⟩) N N),(17,.slice (some ⟨(B+2),0,none⟩) N N),(18,.slice (some ⟨(B+3),0,none⟩) N N),(19,I (i:Nat)),(20,Pt x 0),(21,I (t:Nat)),(22,I c.po)] a7:=by rw [←hp];exact hA7
   refine wp_last (p14_30 (h7.stp 2 _ rfl) hA7) fun a8 w8 q=>?_
   obtain ⟨hA8,rfl⟩:=q
   show Code.wp _ _ _ _ _
   refine wp_block ?_
   unfold K14_2
   refine wp_then (p14_38 hA8) fun a9 w9 q=>?_
   obtain ⟨hA9,rfl⟩:=q
   refine wp_cond_false (hA9.hf (by simp [h9])) ?_
   refine wp_then (p14_48 hA9.tl) fun a10 w10 q=>?_
   obtain ⟨hA10,rfl⟩:=q
   refine wp_cond_true (hA10.hd (by simp [h10])) ?_
   have hA10':=hA10.tl
   rw [h10] at hA10'
   obtain ⟨y,hy⟩:∃ y,(l t).ans[k9]? = some y:=⟨_,List.getElem?_eq_getElem (by rw [hL.al t htN];exact hkl)⟩
   refine t14_end (y:=y.2) hs16 htN (by show -1000000≤r.busy∧r.busy≤1000000;omega) (by have:=hsm.see t;show (r.seen t).length≤_;omega) h7 hk9 hkl ((hL.go h7.kq).ar t htN) ((hL.go h7.kq).an t htN k9 y hy).2 (fun q=>by rw [hr];exact hans q y hy) hA10' fun a11 w11 hA11 h11=>?_
   refine fin _ a11 w11 ?_ hA11 h11
   unfold rs
   rw [if_neg h9,if_pos h10,ht,hk9]
   simp only [Int.toNat_natCast,poOf_some hc]
  ·refine wp_seq (wp_then (p14_23c c2 h9 h10 hA3.tl) fun a4 w4 q=>?_)
   obtain ⟨hA4,rfl⟩:=q
   refine wp_cond_false (hA4.hf rfl) (wp_skip ?_)
   show Code.wp _ _ _ _ _
   refine opc _ _ _ hA4.tl hR fun a7 w7 hA7 h7=>?_
   refine wp_last (p14_30 (h7.stp 2 _ rfl) hA7) fun a8 w8 q=>?_
   obtain ⟨hA8,rfl⟩:=q
   show Code.wp _ _ _ _ _
   refine wp_block ?_
   unfold K14_2
   refine wp_then (p14_38 hA8) fun a9 w9 q=>?_
   obtain ⟨hA9,rfl⟩:=q
   refine wp_cond_false (hA9.hf (by simp [h9])) ?_
   refine wp_then (p14_48 hA9.tl) fun a10 w10 q=>?_
   obtain ⟨hA10,rfl⟩:=q
   refine wp_cond_false (hA10.hf (by simp [h10])) ?_
   have hS7:=hS.go h7.kq
   have blk:∀ {aa:Addr} {z:Value},v0.cell? aa=some z→aa.block<B:=fun h=>Nat.lt_of_lt_of_le (World.block_lt_of_cell? _ _ h) hB
   have key:∀ (hlt:poOf cl t (r.call t)=1),r.call t<ln t∧w10.cell? ⟨b,o+t,none⟩=some (.slice (some ⟨rb t,ro t,none⟩) (ln t) (cp t))∧w10.cell? ⟨rb t,ro t+r.call t*4+1,none⟩=some (I (caOf cl t (r.call t))):=fun hlt=>by
    cases hc:(cl t)[r.call t]? with
    |none=>rw [poOf_none hc] at hlt;cases hlt
    |some c =>
     have hl:=(List.getElem?_eq_some_iff.1 hc).1
     rw [hS.len t htN] at hl
     have sr:=hS7.sr t htN
     rw [hS.pq t htN (by omega)] at sr
     refine ⟨hl,sr,?_⟩
     rw [caOf_some hc]
     exact (hS7.sa t htN _ c hc).2.1
   refine t14_step (c:=r.call t) (Lt:=ln t) (cc:=cp t) (rb:=rb t) (ro:=ro t) (ca:=caOf cl t (r.call t)) hN htN rfl (by have:=hsm.cnt t;omega) (by omega) (fun t=>by have:=hsm.see t;omega) h7 rfl key (blk (hS.sr t htN)) (fun hlt=>by
    cases hc:(cl t)[r.call t]? with
    |none=>rw [poOf_none hc] at hlt;cases hlt
    |some c=>exact blk (hS.sa t htN _ c hc).1) hA10.tl fun a11 w11 hA11 h11=>?_
   by_cases hcas:st.op=4∧poOf cl t (r.call t)=1∧st.ne≠st.ol
   ·rw [if_pos hcas] at hA11 h11
    refine fin { r with count:=upd r.count t (r.count t+1),total:=r.total+(caOf cl t (r.call t)).tmod 1000,seen:=fun k=>r.seen k++[r.total+(caOf cl t (r.call t)).tmod 1000] } a11 w11 ?_ hA11 h11
    unfold rs
    rw [if_neg h9,if_neg h10,ht]
    simp only [Int.toNat_natCast]
    rw [if_pos hcas]
   ·rw [if_neg hcas] at hA11 h11
    refine fin { r with count:=upd r.count t (r.count t+1) } a11 w11 ?_ hA11 h11
    unfold rs
    rw [if_neg h9,if_neg h10,ht]
    simp only [Int.toNat_natCast]
    rw [if_neg hcas]
end
noncomputable def T14:Code:=(.seq (.seq q14_4 (.cond ( .tmp 40 ) (.seq q14_5 .ret) .skip)) (.seq q14_6 (.seq (.seq q14_7 (.cond ( .tmp 51 ) (.seq q14_8 .ret) .skip)) (.seq q14_9 (.seq q14_10 (.seq q14_11 (.seq q14_12 (.seq q14_13 (.seq q14_14 (.seq q14_15 (.seq (.seq q14_16 (.block 0 K14_0)) (.seq q14_53 .ret))))))))))))
theorem tail14_no {a:Act} {v:World} {E:Int} (hE:¬ E=0) (hA:Fl 267 [(7,.bool true),(10,I E)] a):T14.wp Tryd.prog (fun e a' w'=>e=.ret∧Fl 267 [(6,.bool true)] a'∧Kq v.heap.size v w') a v:=by
 unfold T14
 refine wp_seq (wp_then (p14_4n hE hA) fun a1 w1 h=>?_)
 obtain ⟨h1,rfl⟩:=h
 refine wp_cond_true (h1.hd rfl) ?_
 refine wp_then (p14_5 h1.tl) fun a2 w2 h=>?_
 obtain ⟨h2,rfl⟩:=h
 exact wp_ret ⟨rfl,h2,Kq.refl _ _⟩
theorem tail14_yes {s N b o cap M:Nat} {a:Act} {v:World} {S:TS} {A ln cp rb ro:Nat→Nat} {pc:Nat→Option Addr} {cl:Nat→List Cl} {l:Nat→Ph} {L:List Stp} (hs16:s≤16) (hN:N≤8)
 (hS:SL N b o ln cp rb ro pc cl v) (hL:AL N M A ln l v) (hR:Rep zn S v) (hsk:S.stk=false) (htr:S.tr=flat L) (hSn:S.n=L.length) (hs4:S.n≤400000) (hst:EndsC N s cl l L)
 (hA:Fl 267 [(7,.bool true),(10,I 0),(1,I (s:Nat)),(2,.slice (some ⟨b,o,none⟩) N cap),(8,Pt S.wb 0),(9,.slice (some ⟨M,0,none⟩) N N)] a):T14.wp Tryd.prog (fun e a' w'=>e=.ret∧Fl 267 [(6,.bool true)] a'∧Kq v.heap.size v w') a v:=by
 unfold T14
 refine wp_seq (wp_then (p14_4 hA) fun a1 w1 h=>?_)
 obtain ⟨h1,rfl⟩:=h
 refine wp_cond_false (h1.hf rfl) (wp_skip ?_)
 show Code.wp _ _ _ _ _
 refine wp_then (p14_6 hR rfl hsk h1.tl) fun a2 w2 h=>?_
 obtain ⟨h2,rfl⟩:=h
 refine wp_seq (wp_then (p14_7 h2) fun a3 w3 h=>?_)
 obtain ⟨h3,rfl⟩:=h
 refine wp_cond_false (h3.hf rfl) (wp_skip ?_)
 show Code.wp _ _ _ _ _
 refine wp_then (p14_9 hR rfl (by omega) (by rw [htr];exact flat_one L) (show Fl 267 [(1,I (s:Nat)),(2,.slice (some ⟨b,o,none⟩) N cap),(9,.slice (some ⟨M,0,none⟩) N N),(8,Pt S.wb 0)] a3 from h3.tl.sub (by simp))) fun a4 w4 h=>?_
 obtain ⟨p,g,ct,h4,hp,htc,g4⟩:=h
 rw [htr] at htc
 have k4:Kq w3.heap.size w3 w4:=⟨g4.os,g4.output,g4.size,g4.old⟩
 have hgl:0<S.n→g<w4.heap.size:=fun h=>by
  obtain ⟨z,hz⟩:∃ z,L[0]? = some z:=⟨_,List.getElem?_eq_getElem (by omega)⟩
  exact World.block_lt_of_cell? _ _ (htc _ _ (flat_get L 0 z hz).1)
 refine wp_then (p14_10 h4) fun a5 w5 h=>?_
 obtain ⟨h5,rfl⟩:=h
 refine wp_then (p14_11 h5) fun a6 w6 h=>?_
 obtain ⟨h6,rfl⟩:=h
 refine wp_then (p14_12 hN h6) fun a7 w7 h=>?_
 obtain ⟨h7,hw7⟩:=h
 have r1:w7.rowIs w6.heap.size 3 N (fun _=>I 0):=hw7▸World.rowIs_made w6 (I 0) N 3
 have z7:w7.heap.size=w6.heap.size+1:=by rw [hw7];simp
 have k7:Kq w6.heap.size w6 w7:=hw7▸Kq.alloc _ (Nat.le_refl _)
 refine wp_then (p14_13 hN h7) fun a8 w8 h=>?_
 obtain ⟨h8,hw8⟩:=h
 rw [z7] at h8
 have r2:w8.rowIs (w6.heap.size+1) 22 N (fun _=>.slice none 0 0):=by rw [hw8,←z7];exact World.rowIs_made w7 (.slice none 0 0) N 22
 have r1:w8.rowIs w6.heap.size 3 N (fun _=>I 0):=hw8▸r1.alloc _
 have z8:w8.heap.size=w6.heap.size+2:=by rw [hw8];simp;omega
 have k8:Kq w6.heap.size w6 w8:=k7.trans (hw8▸(Kq.alloc _ (by omega)))
 refine wp_then (p14_14 hN h8) fun a9 w9 h=>?_
 obtain ⟨h9,hw9⟩:=h
 rw [z8] at h9
 have r3:w9.rowIs (w6.heap.size+2) 4 N (fun _=>.bool false):=by rw [hw9,←z8];exact World.rowIs_made w8 (.bool false) N 4
 have r2:w9.rowIs (w6.heap.size+1) 22 N (fun _=>.slice none 0 0):=hw9▸r2.alloc _
 have r1:w9.rowIs w6.heap.size 3 N (fun _=>I 0):=hw9▸r1.alloc _
 have z9:w9.heap.size=w6.heap.size+3:=by rw [hw9];simp;omega
 have k9:Kq w6.heap.size w6 w9:=k8.trans (hw9▸(Kq.alloc _ (by omega)))
 refine wp_then (p14_15 hN h9) fun a10 w10 h=>?_
 obtain ⟨h10,hw10⟩:=h
 rw [z9] at h10
 have r4:w10.rowIs (w6.heap.size+3) 3 N (fun _=>I 0):=by rw [hw10,←z9];exact World.rowIs_made w9 (I 0) N 3
 have z10:w10.heap.size=w6.heap.size+4:=by rw [hw10];simp;omega
 have hM:M14 N w6.heap.size rp0 (fun _=>.slice none 0 0) w10:=⟨(hw10▸r1.alloc _:w10.rowIs w6.heap.size 3 N (fun _=>I 0)),(hw10▸r2.alloc _:w10.rowIs (w6.heap.size+1) 22 N (fun _=>.slice none 0 0)),(hw10▸r3.alloc _:w10.rowIs (w6.heap.size+2) 4 N (fun _=>.bool false)),r4,fun t _=>⟨rfl,.inl ⟨rfl,rfl⟩⟩,fun t t' _ _ _ g hg=>by cases hg⟩
 have k10:Kq w6.heap.size w6 w10:=k9.trans (hw10▸(Kq.alloc _ (by omega)))
 have kv:Kq w3.heap.size w3 w10:=k4.trans (k10.le k4.size)
 have htc10:∀ j y,(flat L)[j]? = some y→w10.cell? ⟨g,j,none⟩=some y:=fun j y h=>kq_all k10 _ _ (htc j y h)
 have hB0:w3.heap.size≤w6.heap.size:=k4.size
 clear hw7 hw8 hw9 hw10 r1 r2 r3 r4 z7 z8 z9 k7 k8 k9 h4 h5 h6 h7 h8 h9 g4 k10 htc
 generalize w6.heap.size=B at h10 hM z10 hB0 hgl
 refine wp_seq (wp_then (p14_16 h10) fun a11 w11 h=>?_)
 obtain ⟨h11,rfl⟩:=h
 unfold K14_0
 refine wp_while (t:=69) (fun c a y=>∃ i,i≤S.n∧c=S.n - i∧∃ f,Fl 267 [(1,I (s:Nat)),(2,.slice (some ⟨b,o,none⟩) N cap),(9,.slice (some ⟨M,0,none⟩) N N),(12,.slice p S.n ct),(13,I (rep cl (L.take i)).total),(14,I (rep cl (L.take i)).busy),(15,.slice (some ⟨B,0,none⟩) N N),(16,.slice (some ⟨(B+1),0,none⟩) N N),(17,.slice (some ⟨(B+2),0,none⟩) N N),(18,.slice (some ⟨(B+3),0,none⟩) N N),(19,I (i:Nat))] a∧M14 N B (rep cl (L.take i)) f y∧Kq w3.heap.size w3 y∧(∀ j z,(flat L)[j]? = some z→y.cell? ⟨g,j,none⟩=some z)∧B+4≤y.heap.size) S.n ⟨0,Nat.zero_le _,rfl,_,h11,hM,kv,htc10,by omega⟩ ?_
 clear h11 hM kv htc10 h10 z10
 rintro c a12 y ⟨i,hi,rfl,f,hA12,hM,hk,htc,hsz⟩
 refine ⟨_,p14_17 hA12,?_⟩
 rintro a13 w13 ⟨hA13,rfl⟩
 by_cases hlt:i<S.n
 ·refine .inr ⟨hA13.hd (by simp [hlt]),?_⟩
  refine wp_seq (wp_block ?_)
  have hp':=(hp (by omega)).1
  have hgl':=hgl (by omega)
  subst hp'
  obtain ⟨st,hst'⟩:∃ st,L[i]? = some st:=⟨_,List.getElem?_eq_getElem (by omega)⟩
  have hrep:rep cl (L.take (i+1))=rs cl (rep cl (L.take i)) st:=by
   rw [List.take_add_one,hst']
   exact rep_one cl _ _
  have hcut:L=L.take i++st :: L.drop (i+1):=by
   have h1:=List.take_append_drop i L
   have h2:L.drop i=st :: L.drop (i+1):=by
    rw [List.drop_eq_getElem_cons (by omega)]
    congr 1
    exact (List.getElem?_eq_some_iff.1 hst').2
   rw [h2] at h1
   exact h1.symm
  have hsm:=rep_sm cl (L.take i) sm0
  rw [Nat.zero_add] at hsm
  have hlen:(L.take i).length≤400000:=by rw [List.length_take];omega
  have hsm4:Sm 400000 (rep cl (L.take i)):=⟨by have:=hsm.tot;show -1000*((400000:Nat):Int)≤_∧_;have e:(rep cl (L.take i)).total=((L.take i).foldl (rs cl) rp0).total:=rfl;omega,by have:=hsm.bus;have e:(rep cl (L.take i)).busy=((L.take i).foldl (rs cl) rp0).busy:=rfl;omega,fun t=>Nat.le_trans (hsm.cnt t) hlen,fun t=>Nat.le_trans (hsm.see t) (by omega)⟩
  refine t14_round hs16 hN hS hL hB0 hsz hgl' hlt hst' (hst _ _ _ hcut) rfl hsm4 htc hM hk hA13.tl fun a14 w14 hA14 hM14 hk14 htc14 hsz14=>?_
  show Code.wp _ _ _ _ _
  obtain ⟨f',hf'⟩:=hM14
  refine wp_last (p14_18 (by omega) hA14) fun a15 w15 q=>?_
  obtain ⟨hA15,rfl⟩:=q
  exact ⟨S.n - (i+1),by omega,i+1,by omega,rfl,f',by rw [hrep];exact hA15,by rw [hrep];exact hf',hk14,htc14,hsz14⟩
 ·refine .inl ⟨hA13.hf (by simp [hlt]),?_⟩
  show Code.wp _ _ _ _ _
  refine wp_then (p14_53 (hA13.sub (by simp))) fun a14 w14 q=>?_
  obtain ⟨hA14,rfl⟩:=q
  exact wp_ret ⟨rfl,hA14,hk⟩
end Go.Proofs.YtfjjoohflcchnaaDoor.Gen
namespace Go.Proofs.YtfjjoohflcchnaaDoor.Gen
open Go Go.Lift Go.Conc Go.RowKit
theorem going_wb (S:TS) (i:Nat) (t:Thr):(going S i t).wb=S.wb:=by
 unfold going
 first
  |rfl
  |(unfold picked;split<;>rfl)
  |(split<;>rfl)
theorem pturn_wb {mc:Mc} {p p':PSt} (h:pturn mc p=some p'):p'.S.wb=p.S.wb:=by
 unfold pturn at h
 split at h
 ·split at h
  ·cases h;rfl
  ·cases h
 ·cases h
  exact (resume_sta _ _ _ _ _).wb.trans (going_wb _ _ _)
theorem turns_wb {mc:Mc} {m:Nat} {p p':PSt} (h:Turns mc m p p'):p'.S.wb=p.S.wb:=by
 induction h with
 |stop _=>rfl
 |step h1 _ ih=>exact ih.trans (pturn_wb h1)
theorem hires_wb {mc:Mc} {k:Nat} {ss:List (Scr mc)} {S S':TS} {l l':Nat→Ph} (h:Hires mc k ss S l S' l'):S'.wb=S.wb:=by
 induction h with
 |nil=>rfl
 |cons tv tb gc _ ih=>exact ih.trans (flow_sta _ _ _ _ _ _ _).wb
def InR (x:Int):Prop:=-9223372036854775808≤x∧x<9223372036854775808
def Cl.ok (c:Cl):Prop:=InR c.cb∧InR c.cc
structure InI (W:World) (p:Option Addr) (b o:Nat) (xs:List Int):Prop where
 at_:0<xs.length→p=some ⟨b,o,none⟩
 cell:∀ k x,xs[k]? = some x→W.cell? ⟨b,o+k,none⟩=some (I x)
 inr:∀ x∈xs,InR x
 len:xs.length≤17592186043904
theorem InI.grows {W W':World} {p:Option Addr} {b o:Nat} {xs:List Int} (h:InI W p b o xs) (g:Grows W W'):InI W' p b o xs :=
 ⟨h.at_,fun k x hk=>g.cell (h.cell k x hk),h.inr,h.len⟩
structure InS (W:World) (p:Option Addr) (b o n:Nat) (pc:Nat→Option Addr) (ln cp rb:Nat→Nat) (cl:Nat→List Cl):Prop where
 at_:0<n→p=some ⟨b,o,none⟩
 row:∀ k,k<n→W.cell? ⟨b,o+k,none⟩=some (.slice (pc k) (ln k) (cp k))
 len:∀ j,j<n→(cl j).length=ln j
 pq:∀ j,j<n→0<ln j→pc j=some ⟨rb j,roOf (pc j),none⟩
 call:∀ j,j<n→∀ (k:Nat) (c:Cl),(cl j)[k]? = some c→W.cell? ⟨rb j,roOf (pc j)+k*4,none⟩=some (I c.po)∧W.cell? ⟨rb j,roOf (pc j)+k*4+1,none⟩=some (I c.ca)∧W.cell? ⟨rb j,roOf (pc j)+k*4+2,none⟩=some (I c.cb)∧W.cell? ⟨rb j,roOf (pc j)+k*4+3,none⟩=some (I c.cc)
 ok:∀ j,j<n→∀ c∈cl j,InR c.ca∧c.ok
 n:n≤17592186043904
theorem InS.grows {W W':World} {p:Option Addr} {b o n:Nat} {pc:Nat→Option Addr} {ln cp rb:Nat→Nat} {cl:Nat→List Cl} (h:InS W p b o n pc ln cp rb cl) (g:Grows W W'):InS W' p b o n pc ln cp rb cl :=
 ⟨h.at_,fun k hk=>g.cell (h.row k hk),h.len,h.pq,fun j hj k c hc=>by
  have:=h.call j hj k c hc
  exact ⟨g.cell this.1,g.cell this.2.1,g.cell this.2.2.1,g.cell this.2.2.2⟩,h.ok,h.n⟩
theorem lens_scrs (mc:Mc) (fid:FuncId) (caps:Array Value) (pk:Nat→Option Obj) (N n:Nat) (K:List (Nat×Int)) (pc:Nat→Option Addr) (ln cp rb:Nat→Nat) (cl:Nat→List Cl) (hl:∀ j,j<n→(cl j).length≤64):lens (scrs mc fid caps pk N n K pc ln cp rb cl)≤64*n:=by
 unfold lens scrs
 rw [List.map_map]
 have:∀ (m j:Nat),j+m≤n→((List.range' j m).map ((fun s:Scr mc=>s.calls.length) ∘ scrOf mc fid caps pk N n (K.map (·.1)) pc ln cp rb cl)).sum≤64*m:=by
  intro m
  induction m with
  |zero=>intro j _;simp
  |succ m ih =>
   intro j hj
   rw [List.range'_succ,List.map_cons,List.sum_cons]
   have h1:=ih (j+1) (by omega)
   have h2:((fun s:Scr mc=>s.calls.length) ∘ scrOf mc fid caps pk N n (K.map (·.1)) pc ln cp rb cl) j≤64:=hl j (by omega)
   omega
 exact this n 0 (by omega)
theorem scrs_len (mc:Mc) (fid:FuncId) (caps:Array Value) (pk:Nat→Option Obj) (N n:Nat) (K:List (Nat×Int)) (pc:Nat→Option Addr) (ln cp rb:Nat→Nat) (cl:Nat→List Cl):(scrs mc fid caps pk N n K pc ln cp rb cl).length=n:=by simp [scrs]
theorem asked_of {W v:World} {p:Option Addr} {b o n:Nat} {pc:Nat→Option Addr} {ln cp rb:Nat→Nat} {cl:Nat→List Cl} (h:InS W p b o n pc ln cp rb cl) {xs:List Int} {wb bk:Nat} {sc:Value} (hn:IsNew W xs wb bk sc v) (h64:∀ j,j<n→ln j≤64) (h0:0<n):Asked v (newS wb bk W.heap.size sc xs) n b o pc ln cp rb cl:=by
 have g:=h.grows hn.old
 have far:∀ (a:Addr) (x:Value),W.cell? a=some x→¬ Own (newS wb bk W.heap.size sc xs) [] a.block:=fun a x ha ho=>by
  have:=hn.new _ (.inl ho)
  have:=World.block_lt_of_cell? _ _ ha
  omega
 refine ⟨fun j hj=>⟨h.len j hj,h64 j hj⟩,g.row,far _ _ (h.row 0 h0),fun j hj hl=>⟨h.pq j hj hl,?_⟩,g.call,fun j hj c hc=>(h.ok j hj c hc).1⟩
 obtain ⟨c,hc⟩:∃ c,(cl j)[0]? = some c:=⟨_,List.getElem?_eq_getElem (by rw [h.len j hj];exact hl)⟩
 exact far _ _ (h.call j hj 0 c hc).1
end Go.Proofs.YtfjjoohflcchnaaDoor.Gen
