/- Of the proof of StackVersions. Part 29 of 34. (Joined, by program, and written short, of: La9T.) -/
import Derived.Test.YtbbhahigofeacaaDoorStackVersions28
set_option linter.unusedSimpArgs false
set_option linter.unusedVariables false
set_option maxHeartbeats 4000000
set_option maxRecDepth 100000
namespace Go.Proofs.YtbbhahigofeacaaDoor.Gen
open Go Go.Lift Go.Conc Go.RowKit
open Go.ConcN (upd upd_same upd_ne)
noncomputable def T9:Code:=.seq (.seq q9_4 (.cond ( .tmp 35 ) (.seq q9_5 .ret) .skip)) (.seq q9_6 (.seq q9_7 (.seq q9_8 (.seq q9_9 (.seq q9_10 (.seq q9_11 (.seq (.seq q9_12 (.block 0 K9_0)) (.seq q9_28 .ret))))))))
theorem fine_T9:fineCode Tryd.prog true LV T9:=fineCode_askS callV extT (by kernel_rfl)
theorem tail9_no {a:Act} {v:World} {E:Int} (hE:E=1∨E=2) (hA:Fl 156 [(7,.bool true),(10,I E)] a):T9.wp Tryd.prog (fun e a' w'=>e=.ret∧Fl 156 [(6,.bool true)] a'∧Kq v.heap.size v w') a v:=by
 unfold T9
 refine wp_seq (wp_then (p9_4n (by omega) hA) fun a1 w1 h=>?_)
 obtain ⟨h1,rfl⟩:=h
 refine wp_cond_true (h1.hd rfl) ?_
 refine wp_then (p9_5 h1.tl) fun a2 w2 h=>?_
 obtain ⟨h2,rfl⟩:=h
 exact wp_ret ⟨rfl,h2,Kq.refl _ _⟩
theorem vstep_ch {hd:Nat} {r:VR} {s:Stp}:(vstep hd r s).ch≤r.ch+1:=by
 unfold vstep
 split
 ·split
  ·exact Nat.le_succ _
  ·show (if s.ol=s.ne then r.ch else r.ch+1)≤r.ch+1
   split<;>omega
 ·exact Nat.le_succ _
theorem vall_drop {hd N:Nat}:∀ (i:Nat) (L:List Stp) (r:VR),vall hd N r L→vall hd N (vrun hd r (L.take i)) (L.drop i)
 |0,L,r,h=>h
 |i+1,[],r,h=>h
 |i+1,s :: L,r,h=>vall_drop i L (vstep hd r s) h.2
theorem vrun_ch {hd:Nat}:∀ (L:List Stp) (r:VR),(vrun hd r L).ch≤r.ch+L.length
 | [],r=>Nat.le_refl _
 |s :: L,r=>by
  have h1:=vrun_ch (hd:=hd) L (vstep hd r s)
  have h2:=vstep_ch (hd:=hd) (r:=r) (s:=s)
  show (vrun hd (vstep hd r s) L).ch≤_
  simp only [List.length_cons]
  omega
theorem tail9_yes {v:World} {a:Act} {S:TS} {n N b o cap wb:Nat} {L:List Stp} (hn:n≤1000) (hN:N≤8) (hR:Rep zn S v) (hwb:wb=S.wb) (htr:S.tr=flat L) (hSn:S.n=L.length) (hs4:S.n≤400000) (hv:vall (hdJ n) N vr0 L)
 (hA:Fl 156 [(7,.bool true),(10,I 0),(1,I (n:Nat)),(2,.slice (some ⟨b,o,none⟩) N cap),(8,Pt wb 0)] a):T9.wp Tryd.prog (fun e a' w'=>e=.ret∧Fl 156 [(6,.bool true)] a'∧Kq v.heap.size v w') a v:=by
 unfold T9
 refine wp_seq (wp_then (p9_4y hA) fun a1 w1 h=>?_)
 obtain ⟨h1,rfl⟩:=h
 refine wp_cond_false (h1.hf rfl) (wp_skip ?_)
 show Code.wp _ _ _ _ _
 refine wp_then (p9_6 hR hwb htr hs4 h1.tl) fun a2 w2 h=>?_
 obtain ⟨p,g,ct,h2,hp,hg,hgr⟩:=h
 refine wp_then (p9_7 hn h2) fun a3 w3 h=>?_
 obtain ⟨h3,rfl⟩:=h
 refine wp_then (p9_8 h3) fun a4 w4 h=>?_
 obtain ⟨h4,rfl⟩:=h
 refine wp_then (p9_9 h4) fun a5 w5 h=>?_
 obtain ⟨h5,rfl⟩:=h
 refine wp_then (p9_10 hN h5) fun a6 w6 h=>?_
 obtain ⟨h6,hw6⟩:=h
 refine wp_then (p9_11 hN h6) fun a7 w7 h=>?_
 obtain ⟨h7,hw7⟩:=h
 have hs6:w6.heap.size=w5.heap.size+1:=by rw [hw6];simp
 have r6:w6.rowIs w5.heap.size 3 N (fun _=>I 0):=by rw [hw6];exact World.rowIs_made _ _ _ _
 have r7:w7.rowIs w6.heap.size 3 N (fun _=>I 0):=by rw [hw7];exact World.rowIs_made _ _ _ _
 have k6:Kq w5.heap.size w5 w6:=by rw [hw6];exact kq_alloc _ _
 have k7:Kq w6.heap.size w6 w7:=by rw [hw7];exact kq_alloc _ _
 have k57:Kq w5.heap.size w5 w7:=k6.trans (k7.le k6.size)
 have hM:M9 w1 g w5.heap.size w6.heap.size N L vr0 w7:=by
  refine ⟨⟨k57.os.trans hgr.os,k57.out.trans hgr.output,Nat.le_trans hgr.size k57.size,fun i hi=>?_⟩,fun j x hx=>?_,?_,r7,by omega,fun hne=>?_,hgr.size,by have:=hgr.size;omega⟩
  ·rw [k57.old i (by have:=hgr.size;omega)];exact hgr.old i hi
  ·exact k57.cell (hg j x hx) (World.block_lt_of_cell? _ _ (hg j x hx))
  ·exact r6.of_block (k7.old _ r6.lt)
  ·have h0:0<L.length:=List.length_pos_iff.2 hne
   obtain ⟨s,hs⟩:∃ s,L[0]? = some s:=⟨_,List.getElem?_eq_getElem h0⟩
   have:=World.block_lt_of_cell? _ _ (hg _ _ (flat_get L 0 s hs).1)
   have:g<w5.heap.size:=this
   omega
 clear hw6 hw7 r6 r7 k6 k7 k57 hgr hg hR h1 h2 h3 h4 h5 h6
 refine wp_seq ?_
 refine wp_then (p9_12 h7) fun a8 w8 h=>?_
 obtain ⟨h8,rfl⟩:=h
 generalize w5.heap.size=sk at *
 generalize w6.heap.size=ck at *
 unfold K9_0
 refine wp_while (t:=50) (fun c a x=>∃ i,i≤L.length∧c=L.length - i∧Fl 156 [(2,.slice (some ⟨b,o,none⟩) N cap),(11,.slice p S.n ct),(12,I (hdJ n:Nat)),(13,I ((vrun (hdJ n) vr0 (L.take i)).now)),(14,I ((vrun (hdJ n) vr0 (L.take i)).ch:Nat)),(15,.slice (some ⟨sk,0,none⟩) N N),(16,.slice (some ⟨ck,0,none⟩) N N),(17,I (i:Nat))] a∧M9 w1 g sk ck N L (vrun (hdJ n) vr0 (L.take i)) x) L.length ⟨0,Nat.zero_le _,rfl,h8,hM⟩ ?_
 rintro c a2 x ⟨i,hi,rfl,hA2,hM2⟩
 refine ⟨_,p9_13 hA2,?_⟩
 rintro a3 w3 ⟨h3,rfl⟩
 by_cases hlt:i<L.length
 ·refine .inr ⟨h3.hd (by simp;omega),?_⟩
  obtain ⟨s,hs⟩:∃ s,L[i]? = some s:=⟨_,List.getElem?_eq_getElem hlt⟩
  have hr:vrun (hdJ n) vr0 (L.take (i+1))=vstep (hdJ n) (vrun (hdJ n) vr0 (L.take i)) s:=by
   rw [List.take_add_one,hs,vrun_app]
   rfl
  have hvo:vok (hdJ n) N (vrun (hdJ n) vr0 (L.take i)) s:=by
   have:=vall_drop i L vr0 hv
   rw [List.drop_eq_getElem_cons hlt] at this
   have e:L[i]=s:=(List.getElem?_eq_some_iff.1 hs).2
   rw [e] at this
   exact this.1
  have hch:(vrun (hdJ n) vr0 (L.take i)).ch≤i:=by
   have h1:=vrun_ch (hd:=hdJ n) (L.take i) vr0
   rw [List.length_take] at h1
   have h2:vr0.ch=0:=rfl
   omega
  have hpp:=(hp (by omega)).1
  refine wp_seq (step9 (T:=S.n) (by omega) hs4 hpp hs hvo hch hM2 h3.tl (fun a4 w4 h4 hM4=>?_))
  refine wp_last (p9_14 (by omega) h4) fun a5 w5 h=>?_
  obtain ⟨h5,rfl⟩:=h
  rw [←hr] at h5 hM4
  exact ⟨L.length - (i+1),by omega,i+1,by omega,rfl,h5,hM4⟩
 ·refine .inl ⟨h3.hf (by simp;omega),?_⟩
  show Code.wp _ _ _ _ _
  refine wp_then (p9_28 (h3.sub (l':=[]) (by simp))) fun a4 w4 h=>?_
  obtain ⟨h4,rfl⟩:=h
  exact wp_ret ⟨rfl,h4,hM2.kq⟩
end Go.Proofs.YtbbhahigofeacaaDoor.Gen
