/- Of the proof of LatchLinear. Part 21 of 27. (Joined, by program, and written short, of: LatFin, LatLin2, LatLin3.) -/
import Derived.Test.YtfjjoohflcchnaaLatchLinear17
import Derived.Test.YtfjjoohflcchnaaLatchLinear19
import Derived.Test.YtfjjoohflcchnaaLatchLinear20
set_option linter.unusedSimpArgs false
set_option linter.unusedVariables false
set_option maxHeartbeats 4000000
set_option maxRecDepth 100000
namespace Go.Proofs.Ytfjjoohflcchnaa.Gen
open Go Go.Lift Go.Conc Go.RowKit
open Go.ConcN (upd upd_same upd_ne)
structure LH (N k:Nat) (n0:Int) (cl:Nat→List Cl) (v:Vw):Prop where
 num:v.K=[n0]
 zero:dn v.L=0
 chg:v.chg=[0]
 stk:v.stk=false
 ends:Ends N n0 cl v.L
 thr:∀ i,i<k→TI n0 0 false (v.se i) (cl i) (v.l i)
 sum:sumF k cl v.l=0
theorem hi_latch {N:Nat} {n0:Int} {cl:Nat→List Cl} {k:Nat} {cs:List (List Cl)} {v v':Vw} (h:Hi mcLatch k cs v v'):cs=(List.range' k cs.length).map cl→k+cs.length=N→LH N k n0 cl v→LH N N n0 cl v':=by
 induction h with
 |nil=>intro _ hN hv;simp at hN;rw [←hN] at hv ⊢;exact hv
 |@cons k c cs v v1 v2 X l' hF e1 e2 e3 e4 e5 h ih =>
  intro hc hN hv
  rw [List.length_cons,List.range'_succ,List.map_cons] at hc
  obtain ⟨hc1,hc2⟩:=List.cons.inj hc
  simp only [List.length_cons] at hN
  rw [hv.stk,hc1] at hF
  obtain ⟨f1,f2,f3,f4,f5⟩:=fw_latch (N:=N) (n0:=n0) (cl:=cl) (i:=k) (by omega) (d:=0) hF (by simp) (Nat.zero_le _) (by simp) (fun x=>by cases x) (fun k c a hk=>by omega)
  obtain ⟨g1,g2⟩:=Ends.more X hv.ends hv.zero f3
  rw [←e4] at g1 g2
  refine ih hc2 (by omega) ⟨by rw [e1];exact hv.num,g2,by rw [e3];exact hv.chg,by rw [e2];exact hv.stk,g1,fun i hi=>?_,?_⟩
  ·rw [e5.l]
   by_cases hne:i=k
   ·subst hne
    rw [upd_same]
    exact f1 _
   ·rw [upd_ne _ _ hne]
    exact (hv.thr i (by omega)).se (e5.oth i hne)
  ·unfold sumF
   rw [List.range_succ,List.map_append,List.sum_append,e5.l]
   simp only [List.map_cons,List.map_nil,List.sum_cons,List.sum_nil,Nat.add_zero,upd_same]
   rw [f2]
   have e6:(List.range k).map (fun i=>cnt (cl i) (upd v.l k l' i).ans (upTo (cl i) (upd v.l k l' i)))=(List.range k).map (fun i=>cnt (cl i) (v.l i).ans (upTo (cl i) (v.l i))):=List.map_congr_left fun i hi=>by
    have:i<k:=List.mem_range.1 hi
    rw [upd_ne _ _ (by omega)]
   rw [e6]
   have:=hv.sum
   unfold sumF at this
   rw [this]
   rfl
structure LatEnd (n:Nat) (n0:Int) (cl:Nat→List Cl) (l:Nat→Ph) (L:List Stp):Prop where
 ends:Ends n n0 cl L
 le:(dn L:Int)≤n0
 sum:((List.range n).map fun i=>cnt (cl i) (l i).ans (cl i).length).sum=dn L
 wait:∀ (i k:Nat) (c:Cl) (a:Int×Int),i<n→(cl i)[k]? = some c→(l i).ans[k]? = some a→c.po=2→a.1=0→n0≤dn L
 stk:∀ (i k:Nat) (a:Int×Int),i<n→(l i).ans[k]? = some a→k<(cl i).length→a.1=4→(dn L:Int)<n0
theorem latch_run {caps:Array Value} {pk:Nat→Option Obj} {N n:Nat} {cb:Nat} {n0:Int} (h0:0≤n0) (hn0:n0≤9223372036854775807) {pc:Nat→Option Addr} {ln cp rb:Nat→Nat} {cl:Nat→List Cl} {wb bk base:Nat} {sc cv:Value} {sched:List Int} {l0 l1:Nat→Ph} {S1:TS} {m:Nat} {p':PSt} (hl0:∀ i,l0 i=.done [])
 (hlen:∀ j,j<n→(cl j).length=ln j∧ln j≤64) (hn8:n≤8)
 (hH:Hires mcLatch 0 (scrs mcLatch 69 caps pk N n [(cb,n0)] pc ln cp rb cl) (nv { cellsS (newS wb bk base sc sched) cv 1 with ran:=true }) l0 S1 l1) (hT:Turns mcLatch m ⟨S1,[(cb,n0)],l1⟩ p') :
 ∃ L,p'.S.tr=flat L∧p'.S.n=L.length∧LatEnd n n0 cl p'.l L:=by
 let v0:Vw:=⟨[n0],false,[0],fun _=>0,l0,[]⟩
 have hs0:Seen ⟨nv { cellsS (newS wb bk base sc sched) cv 1 with ran:=true },[(cb,n0)],l0⟩ v0:=⟨rfl,rfl,rfl,fun i=>rfl,rfl,rfl,rfl,fun i t ht=>by cases ht⟩
 have hcs:(scrs mcLatch 69 caps pk N n [(cb,n0)] pc ln cp rb cl).map (·.calls)=(List.range' 0 n).map cl:=by
  unfold scrs
  rw [List.map_map]
  rfl
 obtain ⟨v1,hi1,hs1⟩:=hires_hi (K:=[(cb,n0)]) hH v0 rfl (fun s hs=>by
  simp only [scrs,List.mem_map,List.mem_range'] at hs
  obtain ⟨j,⟨i,hi,rfl⟩,rfl⟩:=hs
  show List.replicate (ln (0+1*i)) (0,0)=List.replicate (cl (0+1*i)).length (0,0)
  rw [(hlen _ (by omega)).1]) hs0
 rw [hcs] at hi1
 have hlh:LH n n n0 cl v1:=hi_latch hi1 (by simp) (by simp) ⟨rfl,rfl,rfl,rfl,fun A s B e=>by simp [v0] at e,fun i hi=>by omega,rfl⟩
 have hli:LI n n0 cl v1:=⟨⟨n0,hlh.num,h0,by rw [hlh.zero];simp⟩,by rw [hlh.zero];exact hlh.chg,hlh.ends,fun i hi=>by rw [hlh.zero,hlh.stk];exact hlh.thr i hi,by rw [hlh.zero];exact hlh.sum,fun x=>by rw [hlh.stk] at x;cases x⟩
 obtain ⟨a1,a2,a3,a4⟩:=hires_gd metLatch hH rfl (by rw [scrs_len];omega) (fun i t ht=>by cases ht)
 rw [scrs_len,Nat.zero_add] at a1
 have g:Gd metLatch ⟨S1,[(cb,n0)],l1⟩:=⟨by show S1.thr.length≤8;omega,a2⟩
 obtain ⟨v',hI,hs',_,hd⟩:=turns_mv metLatch (N:=n) (Inv:=LI n n0 cl) (fun v v1 hv hm=>latch_mv hn0 hv hm) hT v1 a1 g hs1 hli
 obtain ⟨c,hK,hc0,hcn⟩:=hI.num
 have hup:∀ i,i<n→upTo (cl i) (v'.l i)=(cl i).length:=fun i hi=>by
  obtain ⟨a,ha⟩:=hd i hi
  rw [ha]
  rfl
 refine ⟨v'.L,hs'.tr,hs'.n,?_⟩
 rw [←hs'.l]
 refine ⟨hI.ends,by omega,?_,fun i k c a hi hc ha hp he=>?_,fun i k a hi ha hk he=>?_⟩
 ·rw [←hI.sum]
  unfold sumF
  congr 1
  exact List.map_congr_left fun i hi=>by rw [hup i (List.mem_range.1 hi)]
 ·have hT:=hI.thr i hi
  exact (hT.ok k c a (by rw [hup i hi];exact (List.getElem?_eq_some_iff.1 hc).1) hc ha).1 hp he
 ·have hT:=hI.thr i hi
  have hc:(cl i)[k]? = some (cl i)[k]:=List.getElem?_eq_getElem hk
  exact (hI.stk ((hT.ok k _ a (by rw [hup i hi];exact hk) hc ha).2 he)).1
theorem opOk_latch:OpOk mcLatch:=by
 refine ⟨fun c op j q h=>?_,fun q x op j q' h=>?_,fun q op j q' h=>?_⟩
 ·unfold mcLatch at h
  simp only at h
  split at h
  ·cases h;exact ⟨by decide,by decide⟩
  ·split at h
   ·cases h;exact ⟨by decide,by decide⟩
   ·cases h
 ·unfold mcLatch at h
  simp only at h
  split at h
  ·simp only at h
   split at h
   ·cases h
   ·cases h;exact ⟨by decide,by decide⟩
  ·split at h
   ·simp only at h
    split at h
    ·cases h
    ·cases h;exact ⟨by decide,by decide⟩
   ·simp only at h
    split at h<;>cases h
 ·unfold mcLatch at h
  simp only at h
  cases h
  exact ⟨by decide,by decide⟩
theorem hi_ac {N:Nat} {n0:Int} {cl:Nat→List Cl} {k:Nat} {cs:List (List Cl)} {v v':Vw} (h:Hi mcLatch k cs v v'):cs=(List.range' k cs.length).map cl→k+cs.length=N→(∀ i,i<N→∀ c∈cl i,c.po=1∨c.po=2)→(∀ i,k≤i→nt v.L i=0)→AI cl n0 v→AI cl n0 v':=by
 induction h with
 |nil=>intro _ _ _ _ hA;exact hA
 |@cons k c cs v v1 v2 X l' hF e1 e2 e3 e4 e5 h ih =>
  intro hc hN ho h0 hA
  rw [List.length_cons,List.range'_succ,List.map_cons] at hc
  obtain ⟨hc1,hc2⟩:=List.cons.inj hc
  subst hc1
  simp only [List.length_cons] at hN
  have hF0:Fit9 (k+1) cl (upd (fun _=>[]) k (List.replicate (cl k).length (0,0))) []:=.nil
  obtain ⟨f1,f2⟩:=fw_lat hF (ho k (by omega))
  obtain ⟨_,_,k3⟩:=fw_note (N:=k+1) (cl:=cl) opOk_latch (by omega) hF (fun _=>[]) [] (by simp) (Nat.zero_le _) (by simp) hF0 (fun _=>⟨rfl,fun q a hq _=>absurd hq (by omega)⟩) (fun h=>by cases h)
  obtain ⟨c,hK,hac⟩:=hA
  refine ih hc2 (by omega) ho (fun i hi=>?_) ⟨c,by rw [e1];exact hK,?_⟩
  ·have q:nt X i=0:=by have:=k3 i (by omega);simpa [nt] using this
   rw [e4]
   have:nt (v.L++X) i=nt v.L i+nt X i:=by unfold nt;rw [List.countP_append]
   rw [this,h0 i (by omega),q]
  ·rw [e4,e5.l,ans_upd]
   refine (hac.mono fun j q hq=>?_).more X f1
   by_cases e:j=k
   ·subst e;rw [h0 j (Nat.le_refl _)] at hq;omega
   ·rw [upd_ne _ _ e]
theorem latch_calls {caps:Array Value} {pk:Nat→Option Obj} {N n:Nat} {cb:Nat} {n0:Int} (h0:0≤n0) (hn0:n0≤9223372036854775807) {pc:Nat→Option Addr} {ln cp rb:Nat→Nat} {cl:Nat→List Cl} {wb bk base:Nat} {sc cv:Value} {sched:List Int} {l0 l1:Nat→Ph} {S1:TS} {m:Nat} {p':PSt} (hl0:∀ i,l0 i=.done []) (hops:∀ i,i<n→∀ c∈cl i,c.po=1∨c.po=2)
 (hlen:∀ j,j<n→(cl j).length=ln j∧ln j≤64) (hn8:n≤8)
 (hH:Hires mcLatch 0 (scrs mcLatch 69 caps pk N n [(cb,n0)] pc ln cp rb cl) (nv { cellsS (newS wb bk base sc sched) cv 1 with ran:=true }) l0 S1 l1) (hT:Turns mcLatch m ⟨S1,[(cb,n0)],l1⟩ p') :
 ∃ L c,p'.S.tr=flat L∧p'.S.n=L.length∧Fit9 n cl (fun i=>(p'.l i).ans) L∧Ac9 cl (fun i=>(p'.l i).ans) lst n0 L c∧∀ i,i<n→(p'.l i).ans.length=(cl i).length:=by
 let v0:Vw:=⟨[n0],false,[0],fun _=>0,l0,[]⟩
 have hs0:Seen ⟨nv { cellsS (newS wb bk base sc sched) cv 1 with ran:=true },[(cb,n0)],l0⟩ v0:=⟨rfl,rfl,rfl,fun i=>rfl,rfl,rfl,rfl,fun i t ht=>by cases ht⟩
 have hcs:(scrs mcLatch 69 caps pk N n [(cb,n0)] pc ln cp rb cl).map (·.calls)=(List.range' 0 n).map cl:=by
  unfold scrs
  rw [List.map_map]
  rfl
 obtain ⟨v1,hi1,hs1⟩:=hires_hi (K:=[(cb,n0)]) hH v0 rfl (fun s hs=>by
  simp only [scrs,List.mem_map,List.mem_range'] at hs
  obtain ⟨j,⟨i,hi,rfl⟩,rfl⟩:=hs
  show List.replicate (ln (0+1*i)) (0,0)=List.replicate (cl (0+1*i)).length (0,0)
  rw [(hlen _ (by omega)).1]) hs0
 rw [hcs] at hi1
 have hlh:LH n n n0 cl v1:=hi_latch hi1 (by simp) (by simp) ⟨rfl,rfl,rfl,rfl,fun A s B e=>by simp [v0] at e,fun i hi=>by omega,rfl⟩
 have hli:LI n n0 cl v1:=⟨⟨n0,hlh.num,h0,by rw [hlh.zero];simp⟩,by rw [hlh.zero];exact hlh.chg,hlh.ends,fun i hi=>by rw [hlh.zero,hlh.stk];exact hlh.thr i hi,by rw [hlh.zero];exact hlh.sum,fun x=>by rw [hlh.stk] at x;cases x⟩
 have hni:NI n cl v1:=hi_note opOk_latch hi1 (by simp) (by simp) .nil (fun i hi=>by omega) (fun _ _=>rfl)
 have hai:AI cl n0 v1:=hi_ac (N:=n) hi1 (by simp) (by simp) hops (fun _ _=>rfl) ⟨n0,rfl,.nil⟩
 obtain ⟨a1,a2,a3,a4⟩:=hires_gd metLatch hH rfl (by rw [scrs_len];omega) (fun i t ht=>by cases ht)
 rw [scrs_len,Nat.zero_add] at a1
 have g:Gd metLatch ⟨S1,[(cb,n0)],l1⟩:=⟨by show S1.thr.length≤8;omega,a2⟩
 obtain ⟨v',⟨_,hN,c,_,hA⟩,hs',_,_⟩:=turns_mv metLatch (N:=n) (Inv:=fun v=>LI n n0 cl v∧NI n cl v∧AI cl n0 v) (fun v v1 hv hm=>⟨latch_mv hn0 hv.1 hm,note_mv opOk_latch hv.2.1 hm,lat_ac hn0 hops hv.1 hv.2.1 hv.2.2 hm⟩) hT v1 a1 g hs1 ⟨hli,hni,hai⟩
 refine ⟨v'.L,c,hs'.tr,hs'.n,?_,?_,fun i hi=>?_⟩
 ·rw [←hs'.l];exact hN.fit
 ·rw [←hs'.l];exact hA
 ·rw [←hs'.l];exact (hN.thr i hi).1
end Go.Proofs.Ytfjjoohflcchnaa.Gen
namespace Go.Proofs.Ytfjjoohflcchnaa.Gen
open Go Go.Lift Go.Conc Go.RowKit
open Go.Proofs.Ytfjjoohflcchnaa.His
open Go.ConcN (upd upd_same upd_ne)
theorem ac_low {cl:Nat→List Cl} {an:Nat→List (Int×Int)} {n0 s:Int} {L:List Stp} (h:Ac9 cl an lst n0 L s):Ac9 cl an (fun s c a s'=>lst s c a s'∧s≤n0) n0 L s∧s≤n0:=by
 induction h with
 |nil=>exact ⟨.nil,Int.le_refl _⟩
 |other h hx ih=>exact ⟨.other ih.1 hx,ih.2⟩
 |fin h hn hc ha h4 hs ih =>
  refine ⟨.fin ih.1 hn hc ha h4 ⟨hs,ih.2⟩,?_⟩
  have:=ih.2
  rcases hs with ⟨_,_,_,h⟩|⟨_,_,_,h⟩|⟨_,_,_,h⟩<;>omega
theorem wrap_in {x:Int} (h0:-9223372036854775808≤x) (h1:x≤9223372036854775807):wrap64 x=x:=by
 unfold wrap64
 omega
theorem ops_of {n:Nat} {cl:Nat→List Cl} {m:Int} (h:∀ i,i<(scL n cl).length→∀ k,k<((scL n cl).getD i []).length→R3.OpIn m (((scL n cl).getD i []).getD k R3.call0)):∀ i,i<n→∀ c∈cl i,1≤c.po∧c.po≤m:=fun i hi c hc=>by
 obtain ⟨k,hk,e⟩:=List.mem_iff_getElem.1 hc
 have:=h i (by rw [scL_len];exact hi) k (by rw [scL_get cl hi,List.length_map];exact hk)
 rw [scL_get cl hi] at this
 have e2:((cl i).map toCall).getD k R3.call0=toCall c:=by simp [List.getD_eq_getElem?_getD,hk,e]
 rw [e2] at this
 exact this
theorem lin_of {σ:Type} {N:Nat} {cl:Nat→List Cl} {an:Nat→List (Int×Int)} {st:σ→Cl→Int×Int→σ→Prop} {s0 s:σ} {ob n0:Int} (f:σ→List Int) (hf:f s0=firstOf ob n0) (hS:R3.Starts ob n0) (hl:∀ i,i<N→(an i).length=(cl i).length)
 (hw:∀ (s:σ) (c:Cl) (a:Int×Int) (s':σ) (e:His.Ev),st s c a s'→e.op=c.po→e.a=c.ca→e.b=c.cb→e.ans=a→∃ o,o∈refWays ob n0 (f s) e∧o.1=a∧o.2=f s') {L:List Stp} (hF:Fit9 N cl an L) (hA:Ac9 cl an st s0 L s) (h12:R3.sumL (scL N cl) (scL N cl).length≤12) :
 R3.Alike (scL N cl) (anL N an)∧∀ r,R3.Ofs (scL N cl) (anL N an) 0 (L.map toStep) R3.st0 r→∃ s,r=some s∧R3.Starts ob n0∧s.evs.length≤12∧Hist s.evs∧Lin (refWays ob n0) (firstOf ob n0) s.evs:=by
 refine ⟨alike_of hl,fun r hr=>?_⟩
 obtain ⟨E,id,ord,hE,hI⟩:=run_lin (ways:=refWays ob n0) f hw (run9_of hF s hA)
 refine ⟨_,ofs_is hl hE hF hr,hS,Nat.le_trans (ev_le hE hF) h12,hI.hist,?_⟩
 rw [←hf]
 exact hI.lin
theorem lat_way {n0:Int} (hn0:n0≤9223372036854775807) (s:Int) (c:Cl) (a:Int×Int) (s':Int) (e:His.Ev) (h:lst s c a s'∧s≤n0) (h1:e.op=c.po) (h2:e.a=c.ca) (h3:e.b=c.cb) (h4:e.ans=a):∃ o,o∈refWays 4 n0 [s] e∧o.1=a∧o.2=[s']:=by
 obtain ⟨h,hs⟩:=h
 have key:refWays 4 n0 [s] e=if e.op=1 then (if s > 0 then [((0,0),[wrap64 (s - 1)])] else [((50,0),[s])]) else if e.op=2 then (if s=0 then [((0,0),[s])] else []) else []:=rfl
 rw [key,h1]
 clear key
 rcases h with ⟨hp,rfl,h0,rfl⟩|⟨hp,rfl,rfl,rfl⟩|⟨hp,rfl,rfl,rfl⟩
 ·rw [hp,if_pos rfl,if_pos h0]
  exact ⟨_,List.mem_singleton.2 rfl,rfl,by rw [wrap_in (by omega) (by omega)]⟩
 ·rw [hp,if_pos rfl,if_neg (by omega)]
  exact ⟨_,List.mem_singleton.2 rfl,rfl,rfl⟩
 ·rw [hp,if_neg (by decide),if_pos rfl,if_pos rfl]
  exact ⟨_,List.mem_singleton.2 rfl,rfl,rfl⟩
theorem latch_lin {caps:Array Value} {pk:Nat→Option Obj} {N n:Nat} {cb:Nat} {n0:Int} (h0:0≤n0) (hn0:n0≤9223372036854775807) {pc:Nat→Option Addr} {ln cp rb:Nat→Nat} {cl:Nat→List Cl} {wb bk base:Nat} {sc cv:Value} {sched:List Int} {l0 l1:Nat→Ph} {S1:TS} {m:Nat} {p':PSt} (hl0:∀ i,l0 i=.done [])
 (hlen:∀ j,j<n→(cl j).length=ln j∧ln j≤64) (hn8:n≤8)
 (hH:Hires mcLatch 0 (scrs mcLatch 69 caps pk N n [(cb,n0)] pc ln cp rb cl) (nv { cellsS (newS wb bk base sc sched) cv 1 with ran:=true }) l0 S1 l1) (hT:Turns mcLatch m ⟨S1,[(cb,n0)],l1⟩ p') {L:List Stp} (hL:p'.S.tr=flat L)
 (hop:∀ i,i<(scL n cl).length→∀ k,k<((scL n cl).getD i []).length→R3.OpIn 2 (((scL n cl).getD i []).getD k R3.call0)) (h12:R3.sumL (scL n cl) (scL n cl).length≤12) :
 R3.Alike (scL n cl) (anL n fun i=>(p'.l i).ans)∧∀ r,R3.Ofs (scL n cl) (anL n fun i=>(p'.l i).ans) 0 (L.map toStep) R3.st0 r→∃ s,r=some s∧R3.Starts 4 n0∧s.evs.length≤12∧Hist s.evs∧Lin (refWays 4 n0) (firstOf 4 n0) s.evs:=by
 obtain ⟨L',c,t1,t2,hF,hA,hl⟩:=latch_calls h0 hn0 hl0 (fun i hi c hc=>by have:=ops_of hop i hi c hc;omega) hlen hn8 hH hT
 obtain rfl:L'=L:=flat_inj (t1.symm.trans hL)
 exact lin_of (fun s=>[s]) (by simp [firstOf]) (.inr (.inr (.inr (.inl ⟨rfl,h0⟩)))) hl (lat_way hn0) hF (ac_low hA).1 h12
end Go.Proofs.Ytfjjoohflcchnaa.Gen
