/- Of the proof of OnceAlone. Part 28 of 30. (Joined, by program, and written short, of: OnPkg, OnN, OnY, OnY2.) -/
import Derived.Test.YtfjjoohflcchnaaDoorOnceAlone12
import Derived.Test.YtfjjoohflcchnaaDoorOnceAlone17
import Derived.Test.YtfjjoohflcchnaaDoorOnceAlone20
import Derived.Test.YtfjjoohflcchnaaDoorOnceAlone26
import Derived.Test.YtfjjoohflcchnaaDoorOnceAlone27
import Derived.Deep.RegionHeld3
set_option linter.unusedSimpArgs false
set_option linter.unusedVariables false
set_option maxHeartbeats 4000000
set_option maxRecDepth 100000
namespace Go.Proofs.YtfjjoohflcchnaaDoor.Gen
open Go Go.Lift Go.Conc Go.RowKit
theorem fl_join {n:Nat} {l l':List (Nat×Value)} {a:Act} (h:Fl n l a) (h':Fl n l' a):Fl n (l++l') a:=⟨h.1,h.2.1,fun p hp=>(List.mem_append.1 hp).elim (h.2.2 p) (h'.2.2 p)⟩
structure OMine (m:Nat) (X:Fix (mcO m)) (xb mb sb:Nat):Prop where
 caps:X.caps=#[Pt xb 0,Pt mb 0]
 m0:0<m
 m1:m≤1000
 mem:∀ v,Has X.pk v→R1.Flds v∧v.cell? ⟨xb,0,none⟩=some (.slice (some ⟨sb,0,none⟩) m m)∧v.cell? ⟨mb,0,none⟩=some (I m)
 obj:∀ o,o<m→∃ ob kp cw cv,X.kb[2*o]? = some cw∧X.kb[2*o+1]? = some cv∧∀ v,Has X.pk v→v.cell? ⟨sb,o,none⟩=some (Pt ob 0)∧v.cell? ⟨ob,0,none⟩=some (Pt kp 0)∧v.cell? ⟨kp,0,none⟩=some (Pt cw 0)∧v.cell? ⟨kp,1,none⟩=some (Pt cv 0)
noncomputable def pkgO (m:Nat):Pkg (mcO m) 61 where
 fn:=Tryd.f61
 code:=Tryd.f61.body.getD .skip
 hf:=Tryd.func61
 hname:=by kernel_rfl
 hcode:=rfl
 Mine X:=∃ xb mb sb,OMine m X xb mb sb
 Sit:=oSit
 start:=by
  rintro X ok ⟨xb,mb,sb,hm⟩ hfid c hc cs bc ac ops q rest oc k hoc H z cont Ch Stop S K v w t A hH hob
  rw [hm.caps]
  show GoesI Tryd.prog (X.h==0) (DT (ScZ z) Ch) Stop (G ((base 61).at { tmps:=#[Pt X.tb 0,.agg #[I c.po,I c.ca,I c.cb,I c.cc],Pt xb 0,Pt mb 0]++Array.replicate 27 undef,defers:=[] } [.code (Tryd.f61.body.getD .skip)]) (bc.at ac (.inRegion ops (q :: rest) :: k) :: cs)) w
  have N0:NowP X z cont Ch S K v (fun _=>none) (fun _=>none) (Gen.nv S) K S v w t:=⟨Now.here A (fun b o h=>by cases h) (fun b h=>absurd rfl h) (fun b o h=>by cases h),fun b h=>absurd rfl h⟩
  by_cases hp:1≤c.po∧c.po≤4
  ·have es:(mcO m).start X.i c=.turn 1 (2*which c.ca m) (1,lO (which c.ca m) (c.po - 1) c.cb 0 X.i):=if_pos hp
   rw [es] at hob
   obtain ⟨ob,kp,cw,cv,kw,kv,hv⟩:=hm.obj (which c.ca m) (which_lt _ hm.m0)
   have hD:ODat X (which c.ca m) ob kp cw cv:=⟨fun v hv'=>⟨(hm.mem v hv').1,(hv v hv').2⟩,kw,kv⟩
   refine call_in hp.1 hp.2 hm.m0 hm.m1 (hm.mem v A.pk).2.1 (hm.mem v A.pk).2.2 (hv v A.pk).1 _ A.rel A.noRow (fun a1 v1 w1 o1 hA1 r1 n1 g1 hz1 ho1 hd1 code1 hc1=>?_) _ rfl
   have N1:NowP X z cont Ch S K v (fun _=>none) (oneM (v.heap.size+1) zeroA) (Gen.nv S) K S v1 w1 t:=N0.to g1 r1 n1 (fun b o hb=>by
    obtain ⟨rfl,rfl⟩:=oneM_eq hb
    exact .inr ⟨by omega,hz1,_,_,_,rfl⟩)
   have hl1:v.heap.size+1<v1.heap.size:=(Array.getElem?_eq_some_iff.1 hz1).1
   refine enter_do (f0:=⟨base 61,a1,pO3,14,[15],o1,[.code .ret],bc.at ac (.inRegion ops (q :: rest) :: k) :: cs⟩) ho1 hD (by omega) hH (d:=0) (fun f hkb=>?_) hob N1 code1 hc1
   refine .base (hkb.trans (f2:=fun a=>a) (kb_of (rb:=v.heap.size+1) (fun z Ch Stop v w e x hz hvw hn hk=>?_)) (apart_lt (n:=v1.heap.size) (fun c hb=>by have:=doM_ne hb;omega) (fun c hb=>by rw [oneM_ne hb];exact hl1)))
   show GoesI Tryd.prog (X.h==0) (DT (ScZ z) Ch) Stop (G ((base 61).at (a1.put o1.dst (.agg #[I e,I x])) (.inRegion pO3 [15] :: [.code .ret])) _) w
   rw [hd1]
   exact call_back hA1 cs hoc hz hvw hn hk
  ·have es:(mcO m).start X.i c=.ans 1 0:=if_neg hp
   rw [es] at hob
   refine call_no (by omega) cs hoc A.rel A.noRow (fun v' w' r' n' g'=>?_) _ rfl
   have N1:=N0.grows g' r' n'
   exact hob.ans (1,0) rfl v' w' S r' n' rfl N1.now.evo
 turn:=by
  rintro X ok - hfid op j q Mo cu g ⟨hrow,o,ob,kp,cw,cv,k,b,d,f,rb,b3,b4,b5,a,M,hD,hk,hf,hC,hB,hr,hA,hsit⟩ H z cont Ch Stop y S K v w t A hH hop hce hl hMo hMf hMp hob
  have hpk:∀ b,Mo b≠none→X.pk b=none:=fun b hb=>by
   cases hx:X.pk b with
   |none=>rfl
   |some o=>exact absurd (.inr (.inr (.inr (by rw [hx];simp)))) (hMp b hb)
  have N0:NowP X z cont Ch S K v Mo Mo (Gen.nv S) K S v w t:=⟨Now.here A hMo hMf hrow,hpk⟩
  have cw':=N0.now.cell hD.kw
  have cv':=N0.now.cell hD.kv
  have hokK:∀ K',KOk (mcO m) K':=fun K' j p _=>trivial
  rcases hsit with ⟨rfl,⟨hx,hg⟩|⟨c,hx,hA37,hg⟩|⟨c,hx,hg⟩|⟨hx,_⟩⟩|⟨e,y',bx,rb2,a2,rfl,hA2,he,hne,⟨hx,hg⟩|⟨hx,hg⟩⟩
  · -- it has looked
   cases hx
   refine hg z Ch Stop y w v S K t (cellAt K (2*o)).2 A.rel A.noRow A.mem A.thr A.tb hop hce cw'.1 hl (fun v1 w1 tv r1 n1 e1=>?_)
   have sd:=sta_did (i:=X.i) S tv t (cellAt K (2*o)).2 (cellAt K (2*o)).2
   have N1:NowP X z cont Ch S K v (uni (oneM rb zeroA) M) (uni (oneM rb zeroA) M) _ _ _ v1 w1 t:=⟨N0.now.on e1 r1 n1 (nv_did tv t _ _) (did_thr A.thr) A.tb A.gc sd.bk (hokK _),hpk⟩
   rw [turn1] at hob
   have e2:(cellAt K (2*o)).1=cw:=by rw [cw'.2]
   rw [e2,←sd.stk] at hob
   exact seen_goes (cellAt K (2*o)).2 hD hk hf hC hB hr hA hH hob N1
  · -- it has the value
   cases hx
   refine hg z Ch Stop y w v S K t (cellAt K (2*o+1)).2 A.rel A.noRow A.mem A.thr A.tb hop hce cv'.1 hl (fun v1 w1 tv r1 n1 e1=>?_)
   have sd:=sta_did (i:=X.i) S tv t (cellAt K (2*o+1)).2 (cellAt K (2*o+1)).2
   have N1:NowP X z cont Ch S K v (uni (oneM rb zeroA) M) (uni (oneM rb zeroA) M) _ _ _ v1 w1 t:=⟨N0.now.on e1 r1 n1 (nv_did tv t _ _) (did_thr A.thr) A.tb A.gc sd.bk (hokK _),hpk⟩
   rw [turn2,set_nx] at hob
   have e2:(cellAt K (2*o+1)).1=cv:=by rw [cv'.2]
   rw [e2] at hob
   exact get_val (bc:=f.bd) (ac:=f.ad) (ops:=f.od) (q:=f.qd) (rest:=f.rd) (oc:=f.oe) (k0:=f.kd) (fl_join hA37 hA) f.fs hf N1.zero r1 n1 (fun w' r' n'=>ctx_ans hD hk hC hH (c,(cellAt K (2*o+1)).2) hob (N1.laid (an:=(c,(cellAt K (2*o+1)).2)) hr r' n'))
  · -- it has tried
   cases hx
   refine hg z Ch Stop y w v S K t (cellAt K (2*o)).2 A.rel A.noRow A.mem A.thr A.tb hop hce cw'.1 hl (fun v1 w1 tv r1 n1 e1=>?_)
   have e2:(cellAt K (2*o)).1=cw:=by rw [cw'.2]
   rw [turn3,e2] at hob
   by_cases hxc:(cellAt K (2*o)).2=c
   ·rw [if_pos hxc,set_come] at hob
    have ef:effCas c (R1.wordI 1 X.i 0) (cellAt K (2*o)).2=((c,R1.wordI 1 X.i 0),R1.wordI 1 X.i 0,.bool true):=by unfold effCas;rw [if_pos hxc]
    rw [ef] at e1 ⊢
    have sd:=sta_did (i:=X.i) S tv t c (R1.wordI 1 X.i 0)
    have N1:NowP X z cont Ch S K v (uni (oneM rb zeroA) M) (uni (oneM rb zeroA) M) _ _ _ v1 w1 t:=⟨N0.now.on e1 r1 n1 (nv_did tv t _ _) (did_thr A.thr) A.tb A.gc sd.bk (hokK _),hpk⟩
    exact won_goes hD hk hf hC hB hr hA hH hob N1
   ·rw [if_neg hxc] at hob
    have ef:effCas c (R1.wordI 1 X.i 0) (cellAt K (2*o)).2=(((cellAt K (2*o)).2,(cellAt K (2*o)).2),(cellAt K (2*o)).2,.bool false):=by unfold effCas;rw [if_neg hxc]
    rw [ef] at e1 ⊢
    have sd:=sta_did (i:=X.i) S tv t (cellAt K (2*o)).2 (cellAt K (2*o)).2
    have N1:NowP X z cont Ch S K v (uni (oneM rb zeroA) M) (uni (oneM rb zeroA) M) _ _ _ v1 w1 t:=⟨N0.now.on e1 r1 n1 (nv_did tv t _ _) (did_thr A.thr) A.tb A.gc sd.bk (hokK _),hpk⟩
    exact get_lost hA f.stack (fun a2 hA2=>look_goes hD hk hf hC hB hr hA2 hH hob N1)
  ·cases hx
  · -- the value is stored
   cases hx
   refine hg z Ch Stop y w v S K t (cellAt K (2*o+1)).2 A.rel A.noRow A.mem A.thr A.tb hop hce cv'.1 hl (fun v1 w1 tv r1 n1 e1=>?_)
   have sd:=sta_did (i:=X.i) S tv t (cellAt K (2*o+1)).2 y'
   have N1:NowP X z cont Ch S K v (kMo bx rb2 rb e y' M) (kMo bx rb2 rb e y' M) _ _ _ v1 w1 t:=⟨N0.now.on e1 r1 n1 (nv_did tv t _ _) (did_thr A.thr) A.tb A.gc sd.bk (hokK _),hpk⟩
   rw [turn5] at hob
   have e2:(cellAt K (2*o+1)).1=cv:=by rw [cv'.2]
   rw [e2] at hob
   have htb:=N1.now.at_.tb
   have hgc:=N1.now.at_.gc
   rw [←htb] at hA2
   have hbx:=N1.now.mo bx _ (uni_left (oneM_at _ _))
   refine keep_word (h:=X.h) (e:=e) (i:=X.i) (j:=2*o) (cb:=cw) (kp:=kp) (cont:=cont) (cellAt (K.set (2*o+1) (cv,y')) (2*o)).2 (hD.mem v1 N1.now.at_.pk).1 (hD.mem v1 N1.now.at_.pk).2.2.1 (by simp [World.cell?,hbx]) hA2 _ _ (H (.turn 2 (2*o) (6,lO o k b d X.i++[e,y'])) (kMo bx rb2 rb e y' M)) (fun g hg=>?_) N1.now.at_.rel N1.now.at_.noRow N1.now.at_.mem N1.now.at_.thr (N1.now.cell hD.kw).1 (by rw [htb];exact N1.now.at_.z) (by rw [htb,hgc];exact N1.now.at_.cont) (ob_turn hob N1.now)
   obtain ⟨a4,hA4,hg⟩:=hg
   rw [htb] at hA4 hg
   exact hH _ _ g (N1.now.good (fun _ _ h=>by cases h)) ⟨N1.now.row,o,ob,kp,cw,cv,k,b,d,f,rb,b3,b4,b5,a,M,hD,hk,hf,hC,hB,hr,hA,.inr ⟨e,y',bx,rb2,a4,rfl,hA4,he,hne,.inr ⟨rfl,hg⟩⟩⟩
  · -- both are stored
   cases hx
   refine hg z Ch Stop y w v S K t (cellAt K (2*o)).2 A.rel A.noRow A.mem A.thr A.tb hop hce cw'.1 hl (fun v1 w1 tv r1 n1 e1=>?_)
   have sd:=sta_did (i:=X.i) S tv t (cellAt K (2*o)).2 (R1.wordI 2 0 e)
   have N1:NowP X z cont Ch S K v (kMo bx rb2 rb e y' M) (kMo bx rb2 rb e y' M) _ _ _ v1 w1 t:=⟨N0.now.on e1 r1 n1 (nv_did tv t _ _) (did_thr A.thr) A.tb A.gc sd.bk (hokK _),hpk⟩
   rw [turn6,set_nx] at hob
   have e2:(cellAt K (2*o)).1=cw:=by rw [cw'.2]
   rw [e2] at hob
   have hbx:=N1.now.mo bx _ (uni_left (oneM_at _ _))
   have hrn:uni (oneM rb zeroA) M rb2=none:=by unfold uni;rw [oneM_none hne.2.2.2.1];exact hne.2.2.2.2
   have N2:=N1.less (M1:=uni (oneM rb2 zeroA) (uni (oneM rb zeroA) M)) (fun c o' hb=>uni_right (oneM_none (fun h=>by
    subst h
    unfold uni at hb
    rw [oneM_none hne.1,oneM_none hne.2.1] at hb
    simp only [Option.orElse_none] at hb
    rw [hne.2.2.1] at hb
    cases hb)) hb)
   have o4:gO11[4]? = some (gO11.getD 4 default):=by kernel_rfl
   refine keep_out (bc:=base 64) (ac:=a) (ops:=gO11) (q:=4) (rest:=[5]) (oc:=gO11.getD 4 default) (k0:=[.code .ret,.inBlock 2,.inBlock 1,.inLoop gL,.inBlock 0]) hA2 _ f.stack o4 hbx N2.zero r1 n1 (fun w' r' n'=>?_)
   have N3:=N2.laid (an:=(e,y')) hrn r' n'
   rw [show (gO11.getD 4 default).dst=some 61 by kernel_rfl]
   exact get_kept (bc:=f.bd) (ac:=f.ad) (ops:=f.od) (q:=f.qd) (rest:=f.rd) (oc:=f.oe) (k0:=f.kd) hA f.fs hf N3.zero r' n' (fun w'' r'' n''=>ctx_ans hD hk hC hH (e,y') hob (N3.laid (an:=(e,y')) hr r'' n''))
 wake:=by
  rintro X ok - hfid j q Mo cu g ⟨hrow,o,ob,kp,cw,cv,k,b,d,f,rb,b3,b4,b5,a,M,hD,hk,hf,hC,hB,hr,hA,hsit⟩ H z cont Ch Stop y S K v w t A hH hl hMo hMf hMp hob1 hob2
  have hpk:∀ b,Mo b≠none→X.pk b=none:=fun b hb=>by
   cases hx:X.pk b with
   |none=>rfl
   |some o=>exact absurd (.inr (.inr (.inr (by rw [hx];simp)))) (hMp b hb)
  have N0:NowP X z cont Ch S K v Mo Mo (Gen.nv S) K S v w t:=⟨Now.here A hMo hMf hrow,hpk⟩
  rcases hsit with ⟨rfl,⟨hx,hg⟩|⟨c,hx,hA37,hg⟩|⟨c,hx,hg⟩|⟨hx,hg⟩⟩|⟨e,y',bx,rb2,a2,rfl,hA2,he,hne,⟨hx,hg⟩|⟨hx,hg⟩⟩
  ·cases hx
  ·cases hx
  ·cases hx
  ·cases hx
   refine hg z Ch Stop y w v S K t A.rel A.noRow A.mem A.thr A.tb hl (fun v1 w1 tv hs r1 n1 e1=>?_) (fun v1 w1 hs r1 n1 e1=>?_)
   ·have N1:NowP X z cont Ch S K v (uni (oneM rb zeroA) M) (uni (oneM rb zeroA) M) _ _ _ v1 w1 t:=⟨N0.now.on e1 r1 n1 rfl A.thr A.tb A.gc rfl A.kb.2,hpk⟩
    have hob:=hob2 hs
    rw [woke4] at hob
    exact get_woke hA f.stack (fun a2 hA2=>look_goes hD hk hf hC hB hr hA2 hH hob N1)
   ·have N1:NowP X z cont Ch S K v (uni (oneM rb zeroA) M) (uni (oneM rb zeroA) M) _ _ _ v1 w1 t:=⟨N0.now.on e1 r1 n1 rfl A.thr A.tb A.gc rfl A.kb.2,hpk⟩
    have hob:=hob1 hs
    rw [stuck4] at hob
    exact get_stuck (bc:=f.bd) (ac:=f.ad) (ops:=f.od) (q:=f.qd) (rest:=f.rd) (oc:=f.oe) (k0:=f.kd) hA f.fs hf N1.zero r1 n1 (fun w' r' n'=>ctx_ans hD hk hC hH (4,0) hob (N1.laid (an:=(4,0)) hr r' n'))
  ·cases hx
  ·cases hx
section
variable {v u u':World} {S S1:TS} {K:List (Nat×Int)} {xs:List Int} {pk:Nat→Option Obj}
theorem Objs.set (h:Objs v S xs pk S1 K u) {b:Nat} {o o':Obj} (hb:pk b=some o) (hvb:v.heap.size≤b) (hw:∀ x,x≠b→u'.heap[x]? = u.heap[x]?) (hn:u'.heap[b]? = some o') (hs:u'.heap.size=u.heap.size) (e1:u'.os=u.os) (e2:u'.output=u.output) (hr:∃ c e f,o'=.cells c e f):Objs v S xs (padd pk b o') S1 K u':=by
 have ho:=(h.new b (by rw [hb];simp)).2
 have em:=h.cel.mem.other (v':=u') ho hw hs e1 e2
 refine ⟨⟨em.mem,⟨e1.trans h.cel.fr.os,e2.trans h.cel.fr.output,by rw [hs];exact h.cel.fr.size,fun x hx hn=>by rw [hw x (by omega)];exact h.cel.fr.block x hx hn⟩,h.cel.own⟩,h.vals,h.st,fun x y hx=>?_,fun x hx=>?_,fun x y hx=>?_⟩
 ·by_cases e:x=b
  ·subst e;rw [padd_at] at hx;cases hx;exact hn
  ·rw [padd_ne e] at hx;rw [hw x e];exact h.has x y hx
 ·by_cases e:x=b
  ·subst e;exact h.new x (by rw [hb];simp)
  ·rw [padd_ne e] at hx;exact h.new x hx
 ·by_cases e:x=b
  ·subst e;rw [padd_at] at hx;cases hx;exact hr
  ·rw [padd_ne e] at hx;exact h.row x y hx
theorem padd_padd (pk:Nat→Option Obj) (b:Nat) (o o':Obj):padd (padd pk b o) b o'=padd pk b o':=by
 funext x;unfold padd;split<;>rfl
theorem kept_new (h:Objs v S xs pk S1 K u) (hl:xs.length+2≤1000000):Calls Tryd.prog 63 #[Pt S.wb 0] u (fun e w'=>∃ cw cv,e=.returned (Pt u.heap.size 0)∧u.heap.size<w'.heap.size∧∃ S2,Objs v S (xs++[0]++[0]) (padd pk u.heap.size (.cells #[Pt cw 0,Pt cv 0] 146 (0,0))) S2 (K++[(cw,0)]++[(cv,0)]) w'):=by
 have o1:=h.push (u':=u.alloc (.cells #[.pointer none,.pointer none] 146)) (c:=#[.pointer none,.pointer none]) (t:=146) rfl rfl rfl
 have hvu:v.heap.size≤u.heap.size:=h.cel.fr.size
 have HO:Hid (Objs v S xs (padd pk u.heap.size (.cells #[.pointer none,.pointer none] 146)) S1 K (u.alloc (.cells #[.pointer none,.pointer none] 146))):=⟨o1⟩
 clear o1 h
 go_enter Tryd.func63,Tryd.ntmps63
 generalize hN:u.heap.size=N at HO hvu ⊢
 go_wp2_with fail
 refine (HO.out.cell 0 (by omega)).mono ?_
 rintro e w1 ⟨cw,rfl,hs1,S2,o2⟩
 have hk2:w1.heap[N]? = some (.cells #[.pointer none,.pointer none] 146 (0,0)):=o2.has N _ (padd_at _ _ _)
 have p0:w1.cell? ⟨N,0,none⟩=some (.pointer none):=by simp [World.cell?,hk2]
 have f0:w1.frozen? ⟨N,0,none⟩=false:=by simp [World.frozen?,hk2]
 have o3:=o2.set (u':=w1.setCell ⟨N,0,none⟩ (Pt cw 0)) (b:=N) (o':=.cells #[Pt cw 0,.pointer none] 146 (0,0)) (padd_at _ _ _) hvu (fun x hx=>Below.heap_setCell _ _ _ _ hx) (by have:=heap_setCell_same (o:=0) hk2 (Pt cw 0);simpa using this) (by simp [World.setCell]) rfl rfl ⟨_,_,_,rfl⟩
 rw [padd_padd] at o3
 have HO3:Hid (Objs v S (xs++[0]) (padd pk N (.cells #[Pt cw 0,.pointer none] 146 (0,0))) S2 (K++[(cw,0)]) (w1.setCell ⟨N,0,none⟩ (Pt cw 0))):=⟨o3⟩
 clear o2 o3 hk2 HO hs1
 go_wp2_with fail
 refine (HO3.out.cell 0 (by simp;omega)).mono ?_
 rintro e w2 ⟨cv,rfl,hs2,S3,o4⟩
 have hk4:w2.heap[N]? = some (.cells #[Pt cw 0,.pointer none] 146 (0,0)):=o4.has N _ (padd_at _ _ _)
 have p1:w2.cell? ⟨N,1,none⟩=some (.pointer none):=by simp [World.cell?,hk4]
 have f1:w2.frozen? ⟨N,1,none⟩=false:=by simp [World.frozen?,hk4]
 have hsz:N<w2.heap.size:=(Array.getElem?_eq_some_iff.1 hk4).1
 have o5:=o4.set (u':=w2.setCell ⟨N,1,none⟩ (Pt cv 0)) (b:=N) (o':=.cells #[Pt cw 0,Pt cv 0] 146 (0,0)) (padd_at _ _ _) hvu (fun x hx=>Below.heap_setCell _ _ _ _ hx) (by have:=heap_setCell_same (o:=1) hk4 (Pt cv 0);simpa using this) (by simp [World.setCell]) rfl rfl ⟨_,_,_,rfl⟩
 rw [padd_padd] at o5
 have HO5:Hid (Objs v S (xs++[0]++[0]) (padd pk N (.cells #[Pt cw 0,Pt cv 0] 146 (0,0))) S3 (K++[(cw,0)]++[(cv,0)]) (w2.setCell ⟨N,1,none⟩ (Pt cv 0))):=⟨o5⟩
 have HS:Hid (N<(w2.setCell ⟨N,1,none⟩ (Pt cv 0)).heap.size):=⟨by simpa [World.setCell] using hsz⟩
 clear o4 o5 hk4 HO3 hs2 p0 f0 hsz
 go_wp2_with fail
 go_ret
 exact ⟨cw,cv,rfl,HS.out,S3,HO5.out⟩
theorem once_new (h:Objs v S xs pk S1 K u) (hl:xs.length+2≤1000000):Calls Tryd.prog 25 #[Pt S.wb 0] u (fun e w'=>∃ cw cv ob,e=.returned (Pt ob 0)∧u.heap.size<ob∧ob<w'.heap.size∧∃ S2,Objs v S (xs++[0]++[0]) (padd (padd pk u.heap.size (.cells #[Pt cw 0,Pt cv 0] 146 (0,0))) ob (.cells #[Pt u.heap.size 0] 105 (0,0))) S2 (K++[(cw,0)]++[(cv,0)]) w'):=by
 have HC:Hid (Calls Tryd.prog 63 #[Pt S.wb 0] u (fun e w'=>∃ cw cv,e=.returned (Pt u.heap.size 0)∧u.heap.size<w'.heap.size∧∃ S2,Objs v S (xs++[0]++[0]) (padd pk u.heap.size (.cells #[Pt cw 0,Pt cv 0] 146 (0,0))) S2 (K++[(cw,0)]++[(cv,0)]) w')):=⟨kept_new h hl⟩
 clear h
 go_enter Tryd.func25,Tryd.ntmps25
 go_wp2_with fail
 refine HC.out.mono ?_
 rintro e w1 ⟨cw,cv,rfl,hs1,S2,o1⟩
 have o2:=o1.push (u':=w1.alloc (.cells #[Pt u.heap.size 0] 105)) (c:=#[Pt u.heap.size 0]) (t:=105) rfl rfl rfl
 have HO:Hid (Objs v S (xs++[0]++[0]) (padd (padd pk u.heap.size (.cells #[Pt cw 0,Pt cv 0] 146 (0,0))) w1.heap.size (.cells #[Pt u.heap.size 0] 105)) S2 (K++[(cw,0)]++[(cv,0)]) (w1.alloc (.cells #[Pt u.heap.size 0] 105))):=⟨o2⟩
 have HS:Hid (u.heap.size<w1.heap.size):=⟨hs1⟩
 clear o1 o2 HC hs1
 go_wp2_with fail
 go_ret
 exact ⟨cw,cv,w1.heap.size,rfl,HS.out,by simp,S2,HO.out⟩
end
noncomputable def yB:Code:=Tryd.f18.body.getD .skip
noncomputable def y0:Code:=seq1 yB
noncomputable def y1:Code:=seq1 (seq2 yB)
noncomputable def y2:Code:=seq1 (seq2 (seq2 yB))
noncomputable def y3:Code:=seq1 (seq2 (seq2 (seq2 yB)))
noncomputable def y4:Code:=seq1 (seq2 (seq2 (seq2 (seq2 yB))))
noncomputable def yR:Code:=seq2 (seq2 (seq2 (seq2 (seq2 yB))))
theorem eYB:yB=.seq y0 (.seq y1 (.seq y2 (.seq y3 (.seq y4 yR)))):=by kernel_rfl
theorem fine_y0:fineCode Tryd.prog true LV y0:=fineCode_askS callV extT (by kernel_rfl)
theorem fine_y1:fineCode Tryd.prog true LV y1:=fineCode_askS callV extT (by kernel_rfl)
theorem fine_y2:fineCode Tryd.prog true LV y2:=fineCode_askS callV extT (by kernel_rfl)
theorem fine_y3:fineCode Tryd.prog true LV y3:=fineCode_askS callV extT (by kernel_rfl)
theorem fine_y4:fineCode Tryd.prog true LV y4:=fineCode_askS callV extT (by kernel_rfl)
section
variable {S:TS} {v:World} {a:Act} {n cap mb xb:Nat} {p:Option Addr} {m:Int}
theorem y0_wp (hA:Fl 40 [(0,Pt S.wb 0),(1,I m),(2,.slice p n cap)] a):y0.wp Tryd.prog (fun e a w'=>e=.normal∧Fl 40 [(0,Pt S.wb 0),(2,.slice p n cap),(4,Pt v.heap.size 0),(6,.slice none 0 0),(7,I 0)] a∧w'.heap=v.heap.push (.cells #[I m] 3)∧w'.os=v.os∧w'.output=v.output) a v:=by
 obtain ⟨hsz,hd,hpp⟩:=hA
 obtain ⟨u,rfl,hg⟩:=litN hsz hd
 have u0:=(hg 0).symm.trans (hpp (0,Pt S.wb 0) (by simp))
 have u1:=(hg 1).symm.trans (hpp (1,I m) (by simp))
 have u2:=(hg 2).symm.trans (hpp (2,.slice p n cap) (by simp))
 clear hg hpp hsz hd
 unfold y0 yB Tryd.f18 seq1
 simp only [Option.getD_some,lits,Nat.reduceAdd,u0,u1,u2]
 clear u0 u1 u2
 go_wp2_with fail
 exact ⟨⟨rfl,rfl,by
  intro p hp
  simp only [List.mem_cons,List.not_mem_nil,or_false] at hp
  rcases hp with rfl|rfl|rfl|rfl|rfl<;>rfl⟩,rfl,rfl,rfl⟩
theorem y1_yes (h:Rep zn S v) (pc:Nat→Option Addr) (ln cp:Nat→Nat) (hs:∀ k,k<n→∃ sb so,p=some ⟨sb,so,none⟩∧v.cell? ⟨sb,so+k,none⟩=some (.slice (pc k) (ln k) (cp k))) (hln:∀ k,k<n→ln k≤64) (hn:0<n∧n≤8) (hr:S.ran=false) (hA:Fl 40 [(0,Pt S.wb 0),(2,.slice p n cap),(4,Pt mb 0),(6,.slice none 0 0),(7,I 0)] a) :
 y1.wp Tryd.prog (fun e a w'=>e=.normal∧Fl 40 [(0,Pt S.wb 0),(2,.slice p n cap),(4,Pt mb 0),(6,.slice none 0 0),(7,I 0)] a∧w'.heap=v.heap∧w'.os=v.os∧w'.output=v.output) a v:=by
 have h19:=(body19 h p n cap (by omega) pc ln cp hs).calls Tryd.func59 rfl
 have he:checkE n S.ran=0:=by unfold checkE;rw [if_neg (by rw [hr];rintro (h|h|h)<;>first|omega|cases h)]
 have H19:Hid (Calls Tryd.prog 59 #[Pt S.wb 0,.slice p n cap] v (fun e w'=>e=.returned (I 0)∧w'=v)):=⟨h19.mono (by
  rintro e w' ⟨r,rfl,rfl,⟨⟨k,hk,h1⟩,_⟩|⟨_,rfl⟩⟩
  ·exact absurd (hln k hk) (by omega)
  ·rw [he];exact ⟨rfl,rfl⟩)⟩
 clear h19 h hs hln hn hr he
 obtain ⟨hsz,hd,hpp⟩:=hA
 obtain ⟨u,rfl,hg⟩:=litN hsz hd
 have u0:=(hg 0).symm.trans (hpp (0,Pt S.wb 0) (by simp))
 have u2:=(hg 2).symm.trans (hpp (2,.slice p n cap) (by simp))
 have u4:=(hg 4).symm.trans (hpp (4,Pt mb 0) (by simp))
 have u6:=(hg 6).symm.trans (hpp (6,.slice none 0 0) (by simp))
 have u7:=(hg 7).symm.trans (hpp (7,I 0) (by simp))
 clear hg hpp hsz hd
 unfold y1 yB Tryd.f18 seq1 seq2
 simp only [Option.getD_some,lits,Nat.reduceAdd,u0,u2,u4,u6,u7]
 clear u0 u2 u4 u6 u7
 go_wp2_with (first
  |(go_at_call 59;refine H19.out.mono ?_;rintro e w1 ⟨rfl,rfl⟩))
 first
  |exact ⟨rfl,rfl,by
    intro p hp
    simp only [List.mem_cons,List.not_mem_nil,or_false] at hp
    rcases hp with rfl|rfl|rfl|rfl|rfl<;>rfl⟩
  |exact ⟨⟨rfl,rfl,by
    intro p hp
    simp only [List.mem_cons,List.not_mem_nil,or_false] at hp
    rcases hp with rfl|rfl|rfl|rfl|rfl<;>rfl⟩,rfl,rfl,rfl⟩
theorem y2_yes (h1:1≤m) (h2:m≤1000) (hmb:v.cell? ⟨mb,0,none⟩=some (I m)) (hA:Fl 40 [(0,Pt S.wb 0),(2,.slice p n cap),(4,Pt mb 0),(6,.slice none 0 0),(7,I 0)] a):y2.wp Tryd.prog (fun e a w'=>e=.normal∧Fl 40 [(0,Pt S.wb 0),(2,.slice p n cap),(4,Pt mb 0),(6,.slice none 0 0),(7,I 0)] a∧w'.heap=v.heap∧w'.os=v.os∧w'.output=v.output) a v:=by
 have g1:decide (m<1)=false:=decide_eq_false (by omega)
 have g2:decide (m > 1000)=false:=decide_eq_false (by omega)
 have g3:¬ m<1:=by omega
 have g4:¬ m > 1000:=by omega
 obtain ⟨hsz,hd,hpp⟩:=hA
 obtain ⟨u,rfl,hg⟩:=litN hsz hd
 have u0:=(hg 0).symm.trans (hpp (0,Pt S.wb 0) (by simp))
 have u2:=(hg 2).symm.trans (hpp (2,.slice p n cap) (by simp))
 have u4:=(hg 4).symm.trans (hpp (4,Pt mb 0) (by simp))
 have u6:=(hg 6).symm.trans (hpp (6,.slice none 0 0) (by simp))
 have u7:=(hg 7).symm.trans (hpp (7,I 0) (by simp))
 clear hg hpp hsz hd
 unfold y2 yB Tryd.f18 seq1 seq2
 simp only [Option.getD_some,lits,Nat.reduceAdd,u0,u2,u4,u6,u7]
 clear u0 u2 u4 u6 u7
 go_wp2_with fail
 first
  |exact ⟨rfl,rfl,by
    intro p hp
    simp only [List.mem_cons,List.not_mem_nil,or_false] at hp
    rcases hp with rfl|rfl|rfl|rfl|rfl<;>rfl⟩
  |exact ⟨⟨rfl,rfl,by
    intro p hp
    simp only [List.mem_cons,List.not_mem_nil,or_false] at hp
    rcases hp with rfl|rfl|rfl|rfl|rfl<;>rfl⟩,rfl,rfl,rfl⟩
end
theorem info46:(Tryd.prog.info? 46).map (fun i=>(i.zero,i.size,i.bytes))=some (some (.pointer none),1,8):=by kernel_rfl
theorem make_onces (n:Nat) (hn:n≤1048576) (w:World) :
 (Instr.makeSlice 99 (.int .i64 (n:Int)) (.int .i64 (n:Int))).run Tryd.prog w=.ok (.slice (some ⟨w.heap.size,0,none⟩) n n) (w.alloc (.cells (madeCells #[.pointer none] n) 46)):=by
 cases hq:Tryd.prog.info? 46 with
 |none=>have:=info46;rw [hq] at this;cases this
 |some i =>
  have hi:=info46
  rw [hq] at hi
  simp only [Option.map_some,Option.some.injEq,Prod.mk.injEq] at hi
  obtain ⟨hz,hs,hb⟩:=hi
  have:=run_make (P:=Tryd.prog) w 99 46 i _ Tryd.underlying99 hq hz .i64 .i64 (n:Int) (n:Int) (by omega) (by omega) (by rw [hb];omega) (by omega)
  rw [hs] at this
  rw [this]
  simp [Value.cells]
def rowQ (s:Nat) (obs:List Nat):List Value:=(List.range s).map fun j=>match obs[j]? with|some b=>Pt b 0|none=>.pointer none
def objQ (s:Nat) (obs:List Nat):Obj:=.cells (rowQ s obs).toArray 46 (0,0)
theorem made_rowQ (s:Nat):(.cells (madeCells #[.pointer none] s) 46:Obj)=objQ s []:=by
 unfold objQ rowQ
 congr 1
 apply Array.ext_getElem?
 intro i
 by_cases h:i<s
 ·simp [madeCells,h,Nat.mod_one]
 ·simp [madeCells,h]
theorem rowQ_next {s:Nat} {obs:List Nat} (c:Nat) (hK:obs.length<s):(rowQ s obs).toArray.setIfInBounds obs.length (Pt c 0)=(rowQ s (obs++[c])).toArray:=by
 apply Array.ext_getElem?
 intro i
 unfold rowQ
 rw [Array.getElem?_setIfInBounds]
 by_cases h:obs.length=i
 ·subst h
  simp [hK]
 ·rw [if_neg h]
  by_cases hi:i<s
  ·by_cases hlt:i<obs.length
   ·have e2:(obs++[c])[i]? = obs[i]?:=List.getElem?_append_left hlt
    simp [hi,e2]
   ·have h1:obs[i]? = none:=List.getElem?_eq_none (by omega)
    have h2:(obs++[c])[i]? = none:=List.getElem?_eq_none (by simp;omega)
    simp [hi,h1,h2]
  ·simp [hi]
theorem objQ_at {s k:Nat} {obs:List Nat} {w:World} {N:Nat} (h:w.heap[N]? = some (objQ s obs)) (hK:obs.length=k) (hk:k<s):w.cell? ⟨N,k,none⟩=some (.pointer none)∧w.frozen? ⟨N,k,none⟩=false:=by
 constructor
 ·refine cell_of h ?_
  unfold rowQ
  have:obs[k]? = none:=List.getElem?_eq_none (by omega)
  simp [hk,this]
 ·simp only [World.frozen?,h,objQ]
  simp
structure OI (v:World) (S:TS) (m k sb xb mb:Nat) (pk:Nat→Option Obj) (S1:TS) (K:List (Nat×Int)) (u:World):Prop where
 objs:Objs v S (List.replicate (2*k) 0) pk S1 K u
 klen:K.length=2*k
 fl:∀ w,(∀ b o,b<v.heap.size→pk b=some o→w.heap[b]? = some o)→R1.Flds w
 var:pk xb=some (.cells #[.slice (some ⟨sb,0,none⟩) m m] 99 (0,0))
 many:pk mb=some (.cells #[I m] 3 (0,0))
 low:v.heap.size≤sb
 row:∃ obs:List Nat,obs.length=k∧pk sb=some (objQ m obs)∧∀ o b,obs[o]? = some b→∃ kp cw cv,pk b=some (.cells #[Pt kp 0] 105 (0,0))∧pk kp=some (.cells #[Pt cw 0,Pt cv 0] 146 (0,0))∧K[2*o]? = some (cw,0)∧K[2*o+1]? = some (cv,0)
theorem OI.same {v:World} {S:TS} {m k sb xb mb:Nat} {pk:Nat→Option Obj} {S1:TS} {K:List (Nat×Int)} {u u':World} (h:OI v S m k sb xb mb pk S1 K u) (e:u'.heap=u.heap) (e1:u'.os=u.os) (e2:u'.output=u.output):OI v S m k sb xb mb pk S1 K u':=⟨h.objs.same e e1 e2,h.klen,h.fl,h.var,h.many,h.low,h.row⟩
theorem OI.next {v:World} {S:TS} {m k sb xb mb:Nat} {pk:Nat→Option Obj} {S1 S2:TS} {K:List (Nat×Int)} {u w1:World} (h:OI v S m k sb xb mb pk S1 K u) (hk:k<m) {cw cv ob:Nat} (ho:u.heap.size<ob) (o2:Objs v S (List.replicate (2*k) 0++[0]++[0]) (padd (padd pk u.heap.size (.cells #[Pt cw 0,Pt cv 0] 146 (0,0))) ob (.cells #[Pt u.heap.size 0] 105 (0,0))) S2 (K++[(cw,0)]++[(cv,0)]) w1):∃ pk',OI v S m (k+1) sb xb mb pk' S2 (K++[(cw,0)]++[(cv,0)]) (w1.setCell ⟨sb,k,none⟩ (Pt ob 0)):=by
 have lt:∀ b o,pk b=some o→b<u.heap.size:=fun b o hb=>(Array.getElem?_eq_some_iff.1 (h.objs.has b o hb)).1
 obtain ⟨obs,hl,hrow,hobs⟩:=h.row
 have hsb:=lt _ _ hrow
 let pk1:=padd (padd pk u.heap.size (.cells #[Pt cw 0,Pt cv 0] 146 (0,0))) ob (.cells #[Pt u.heap.size 0] 105 (0,0))
 have old:∀ b o,pk b=some o→pk1 b=some o:=fun b o hb=>by
  have:=lt b o hb
  show padd (padd pk _ _) _ _ b=_
  rw [padd_ne (by omega),padd_ne (by omega)]
  exact hb
 have hN:w1.heap[sb]? = some (objQ m obs):=o2.has sb _ (old _ _ hrow)
 have hrow2:(w1.setCell ⟨sb,k,none⟩ (Pt ob 0)).heap[sb]? = some (objQ m (obs++[ob])):=by
  have:=heap_setCell_same (o:=k) (show w1.heap[sb]? = some (.cells (rowQ m obs).toArray 46 (0,0)) from hN) (Pt ob 0)
  rw [←hl,rowQ_next ob (by omega)] at this
  rw [←hl]
  exact this
 have o3:=o2.set (u':=w1.setCell ⟨sb,k,none⟩ (Pt ob 0)) (b:=sb) (o':=objQ m (obs++[ob])) (old _ _ hrow) h.low (fun x hx=>Below.heap_setCell _ _ _ _ hx) hrow2 (by simp [World.setCell]) rfl rfl ⟨_,_,_,rfl⟩
 have old2:∀ b o,b≠sb→pk b=some o→padd pk1 sb (objQ m (obs++[ob])) b=some o:=fun b o hne hb=>by rw [padd_ne hne];exact old b o hb
 have eR:List.replicate (2*k) (0:Int)++[0]++[0]=List.replicate (2*(k+1)) 0:=by
  rw [show 2*(k+1)=2*k+1+1 by omega,List.replicate_succ',List.replicate_succ']
 rw [eR] at o3
 have ne1:∀ (c:Array Value) (t:TypeId),t≠46→∀ b,pk b=some (.cells c t (0,0))→b≠sb:=fun c t ht b hb e=>by
  subst e
  rw [hrow] at hb
  unfold objQ at hb
  cases hb
  exact ht rfl
 refine ⟨padd pk1 sb (objQ m (obs++[ob])),o3,by simp [h.klen];omega,fun w hw=>h.fl w (fun b o hlt hb=>hw b o hlt (old2 b o (by have:=h.low;omega) hb)),old2 _ _ (ne1 _ _ (by decide) _ h.var) h.var,old2 _ _ (ne1 _ _ (by decide) _ h.many) h.many,h.low,obs++[ob],by simp [hl],padd_at _ _ _,fun o b hb=>?_⟩
 ·rw [List.getElem?_append] at hb
  split at hb
  ·rename_i hlt
   obtain ⟨kp,cw',cv',q1,q2,q3,q4⟩:=hobs o b hb
   refine ⟨kp,cw',cv',old2 _ _ (ne1 _ _ (by decide) _ q1) q1,old2 _ _ (ne1 _ _ (by decide) _ q2) q2,?_,?_⟩
   ·rw [List.append_assoc,List.getElem?_append_left (List.getElem?_eq_some_iff.1 q3).1];exact q3
   ·rw [List.append_assoc,List.getElem?_append_left (List.getElem?_eq_some_iff.1 q4).1];exact q4
  ·rename_i hge
   have e0:o=obs.length:=by
    have:=(List.getElem?_eq_some_iff.1 hb).1
    simp at this
    omega
   subst e0
   simp at hb
   subst hb
   refine ⟨u.heap.size,cw,cv,?_,?_,?_,?_⟩
   ·rw [padd_ne (by omega)];exact padd_at _ _ _
   ·rw [padd_ne (by omega)]
    show padd (padd pk _ _) _ _ _=_
    rw [padd_ne (by omega)];exact padd_at _ _ _
   ·rw [List.append_assoc,List.getElem?_append_right (by rw [h.klen,hl];exact Nat.le_refl _),h.klen,hl];simp
   ·rw [List.append_assoc,List.getElem?_append_right (by rw [h.klen,hl];omega),h.klen,hl,show 2*k+1 - 2*k=1 by omega];rfl
theorem y3_wp {S:TS} {v:World} {a:Act} {n cap mb m:Nat} {p:Option Addr} (h1:m≤1000) (hmb:v.cell? ⟨mb,0,none⟩=some (I m)) (hA:Fl 40 [(0,Pt S.wb 0),(2,.slice p n cap),(4,Pt mb 0),(6,.slice none 0 0),(7,I 0)] a):y3.wp Tryd.prog (fun e a w'=>e=.normal∧Fl 40 [(0,Pt S.wb 0),(2,.slice p n cap),(4,Pt mb 0),(6,.slice none 0 0),(7,I 0),(9,Pt (v.heap.size+1) 0)] a∧w'.heap=((v.alloc (objQ m [])).alloc (.cells #[.slice (some ⟨v.heap.size,0,none⟩) m m] 99)).heap∧w'.os=v.os∧w'.output=v.output) a v:=by
 have hmk:=make_onces m (by omega)
 rw [made_rowQ] at hmk
 obtain ⟨hsz,hd,hpp⟩:=hA
 obtain ⟨u,rfl,hg⟩:=litN hsz hd
 have u0:=(hg 0).symm.trans (hpp (0,Pt S.wb 0) (by simp))
 have u2:=(hg 2).symm.trans (hpp (2,.slice p n cap) (by simp))
 have u4:=(hg 4).symm.trans (hpp (4,Pt mb 0) (by simp))
 have u6:=(hg 6).symm.trans (hpp (6,.slice none 0 0) (by simp))
 have u7:=(hg 7).symm.trans (hpp (7,I 0) (by simp))
 clear hg hpp hsz hd
 unfold y3 yB Tryd.f18 seq1 seq2
 simp only [Option.getD_some,lits,Nat.reduceAdd,u0,u2,u4,u6,u7]
 clear u0 u2 u4 u6 u7
 go_wp2_with fail
 exact ⟨⟨rfl,rfl,by
  intro p hp
  simp only [List.mem_cons,List.not_mem_nil,or_false] at hp
  rcases hp with rfl|rfl|rfl|rfl|rfl|rfl<;>rfl⟩,rfl,rfl⟩
theorem y4_wp {S:TS} {v u:World} {a:Act} {n cap mb xb sb m:Nat} {p:Option Addr} {pk:Nat→Option Obj} {S1:TS} {K:List (Nat×Int)} (h1:m≤1000) (hI:OI v S m 0 sb xb mb pk S1 K u) (hA:Fl 40 [(0,Pt S.wb 0),(2,.slice p n cap),(4,Pt mb 0),(6,.slice none 0 0),(7,I 0),(9,Pt xb 0)] a):y4.wp Tryd.prog (fun e a w'=>e=.normal∧Fl 40 [(0,Pt S.wb 0),(2,.slice p n cap),(4,Pt mb 0),(6,.slice none 0 0),(7,I 0),(9,Pt xb 0)] a∧∃ pk S1 K,OI v S m m sb xb mb pk S1 K w') a u:=by
 have HI:Hid (OI v S m 0 sb xb mb pk S1 K u):=⟨hI⟩
 have c1:u.cell? ⟨xb,0,none⟩=some (.slice (some ⟨sb,0,none⟩) m m):=cell_of (hI.objs.has _ _ hI.var) rfl
 clear hI
 obtain ⟨hsz,hd,hpp⟩:=hA
 obtain ⟨u,rfl,hg⟩:=litN hsz hd
 have u0:=(hg 0).symm.trans (hpp (0,Pt S.wb 0) (by simp))
 have u2:=(hg 2).symm.trans (hpp (2,.slice p n cap) (by simp))
 have u4:=(hg 4).symm.trans (hpp (4,Pt mb 0) (by simp))
 have u6:=(hg 6).symm.trans (hpp (6,.slice none 0 0) (by simp))
 have u7:=(hg 7).symm.trans (hpp (7,I 0) (by simp))
 have u9:=(hg 9).symm.trans (hpp (9,Pt xb 0) (by simp))
 clear hg hpp hsz hd
 unfold y4 yB Tryd.f18 seq1 seq2
 simp only [Option.getD_some,lits,Nat.reduceAdd,u0,u2,u4,u6,u7,u9]
 clear u0 u2 u4 u6 u7 u9
 go_wp2_with fail
 go_loopw [27] (fun i u'=>∃ (k:Nat) (pk:Nat→Option Obj) (S1:TS) (K:List (Nat×Int)),k≤m∧i=.int .i64 k∧OI v S m k sb xb mb pk S1 K u') (fun i _=>m - (intOf i).toNat)
 case atStart=>exact ⟨0,pk,S1,K,Nat.zero_le _,rfl,HI.out⟩
 case round =>
  obtain ⟨k,pk2,S2,K2,hk,rfl,hO⟩:=hrel
  have HOB:Hid (OI v S m k sb xb mb pk2 S2 K2 wr):=⟨hO⟩
  by_cases hlt:k<m
  ·have c1:wr.cell? ⟨xb,0,none⟩=some (.slice (some ⟨sb,0,none⟩) m m):=cell_of (hO.objs.has _ _ hO.var) rfl
   have hks:(k:Int)<(m:Int):=by omega
   have hne:sb≠xb:=fun e=>by
    have h1:=hO.var
    obtain ⟨obs,_,h2,_⟩:=hO.row
    rw [←e,h2] at h1
    have h3:(46:Nat)=99:=by
     have:=Option.some.inj h1
     unfold objQ at this
     injection this
    exact absurd h3 (by decide)
   have hx:∀ (ww:World) (val:Value),(ww.setCell ⟨sb,k,none⟩ val).cell? ⟨xb,0,none⟩=ww.cell? ⟨xb,0,none⟩:=fun ww val=>World.cell?_setCell_far _ _ _ _ hne
   clear hO
   go_wp2_with fail
   go_region_held3 (fun u=>u.cell? ⟨xb,0,none⟩=some (.slice (some ⟨sb,0,none⟩) m m))
    (first|assumption|(simp [go_sem, *];done))
    (first
      |(go_at_call 25;refine (once_new (HOB.out.same (u':=wr.drew) rfl rfl rfl).objs (by rw [List.length_replicate];omega)).mono ?_;rintro e w1 ⟨cw,cv,ob,rfl,hs1,hs2,S3,o2⟩
        have HO2:Hid (∃ pk',OI v S m (k+1) sb xb mb pk' S3 (K2++[(cw,0)]++[(cv,0)]) (w1.setCell ⟨sb,k,none⟩ (Pt ob 0))):=⟨(HOB.out.same (u':=wr.drew) rfl rfl rfl).next hlt hs1 o2⟩
        have lt:∀ b o,pk2 b=some o→b<wr.heap.size:=fun b o hb=>(Array.getElem?_eq_some_iff.1 (HOB.out.objs.has b o hb)).1
        have oldv:∀ b o,pk2 b=some o→w1.heap[b]? = some o:=fun b o hb=>o2.has b o (by
         have:=lt b o hb
         have hs1:wr.heap.size<ob:=hs1
         rw [padd_ne (by omega),padd_ne (by show b≠wr.heap.size;omega)]
         exact hb)
        have c2:w1.cell? ⟨xb,0,none⟩=some (.slice (some ⟨sb,0,none⟩) m m):=cell_of (oldv _ _ HOB.out.var) rfl
        obtain ⟨obs,ol,orow,-⟩:=HOB.out.row
        obtain ⟨c3,c4⟩:=objQ_at (oldv _ _ orow) ol hlt
        clear o2 lt oldv hs1 hs2 obs ol orow))
   go_wp2_with fail
   go_roundw
   case rel =>
    obtain ⟨pk',hn⟩:=HO2.out
    exact ⟨k+1,pk',S3,_,by omega,by go_num,hn⟩
   case measure=>simp [intOf];omega
  ·have:k=m:=by omega
   subst this
   clear hO
   go_wp2_with fail
   exact ⟨⟨rfl,rfl,by
    intro p hp
    simp only [List.mem_cons,List.not_mem_nil,or_false] at hp
    rcases hp with rfl|rfl|rfl|rfl|rfl|rfl<;>rfl⟩,pk2,S2,K2,HOB.out⟩
def QO (m:Nat) (caps:Array Value) (pk:Nat→Option Obj) (K:List (Nat×Int)):Prop :=
 0<m∧m≤1000∧∃ xb mb sb,caps=#[Pt xb 0,Pt mb 0]∧(∀ w,Has pk w→R1.Flds w)∧pk xb=some (.cells #[.slice (some ⟨sb,0,none⟩) m m] 99 (0,0))∧pk mb=some (.cells #[I m] 3 (0,0)) ∧
   ∃ obs:List Nat,obs.length=m∧pk sb=some (objQ m obs)∧∀ o b,obs[o]? = some b→∃ kp cw cv,pk b=some (.cells #[Pt kp 0] 105 (0,0))∧pk kp=some (.cells #[Pt cw 0,Pt cv 0] 146 (0,0))∧K[2*o]? = some (cw,0)∧K[2*o+1]? = some (cv,0)
theorem mineO (m:Nat) (caps:Array Value) (pk:Nat→Option Obj) (K:List (Nat×Int)) (h:QO m caps pk K) (X:Fix (mcO m)) (hf:X.fid=61) (hc:X.caps=caps) (hp:X.pk=pk) (hk:X.kb=K.map (·.1)):(pkgO m).Mine X:=by
 obtain ⟨h0,h1,xb,mb,sb,rfl,hfl,hx,hmb,obs,hl,hrow,hobs⟩:=h
 subst hp
 refine ⟨xb,mb,sb,hc,h0,h1,fun v hv=>⟨hfl v hv,cell_of (hv _ _ hx) rfl,cell_of (hv _ _ hmb) rfl⟩,fun o ho=>?_⟩
 obtain ⟨b,hb⟩:∃ b,obs[o]? = some b:=⟨_,List.getElem?_eq_getElem (by omega)⟩
 obtain ⟨kp,cw,cv,q1,q2,q3,q4⟩:=hobs o b hb
 refine ⟨b,kp,cw,cv,by rw [hk,List.getElem?_map,q3];rfl,by rw [hk,List.getElem?_map,q4];rfl,fun v hv=>⟨cell_of (hv _ _ hrow) ?_,cell_of (hv _ _ q1) rfl,cell_of (hv _ _ q2) rfl,cell_of (hv _ _ q2) rfl⟩⟩
 unfold rowQ
 simp [ho,hb]
theorem kokO (m:Nat) (caps:Array Value) (pk:Nat→Option Obj) (K:List (Nat×Int)) (h:QO m caps pk K):KOk (mcO m) K:=fun j p _=>trivial
theorem oplay_in {Ch:Nat→Prop} {Stop:Goroutine→World→Prop} {main:Bool} {S:TS} {v w:World} (m:Nat) (h0:0<m) (h1:m≤1000) {pk0:Nat→Option Obj} (hfl:∀ w,Has pk0 w→R1.Flds w) (hO:Objs v S [] pk0 S [] v) (hlt:∀ b,pk0 b≠none→b<v.heap.size) (p:Option Addr) (n cap:Nat) (hn8:0<n∧n≤8) (hran:S.ran=false) (pc:Nat→Option Addr) (ln cp:Nat→Nat) (hs:∀ k,k<n→∃ sb so,p=some ⟨sb,so,none⟩∧v.cell? ⟨sb,so+k,none⟩=some (.slice (pc k) (ln k) (cp k))) (hln:∀ k,k<n→ln k≤64)
 (cs:List Frame) {bc:Frame} {ac:Act} {ops:Array Oper} {q:Nat} {rest:List Nat} {oc:Oper} {k:List Item} (hoc:ops[q]? = some oc) (hvw:Rel zn v w) (hn:NoRow Ch v)
 (hk:∀ v' w' (bd:Frame) (ad:Act) (od:Array Oper) (qd:Nat) (rd:List Nat) (oe:Oper) (kd:List Item) (caps:Array Value) (pk:Nat→Option Obj) (S1:TS) (K:List (Nat×Int)),Rel zn v' w'→NoRow Ch v'→Objs v S (List.replicate (2*m) 0) pk S1 K v'→QO m caps pk K→od[qd]? = some oe →
   (∀ (Ch:Nat→Prop) (Stop:Goroutine→World→Prop) (w:World) (x:Value),(∀ d,GoesI Tryd.prog main (DT (ScZ zn) Ch) Stop (G (bc.at (ac.put oc.dst (.tuple #[x,I 0])) (.inRegion ops rest :: k)) cs) (w.at d))→GoesI Tryd.prog main (DT (ScZ zn) Ch) Stop (G (bd.at (ad.put oe.dst x) (.inRegion od rd :: kd)) (bc.at ac (.inRegion ops (q :: rest) :: k) :: cs)) w) →
   GoesI Tryd.prog main (DT (ScZ zn) Ch) Stop (G ((base 60).at { tmps:=#[Pt S.wb 0,.slice p n cap,.func (.func 61) ((mcO m).bn caps) ((mcO m).fr caps)]++Array.replicate 36 undef,defers:=[] } [.code B20]) (bd.at ad (.inRegion od (qd :: rd) :: kd) :: bc.at ac (.inRegion ops (q :: rest) :: k) :: cs)) w') :
 GoesI Tryd.prog main (DT (ScZ zn) Ch) Stop (G ((base 18).at { tmps:=#[Pt S.wb 0,I m,.slice p n cap]++Array.replicate 37 undef,defers:=[] } [.code yB]) (bc.at ac (.inRegion ops (q :: rest) :: k) :: cs)) w:=by
 have hm:=hO.cel.mem
 have hA0:Fl 40 [(0,Pt S.wb 0),(1,I m),(2,.slice p n cap)] { tmps:=#[Pt S.wb 0,I m,.slice p n cap]++Array.replicate 37 undef,defers:=[] }:=by
  simp only [Array.replicate_succ,Array.replicate_zero,List.push_toArray,List.append_toArray,List.nil_append,List.cons_append]
  exact ⟨rfl,rfl,by
   intro p hp
   simp only [List.mem_cons,List.not_mem_nil,or_false] at hp
   rcases hp with rfl|rfl|rfl<;>rfl⟩
 rw [eYB]
 refine goesI_seq (dt_idle _ _) ?_
 refine goesI_plain (z:=zn) (wr:=true) (L:=LV) (I:=NoRow Ch) hE fineV noRow_keeps (fun v v' w w' es hi hr ho he=>dt_of_z v v' w w' es hi hr ho he) hvw fine_y0 hA0.2.1 (by simp [base]) hn (Q:=fun a w'=>Fl 40 [(0,Pt S.wb 0),(2,.slice p n cap),(4,Pt v.heap.size 0),(6,.slice none 0 0),(7,I 0)] a∧w'.heap=v.heap.push (.cells #[I m] 3)∧w'.os=v.os∧w'.output=v.output) (fun τ=>y0_wp (v:=onTape v τ 0) hA0) ?_
 rintro a0 v0 w0 ⟨hB0,e0,o0,u0⟩ hr0 hn0 -
 have g0:Grows v v0:=⟨by rw [e0];simp,fun b hb=>by rw [e0,Array.getElem?_push,if_neg (by omega)],o0,u0⟩
 have m0:Mem zn S [] v0:=(hm.grows g0).mem
 have hmb:v0.cell? ⟨v.heap.size,0,none⟩=some (I m):=by
  have:v0.heap[v.heap.size]? = some (.cells #[I m] 3):=by rw [e0];exact Array.getElem?_push_size
  exact cell_of this rfl
 have hs0:∀ τ,∀ k,k<n→∃ sb so,p=some ⟨sb,so,none⟩∧(onTape v0 τ 0).cell? ⟨sb,so+k,none⟩=some (.slice (pc k) (ln k) (cp k)):=fun τ k hk=>by
  obtain ⟨sb,so,h1,h2⟩:=hs k hk
  exact ⟨sb,so,h1,g0.cell h2⟩
 refine goesI_seq (dt_idle _ _) ?_
 refine goesI_plain (z:=zn) (wr:=true) (L:=LV) (I:=NoRow Ch) hE fineV noRow_keeps (fun v v' w w' es hi hr ho he=>dt_of_z v v' w w' es hi hr ho he) hr0 fine_y1 hB0.2.1 (by simp [base]) hn0 (Q:=fun a w'=>Fl 40 [(0,Pt S.wb 0),(2,.slice p n cap),(4,Pt v.heap.size 0),(6,.slice none 0 0),(7,I 0)] a∧w'.heap=v0.heap∧w'.os=v0.os∧w'.output=v0.output) (fun τ=>y1_yes (v:=onTape v0 τ 0) (m0.grows (v':=onTape v0 τ 0) ⟨Nat.le_refl _,fun _ _=>rfl,rfl,rfl⟩).mem.rep pc ln cp (hs0 τ) hln hn8 hran hB0) ?_
 rintro a1 v1 w1 ⟨hB1,e1,o1,u1⟩ hr1 hn1 -
 have g1:Grows v0 v1:=⟨by rw [e1];exact Nat.le_refl _,fun b _=>by rw [e1],o1,u1⟩
 refine goesI_seq (dt_idle _ _) ?_
 refine goesI_plain (z:=zn) (wr:=true) (L:=LV) (I:=NoRow Ch) hE fineV noRow_keeps (fun v v' w w' es hi hr ho he=>dt_of_z v v' w w' es hi hr ho he) hr1 fine_y2 hB1.2.1 (by simp [base]) hn1 (Q:=fun a w'=>Fl 40 [(0,Pt S.wb 0),(2,.slice p n cap),(4,Pt v.heap.size 0),(6,.slice none 0 0),(7,I 0)] a∧w'.heap=v1.heap∧w'.os=v1.os∧w'.output=v1.output) (fun τ=>y2_yes (v:=onTape v1 τ 0) (by omega) (by omega) (g1.cell hmb) hB1) ?_
 rintro a2 v2 w2 ⟨hB2,e2,o2,u2⟩ hr2 hn2 -
 have g2:Grows v1 v2:=⟨by rw [e2];exact Nat.le_refl _,fun b _=>by rw [e2],o2,u2⟩
 refine goesI_seq (dt_idle _ _) ?_
 refine goesI_plain (z:=zn) (wr:=true) (L:=LV) (I:=NoRow Ch) hE fineV noRow_keeps (fun v v' w w' es hi hr ho he=>dt_of_z v v' w w' es hi hr ho he) hr2 fine_y3 hB2.2.1 (by simp [base]) hn2 (Q:=fun a w'=>Fl 40 [(0,Pt S.wb 0),(2,.slice p n cap),(4,Pt v.heap.size 0),(6,.slice none 0 0),(7,I 0),(9,Pt (v2.heap.size+1) 0)] a∧w'.heap=((v2.alloc (objQ m [])).alloc (.cells #[.slice (some ⟨v2.heap.size,0,none⟩) m m] 99)).heap∧w'.os=v2.os∧w'.output=v2.output) (fun τ=>y3_wp (v:=onTape v2 τ 0) h1 (g2.cell (g1.cell hmb)) hB2) ?_
 rintro a3 v3 w3 ⟨hB3,e3,o3,u3⟩ hr3 hn3 -
 have O0:=hO.push (u':=v0) (c:=#[I m]) (t:=3) e0 o0 u0
 have O2:=(O0.same e1 o1 u1).same e2 o2 u2
 have O3a:=O2.push (u':=v2.alloc (objQ m [])) (c:=(rowQ m []).toArray) (t:=46) rfl rfl rfl
 have O3:=(O3a.push (u':=(v2.alloc (objQ m [])).alloc (.cells #[.slice (some ⟨v2.heap.size,0,none⟩) m m] 99)) (c:=#[.slice (some ⟨v2.heap.size,0,none⟩) m m]) (t:=99) rfl rfl rfl).same (u':=v3) e3 o3 u3
 have hsz:(v2.alloc (objQ m [])).heap.size=v2.heap.size+1:=by simp
 rw [hsz] at O3
 have hs2:v2.heap.size=v.heap.size+1:=by rw [e2,e1,e0];simp
 have hI:OI v S m 0 v2.heap.size (v2.heap.size+1) v.heap.size (padd (padd (padd pk0 v.heap.size (.cells #[I m] 3)) v2.heap.size (.cells (rowQ m []).toArray 46)) (v2.heap.size+1) (.cells #[.slice (some ⟨v2.heap.size,0,none⟩) m m] 99)) S [] v3 :=
  ⟨O3,rfl,fun w hw=>hfl w (fun b o hb=>hw b o (hlt b (by rw [hb];simp)) (by have:=hlt b (by rw [hb];simp);rw [padd_ne (by omega),padd_ne (by omega),padd_ne (by omega)];exact hb)),padd_at _ _ _,by rw [padd_ne (by omega),padd_ne (by omega)];exact padd_at _ _ _,by omega,[],rfl,by rw [padd_ne (by omega)];exact padd_at _ _ _,fun o b hb=>by simp at hb⟩
 refine goesI_seq (dt_idle _ _) ?_
 refine goesI_plain (z:=zn) (wr:=true) (L:=LV) (I:=NoRow Ch) hE fineV noRow_keeps (fun v v' w w' es hi hr ho he=>dt_of_z v v' w w' es hi hr ho he) hr3 fine_y4 hB3.2.1 (by simp [base]) hn3 (Q:=fun a w'=>Fl 40 [(0,Pt S.wb 0),(2,.slice p n cap),(4,Pt v.heap.size 0),(6,.slice none 0 0),(7,I 0),(9,Pt (v2.heap.size+1) 0)] a∧∃ pk S1 K,OI v S m m v2.heap.size (v2.heap.size+1) v.heap.size pk S1 K w') (fun τ=>y4_wp h1 (hI.same (u':=onTape v3 τ 0) rfl rfl rfl) hB3) ?_
 rintro a4 v4 w4 ⟨hB4,pk,S1,K,hI4⟩ hr4 hn4 -
 have hset:=hI4.objs
 have hql:QO m #[Pt (v2.heap.size+1) 0,Pt v.heap.size 0] pk K:=⟨h0,h1,_,_,_,rfl,fun w hw=>hI4.fl w (fun b o _ hb=>hw b o hb),hI4.var,hI4.many,hI4.row⟩
 clear hI4 hI O3 O3a O2 O0 hr0 hr1 hr2 hr3 hn0 hn1 hn2 hn3 e0 e1 e2 e3 o0 o1 o2 o3 u0 u1 u2 u3 hvw hn hs hs0 hln m0 hO hlt hB0 hB1 hB2 hB3 hmb hm
 generalize v2.heap.size+1=xb at hB4 hql
 generalize v.heap.size=mb at hB4 hql
 have hA:=hB4
 clear hB4
 obtain ⟨hsz,hd,hpp⟩:=hA
 obtain ⟨u,rfl,hg⟩:=litN hsz hd
 have u0:=(hg 0).symm.trans (hpp (0,Pt S.wb 0) (by simp))
 have u2:=(hg 2).symm.trans (hpp (2,.slice p n cap) (by simp))
 have u4:=(hg 4).symm.trans (hpp (4,Pt mb 0) (by simp))
 have u6:=(hg 6).symm.trans (hpp (6,.slice none 0 0) (by simp))
 have u7:=(hg 7).symm.trans (hpp (7,I 0) (by simp))
 have u9:=(hg 9).symm.trans (hpp (9,Pt xb 0) (by simp))
 clear hg hpp hsz hd
 unfold yR yB Tryd.f18 seq2
 simp only [Option.getD_some,lits,Nat.reduceAdd,u0,u2,u4,u6,u7,u9]
 clear u0 u2 u4 u6 u7 u9
 refine goesI_seq (dt_idle _ _) ?_
 refine goesI_region (dt_idle _ _) ?_
 simp only [List.size_toArray,List.length_cons,List.length_nil,Nat.reduceAdd,Nat.zero_add,List.range,List.range.loop]
 iterate 3
  (refine goesI_oper rfl rfl (by decide) (fun d K hK=>?_)
   go_simp
   refine hK _ _ ⟨dt_reads (fun e he=>?_),GoesI.at ?_ d⟩
   ·have hm:=mem_listed he
    simp [go_sem, *] at hm
    try exact ⟨_,_,hm⟩
    try (rcases hm with rfl|rfl<;>exact ⟨_,_,rfl⟩)
   clear hK K)
 refine goesI_into (f:=60) (fn:=Tryd.f60) (args:=#[Pt S.wb 0,.slice p n cap,.func (.func 61) #[] #[Pt xb 0,Pt mb 0]]) (dt_idle _ _) rfl rfl (by decide) rfl (by simp [Act.eval]) Tryd.func60 (by decide) rfl ?_
 refine hk v4 w4 _ _ _ _ _ _ _ _ _ _ _ hr4 hn4 hset hql rfl (fun Ch Stop w x hg=>?_)
 clear hk hset hr4 hn4 hql
 iterate 2
  (refine goesI_oper rfl rfl (by decide) (fun d K hK=>?_)
   go_simp
   refine hK _ _ ⟨dt_reads (fun e he=>?_),GoesI.at ?_ d⟩
   ·have hm:=mem_listed he
    simp [go_sem, *] at hm
    try exact ⟨_,_,hm⟩
    try (rcases hm with rfl|rfl<;>exact ⟨_,_,rfl⟩)
   clear hK K)
 refine goesI_regionEnd (dt_idle _ _) ?_
 refine GoesI.ctl rfl (fun _=>stepG_ret') (dt_idle _ _) ?_
 refine goesI_leave (b:=base 18) (fn:=Tryd.f18) (v:=.tuple #[x,I 0]) rfl rfl Tryd.func18 (fun w=>?_) (fun w=>by simp [results,go_sem,Tryd.f18]) hoc (dt_idle _ _) ?_
 ·rw [results_tmp2 (t:=6) (u:=7) rfl]
  simp
 ·have:=hg w.drawn
  exact this
section
variable {S:TS} {n sb so cap:Nat} {pc:Nat→Option Addr} {ln cp rb:Nat→Nat} {cl:Nat→List Cl}
theorem oplay_all (m:Nat) (h0:0<m) (h1:m≤1000) {pk0:Nat→Option Obj} (hfl:∀ w,Has pk0 w→R1.Flds w) {cs:List Frame} {bc:Frame} {ac:Act} {ops:Array Oper} {q0:Nat} {rest:List Nat} {oc:Oper} {k0:List Item} (hoc:ops[q0]? = some oc) {w:World} {T:Trace} {gs:Array Goroutine} {q:Nat→Nat} (sl:Option (Nat×Nat)) (NT:Nat) (A:Alone gs w T q)
 (hg:gs[0]? = some (G ((base 18).at { tmps:=#[Pt S.wb 0,I m,.slice (some ⟨sb,so,none⟩) n cap]++Array.replicate 37 undef,defers:=[] } [.code yB]) (bc.at ac (.inRegion ops (q0 :: rest) :: k0) :: cs)))
 (hm:Mem zn S [] w) (hthr:S.thr=[]) (hran:S.ran=false) (hch:S.chg=[]) (hbk:Open w S.bk) (hpk:Has pk0 w) (hpf:∀ b,pk0 b≠none→¬ Own S [] b∧b≠S.bk) (hpr:∀ b o,pk0 b=some o→∃ c e f,o=.cells c e f) (t:Asked w S n sb so pc ln cp rb cl) (hn8:0<n∧n≤8)
 (hlen:∀ caps pk N K,S.n+2*lens (scrs (mcO m) 61 caps pk N n K pc ln cp rb cl)≤1000000) (hsl:S.sched.length≤4611686018427387904) (hsc:∀ x∈S.sched,-9223372036854775808≤x∧x<9223372036854775808) (l0:Nat→Ph)
 (hturn:∀ (caps:Array Value) (pk:Nat→Option Obj) (N:Nat) (cv:Value) (K:List (Nat×Int)),K.map (·.2)=List.replicate (2*m) 0→∀ S1 l1,Hires (mcO m) 0 (scrs (mcO m) 61 caps pk N n K pc ln cp rb cl) (nv { cellsS S cv (List.replicate (2*m) (0:Int)).length with ran:=true }) l0 S1 l1→∃ mm p',mm≤NT∧Turns (mcO m) mm ⟨S1,K,l1⟩ p'∧p'.S.n*40≤140737488355328) :
 ∃ (N':Nat) (gs':Array Goroutine) (w':World) (sl':Option (Nat×Nat)) (T':Trace) (q':Nat→Nat) (caps:Array Value) (pk:Nat→Option Obj) (N:Nat) (cv:Value) (K:List (Nat×Int)) (S':TS) (S1:TS) (l1:Nat→Ph) (mm:Nat) (p':PSt),
   runNT Tryd.prog N' (crowd gs w sl) T=(.next (crowd gs' w' sl'),T')∧gs'.size=gs.size+n∧gs'[0]? = some (G (bc.at (ac.put oc.dst (.tuple #[.slice (some ⟨N+1,0,none⟩) n n,I 0])) (.inRegion ops rest :: k0)) cs) ∧
   Alone gs' w' T' q'∧K.map (·.2)=List.replicate (2*m) 0∧nv S'=p'.S∧Hires (mcO m) 0 (scrs (mcO m) 61 caps pk N n K pc ln cp rb cl) (nv { cellsS S cv (List.replicate (2*m) (0:Int)).length with ran:=true }) l0 S1 l1∧Turns (mcO m) mm ⟨S1,K,l1⟩ p'∧GOut w S n ln N S' p'.K p'.l w':=by
 refine gplay_all (xs:=List.replicate (2*m) 0) (cap:=cap) (q0:=q0) (pkgO m) (mineO m) (kokO m) sl NT A hg ?_ hm hthr hran hbk t hn8 hlen hsl hsc l0 hturn
 exact oplay_in m h0 h1 hfl (Objs.startG (pk:=pk0) hm hch hpk hpf hpr) (fun b hb=>by obtain ⟨o,ho⟩:=Option.ne_none_iff_exists'.1 hb;exact (Array.getElem?_eq_some_iff.1 (hpk b o ho)).1) (some ⟨sb,so,none⟩) n cap hn8 hran pc ln cp (fun k hk=>⟨sb,so,rfl,t.row k hk⟩) (fun k hk=>(t.len k hk).2) cs hoc (Rel.refl w) (fun c hc=>hc.elim)
  (fun v' w' bd ad od qd rd oe kd caps pk S1 K hr hn ho hq hoe hback=>GoesI.stop fun d=>⟨bd,ad,od,qd,rd,oe,kd,caps,pk,S1,K,ho.same hr.eq hr.os hr.output,hq,hoe,hback,rfl⟩)
end
end Go.Proofs.YtfjjoohflcchnaaDoor.Gen
