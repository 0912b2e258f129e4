/- CounterLinear, part 14 of 24: CtPkg, CtN, CtY, SamA, GPts, CtAw1, CtAw2, CtAw3. -/
import Derived.Test.YtfjjoohflcchnaaDoorCounterLinear01
import Derived.Test.YtfjjoohflcchnaaDoorCounterLinear09
import Derived.Test.YtfjjoohflcchnaaDoorCounterLinear10
import Derived.Test.YtfjjoohflcchnaaDoorCounterLinear13
import Derived.BigQuiet
import Derived.KernelRfl
set_option linter.unusedSimpArgs false
set_option linter.unusedVariables false
set_option maxHeartbeats 4000000
set_option maxRecDepth 100000
noncomputable section
namespace Go.Proofs.YtfjjoohflcchnaaDoor.Gen
open Go Go.Lift Go.Conc Go.RowKit
variable {v w:World} {b k:Nat} {S:TS} {pk0:Nat->Option Obj} {bc:Frame} {ac:Act} {ops:Array Oper} {oc:Oper}
section
variable {s:Nat}{X:Fix (mcC s)}{z:Nat->Option Nat}{cont:Addr->Value}{Ch:Nat->Prop}{K:List (Nat×Int)}{S:TS}{v w v' w':World}{t:Thr}
theorem now_box (A:At X z cont Ch S K v w t) (hr:Rel z v' w') (hn:NoRow Ch v') (hg:Grows v v') (hbox:v'.heap[v.heap.size+1]? = some (.cells #[I 0,I 0] 38 (0,0))):Now X z cont Ch S K v (λ_=>none) (boxO (v.heap.size+1)) (Gen.nv S) K S v' w' t:=by
 have hlt:v.heap.size+1<v'.heap.size:=(Qb hbox).1;refine ⟨⟨hr,hn,(A.mem.grows hg).mem,A.thr,A.tb,A.gc,A.kb,A.z,A.cont,λb o hb=>?_,A.far⟩,Evo.toP (A.mem.grows hg),rfl,rfl,λb o hb=>?_,λb hb ho=>?_,λb hb=>?_,boxO_row _⟩
 .have h1:=A.pk b o hb
  rw[hg.old b (Qb h1).1];exact h1
 .have e:=boxO_eq (pb:=v.heap.size+1) (b:=b) (by rw[hb];simp)
  subst e;rw[boxO_at] at hb;cases hb;exact hbox
 .have e:=boxO_eq hb
  have:=A.mem.lt ho;omega
 .have e:=boxO_eq hb
  exact .inr (by omega)
end
theorem rowI_len {l:List Int}(h:v.heap[b]? = some (rowI l)) (hk:k<l.length):∃ y,v.cell? ⟨b,k,none⟩=some (I y):=⟨_,Ah h (Qf hk)⟩
theorem take_set {l:List Int}(x:Int) (hk:k<l.length):(l.set k x).take (k+1)=l.take k++[x]:=by rw[List.take_add_one,List.take_set_of_le (Qi _),List.getElem?_set_self hk];rfl
def pkgC (s:Nat):Pkg (mcC s) 86 where
 fn:=Tryd.f86
 code:=Tryd.f86.body.getD .skip
 hf:=Tryd.func86
 hname:=by kernel_rfl
 hcode:=rfl
 Mine X:=∃ c sb,CMine s X c sb
 Sit:=ctSit s
 start:=by
  rintro X ok ⟨c,sb,hm⟩ hfid c' hc cs bc ac ops q rest oc k hoc H z cont Ch Stop S K v w t A hH hob;rw[hm.caps];show GoesI Tryd.prog (X.h==0) (DT (ScZ z) Ch) Stop (G ((base 86).at { tmps:=#[Pt c 0,Pt X.tb 0,.agg #[I c'.po,I c'.ca,I c'.cb,I c'.cc]]++Array.replicate 22 undef,defers:=[] } [.code (Tryd.f86.body.getD .skip)]) (bc.at ac (.inRegion ops (q :: rest) :: k) :: cs)) w;by_cases h1:c'.po=1
  .have es:(mcC s).start X.i c'=.turn 1 (X.i % s) (0,[((X.i % s:Nat):Int),c'.ca.tmod 1000]):=by simp[mcC,h1]
   rw[es] at hob;rw[h1];refine call_add c'.ca c'.cb c'.cc cs hoc A.rel A.noRow (λv' w' bd ad od qd rd oe kd r n g hbox hoe hB code hcode=>?_) _ rfl;have N:=now_box A r n g hbox;have hC:=(hm.mem v' N.at_.pk).1;obtain ⟨cb,hcb,_⟩:=hC.cel (X.i % s) (Nat.mod_lt _ hC.s0);refine add_in (kb:=X.kb) (i:=X.i) (cb:=cb) _ hC (by rw[<-N.at_.tb];exact (N.at_.mem.rep.cell N.at_.thr).2.1) hcb _ r n (λa v2 w2 hA r2 n2 e1 e2 e3=>?_) code hcode;exact ct_add (f:=⟨bd,ad,od,qd,rd,oe,kd,bc.at ac (.inRegion ops (q :: rest) :: k) :: cs⟩) hm hoe hB hH hcb hA hob (N.same r2 n2 e1 e2 e3)
  .by_cases h2:c'.po=2
   .have es:(mcC s).start X.i c'=.turn 1 0 (2,[]):=by simp[mcC,h2]
    rw[es] at hob;rw[h2];refine call_sum c'.ca c'.cb c'.cc cs hoc A.rel A.noRow (λv' w' bd ad od qd rd oe kd r n g hbox hoe hB code hcode=>?_) _ rfl;have N:=now_box A r n g hbox;have hC:=(hm.mem v' N.at_.pk).1;have hlt:v.heap.size+1<v'.heap.size:=(Qb hbox).1;refine sum_in hC.s1 hC.row _ r n (λa v2 w2 nb fb hA hb r2 n2 e1 e2 e3=>?_) code hcode;have hg2:Grows v' v2:=⟨by rw[e1];simp;omega,λb hb=>by rw[e1,Qg,if_neg (by simp;omega),Qg,if_neg (by omega)],e2,e3⟩
    have h3:Apart3 (v.heap.size+1) nb fb:=by rcases hb with ⟨rfl,rfl⟩|⟨rfl,rfl⟩<;>exact ⟨by omega,by omega,by omega⟩
    have r0:v2.heap[v'.heap.size]? = some (rowI (List.replicate s 0)):=by rw[e1,Qg,if_neg (by simp)];exact Qo
    have r1:v2.heap[v'.heap.size+1]? = some (rowI (List.replicate s 0)):=by rw[e1,Qg,if_pos (by simp)]
    have hnb:v2.heap[nb]? = some (rowI (List.replicate s 0)):=by rcases hb with ⟨rfl,rfl⟩|⟨rfl,rfl⟩<;>assumption
    have hfb:v2.heap[fb]? = some (rowI (List.replicate s 0)):=by rcases hb with ⟨rfl,rfl⟩|⟨rfl,rfl⟩<;>assumption
    have N2:Now X z cont Ch S K v (λ_=>none) (moS (v.heap.size+1) nb fb (List.replicate s 0) (List.replicate s 0)) (Gen.nv S) K S v2 w2 t :=
     N.more hg2 r2 n2 (λb hb'=>by rcases moS_in hb' with rfl|rfl|rfl;left;rw[boxO_at];simp;right;rcases hb with ⟨rfl,rfl⟩|⟨rfl,rfl⟩<;>omega;right;rcases hb with ⟨rfl,rfl⟩|⟨rfl,rfl⟩<;>omega) (moS_has h3 (by rw[hg2.old _ hlt];exact hbox) hnb hfb) (moS_row _ _ _ _ _)
    exact ct_begin (f:=⟨bd,ad,od,qd,rd,oe,kd,bc.at ac (.inRegion ops (q :: rest) :: k) :: cs⟩) hm hoe hB hH h3 (by simp) (by simp) hC.s0 hA hob N2
   .have es:(mcC s).start X.i c'=.ans 1 0:=by simp[mcC,h1,h2]
    rw[es] at hob;exact call_none c'.ca c'.cb c'.cc cs hoc A.rel A.noRow c'.po h1 h2 (λv' w' r n g _=>hob.ans (1,0) (.inl rfl) v' w' S r n rfl (Evo.toP (A.mem.grows g))) _ rfl
 turn:=by
  rintro X ok - hfid op j q Mo cu g ⟨c,sb,pb,f,hm,hoe,hsit⟩ H z cont Ch Stop y S K v w t A hH hop hce hl hMo hMf hMp hob;rcases hsit with ⟨hB,rfl,n,cb,a,hcb,hA,⟨hx,hg⟩|⟨y0,hx,hg⟩⟩|⟨hB,nb,fb,l,m,a,ak,k,cb,rfl,h3,hll,hml,hk,hcb,hA,hK,hK2,⟨hx,hg⟩|⟨hx,hg⟩⟩
  .cases hx
   have N0:=Now.here A hMo hMf (boxO_row pb);have hc:=N0.cell hcb;refine hg z Ch Stop y w v S K t (cellAt K (X.i % s)).2 A.rel A.noRow A.mem A.thr A.tb hop hce hc.1 hl (λv1 w1 tv r1 n1 e1=>?_);have sd:=sta_did (i:=X.i) S tv t (cellAt K (X.i % s)).2 (cellAt K (X.i % s)).2;have N1:=N0.on e1 r1 n1 (nv_did tv t _ _) (did_thr A.thr) A.tb A.gc sd.bk;have e2:(cellAt K (X.i % s)).1=cb:=by rw[hc.2]
   rw[e2] at hob;exact ct_aseen hm hoe hB hH hcb hA (cellAt K (X.i % s)).2 hob N1
  .cases hx
   have N0:=Now.here A hMo hMf (boxO_row pb);have hc:=N0.cell hcb;refine hg z Ch Stop y w v S K t (cellAt K (X.i % s)).2 A.rel A.noRow A.mem A.thr A.tb hop hce hc.1 hl (λv1 w1 tv r1 n1 e1=>?_);have sd:=sta_did (i:=X.i) S tv t (effCas y0 (R1.addI y0 n) (cellAt K (X.i % s)).2).1.1 (effCas y0 (R1.addI y0 n) (cellAt K (X.i % s)).2).1.2;have N1:=N0.on e1 r1 n1 (nv_did tv t _ _) (did_thr A.thr) A.tb A.gc sd.bk;have e2:(cellAt K (X.i % s)).1=cb:=by rw[hc.2]
   rw[e2] at hob;have hob:Ob X H z cont Ch Stop cu S K v (boxO pb) (didS (Gen.nv S) undef X.i t (effCas y0 (R1.addI y0 n) (cellAt K (X.i % s)).2).1.1 (effCas y0 (R1.addI y0 n) (cellAt K (X.i % s)).2).1.2) (K.set (X.i % s) (cb,(effCas y0 (R1.addI y0 n) (cellAt K (X.i % s)).2).2.1)) (if (cellAt K (X.i % s)).2=y0 then .ans 0 0 else .turn 1 (X.i % s) (0,[((X.i % s:Nat):Int),n])):=hob;by_cases hx:(cellAt K (X.i % s)).2=y0
   .rw[if_pos hx] at hob
    rw[show (effCas y0 (R1.addI y0 n) (cellAt K (X.i % s)).2).2.2=.bool true by unfold effCas;rw[if_pos hx]];exact add_won (bc:=f.bd) (ac:=f.ad) (ops:=f.od) (q:=f.qd) (rest:=f.rd) (oc:=f.oe) (k:=f.kd) hA f.fs hoe r1 n1 (λw2 r2=>ct_ans hB () hob rfl (boxO_at pb) (N1.same r2 n1 rfl rfl rfl))
   .rw[if_neg hx] at hob
    rw[show (effCas y0 (R1.addI y0 n) (cellAt K (X.i % s)).2).2.2=.bool false by unfold effCas;rw[if_neg hx]];exact add_again hA _ (λa hA=>ct_add hm hoe hB hH hcb hA hob N1)
  .cases hx
   have N0:=Now.here A hMo hMf (moS_row pb nb fb l m);have hc:=N0.cell hcb;refine hg z Ch Stop y w v S K t (cellAt K j).2 A.rel A.noRow A.mem A.thr A.tb hop hce hc.1 hl (λv1 w1 tv r1 n1 e1=>?_);have sd:=sta_did (i:=X.i) S tv t (cellAt K j).2 (cellAt K j).2;have N1:=N0.on e1 r1 n1 (nv_did tv t _ _) (did_thr A.thr) A.tb A.gc sd.bk;have e2:(cellAt K j).1=cb:=by rw[hc.2]
   rw[e2] at hob;have hpk:∀ b,moS pb nb fb l m b≠none->X.pk b=none:=λb hb=>Classical.byContradiction λh=>hMp b hb (.inr (.inr (.inr h)));have hnb:=N1.mo nb _ (Ag h3 l m);obtain ⟨y1,hy1⟩:=rowI_len hnb (k:=j) (by omega);refine coll_put (cellAt K j).2 y1 hk (hm.mem v1 N1.at_.pk).1.s1 hy1 (rowI_froz hnb j) hK hK2 _ r1 n1 (λa2 w2 hK' r2 n2=>?_);have oth:∀ b,b≠nb->(v1.setCell ⟨nb,j,none⟩ (I (cellAt K j).2)).heap[b]? = v1.heap[b]?:=λb hb=>Below.heap_setCell _ _ _ _ hb;have N2:Now X z cont Ch S K v (moS pb nb fb l m) (moS pb nb fb (l.set j (cellAt K j).2) m) _ _ _ (v1.setCell ⟨nb,j,none⟩ (I (cellAt K j).2)) w2 _ :=
    N1.write (B:=nb) (by rw[Ag h3];simp) (hpk nb (by rw[Ag h3];simp)) r2 n2 oth (by simp[World.setCell]) rfl rfl (λb hb=>moS_dom hb) (moS_has h3 (by rw[oth pb h3.pn];exact N1.mo pb _ (moS_pb _ _ _ _ _)) (rowI_set hnb j _) (by rw[oth fb (λe=>h3.nf e.symm)];exact N1.mo fb _ (moS_fb h3 l m))) (moS_row _ _ _ _ _)
   refine ct_all2 hm hoe hB hH h3 (by rw[List.length_set];exact hll) hml (hpk fb (by rw[moS_fb h3];simp)) (k:=j+1) (by omega) hA hK' ?_ N2;rw[take_set _ (by omega)];exact hob
  .cases hx
   have N0:=Now.here A hMo hMf (moS_row pb nb fb l m);have hc:=N0.cell hcb;refine hg z Ch Stop y w v S K t (cellAt K j).2 A.rel A.noRow A.mem A.thr A.tb hop hce hc.1 hl (λv1 w1 tv r1 n1 e1=>?_);have sd:=sta_did (i:=X.i) S tv t (cellAt K j).2 (cellAt K j).2;have N1:=N0.on e1 r1 n1 (nv_did tv t _ _) (did_thr A.thr) A.tb A.gc sd.bk;have e2:(cellAt K j).1=cb:=by rw[hc.2]
   rw[e2] at hob;have hpk:∀ b,moS pb nb fb l m b≠none->X.pk b=none:=λb hb=>Classical.byContradiction λh=>hMp b hb (.inr (.inr (.inr h)));have hnb:=N1.mo nb _ (Ag h3 l m);obtain ⟨y1,hy1⟩:=rowI_len hnb (k:=j) (by omega);refine coll_put (cellAt K j).2 y1 hk (hm.mem v1 N1.at_.pk).1.s1 hy1 (rowI_froz hnb j) hK hK2 _ r1 n1 (λa2 w2 hK' r2 n2=>?_);have oth:∀ b,b≠nb->(v1.setCell ⟨nb,j,none⟩ (I (cellAt K j).2)).heap[b]? = v1.heap[b]?:=λb hb=>Below.heap_setCell _ _ _ _ hb;have N2:Now X z cont Ch S K v (moS pb nb fb l m) (moS pb nb fb (l.set j (cellAt K j).2) m) _ _ _ (v1.setCell ⟨nb,j,none⟩ (I (cellAt K j).2)) w2 _ :=
    N1.write (B:=nb) (by rw[Ag h3];simp) (hpk nb (by rw[Ag h3];simp)) r2 n2 oth (by simp[World.setCell]) rfl rfl (λb hb=>moS_dom hb) (moS_has h3 (by rw[oth pb h3.pn];exact N1.mo pb _ (moS_pb _ _ _ _ _)) (rowI_set hnb j _) (by rw[oth fb (λe=>h3.nf e.symm)];exact N1.mo fb _ (moS_fb h3 l m))) (moS_row _ _ _ _ _)
   refine ct_all3 hm hoe hB hH h3 (by rw[List.length_set];exact hll) hml (k:=j+1) (by omega) hA hK' ?_ N2;rw[take_set _ (by omega),<-List.append_assoc];exact hob
 wake:=by rintro X ok - hfid j q Mo cu g ⟨c,sb,pb,f,hm,hoe,hsit⟩;rcases hsit with ⟨hB,rfl,n,cb,a,hcb,hA,⟨hx,hg⟩|⟨y0,hx,hg⟩⟩|⟨hB,nb,fb,l,m,a,ak,k,cb,rfl,h3,hll,hml,hk,hcb,hA,hK,hK2,⟨hx,hg⟩|⟨hx,hg⟩⟩<;>cases hx
section
variable {v u u':World}{S S1:TS}{K:List (Nat×Int)}{xs:List Int}{pk:Nat->Option Obj}
theorem Objs.set (h:Objs v S xs pk S1 K u) {o o':Obj}(hb:pk b=some o) (hvb:v.heap.size<=b) (hw:∀ x,x≠b->u'.heap[x]? = u.heap[x]?) (hn:u'.heap[b]? = some o') (hs:u'.heap.size=u.heap.size) (e1:u'.os=u.os) (e2:u'.output=u.output) (hr:∃ c e f,o'=.cells c e f):Objs v S xs (padd pk b o') S1 K u':=by
 have ho:=(h.new b (by rw[hb];simp)).2;have em:=h.cel.mem.other (v':=u') ho hw hs e1 e2;refine ⟨⟨em.mem,⟨e1.trans h.cel.fr.os,e2.trans h.cel.fr.output,by rw[hs];exact h.cel.fr.size,λx hx hn=>by rw[hw x (by omega)];exact h.cel.fr.block x hx hn⟩,h.cel.own⟩,h.vals,h.st,λx y hx=>?_,λx hx=>?_,λx y hx=>?_⟩
 .by_cases e:x=b
  subst e;rw[padd_at] at hx;cases hx;exact hn;rw[padd_ne e] at hx;rw[hw x e];exact h.has x y hx
 .by_cases e:x=b
  subst e;exact h.new x (by rw[hb];simp);rw[padd_ne e] at hx;exact h.new x hx
 .by_cases e:x=b
  subst e;rw[padd_at] at hx;cases hx;exact hr;rw[padd_ne e] at hx;exact h.row x y hx
end
theorem padd_padd (pk:Nat->Option Obj) (b:Nat) (o o':Obj):padd (padd pk b o) b o'=padd pk b o':=by funext x;unfold padd;split<;>rfl
theorem padd_comm {pk:Nat->Option Obj}{c:Nat}(h:b≠c) (o o':Obj):padd (padd pk b o) c o'=padd (padd pk c o') b o:=by
 funext x;unfold padd;by_cases h1:x=c
 .subst h1
  rw[if_pos rfl,if_neg (λe=>h e.symm),if_pos rfl]
 .by_cases h2:x=b
  .subst h2
   rw[if_neg h1,if_pos rfl,if_pos rfl]
  rw[if_neg h1,if_neg h2,if_neg h2,if_neg h1]
theorem info102:(Tryd.prog.info? 116).map (λi=>(i.zero,i.size,i.bytes))=some (some (.pointer none),1,8):=by kernel_rfl
theorem make_ptrs (n:Nat) (hn:n<=1048576) (w:World):
 (Instr.makeSlice 136 (.int .i64 (n:Int)) (.int .i64 (n:Int))).run Tryd.prog w=.ok (.slice (some ⟨w.heap.size,0,none⟩) n n) (w.alloc (.cells (madeCells #[.pointer none] n) 116)):=by
 cases hq:Tryd.prog.info? 116 with
 |none=>have:=info102;rw[hq] at this;cases this
 |some i =>have hi:=info102;rw[hq] at hi;simp only[Option.map_some,Option.some.injEq,Prod.mk.injEq] at hi;obtain ⟨hz,hs,hb⟩:=hi;have:=run_make (P:=Tryd.prog) w 136 116 i _ Tryd.underlying136 hq hz .i64 .i64 (n:Int) (n:Int) (by omega) (by omega) (by rw[hb];omega) (by omega);rw[hs] at this;rw[this];simp[Value.cells]
def rowP (s:Nat) (K:List (Nat×Int)):List Value:=(List.range s).map λj=>match K[j]? with|some c=>Pt c.1 0|none=>.pointer none
def objP (s:Nat) (K:List (Nat×Int)):Obj:=.cells (rowP s K).toArray 116 (0,0)
theorem made_rowP (s:Nat):(.cells (madeCells #[.pointer none] s) 116:Obj)=objP s []:=by
 unfold objP rowP
 congr 1
 apply Array.ext_getElem?;intro i;by_cases h:i<s;simp[madeCells,h,Nat.mod_one];simp[madeCells,h]
theorem rowP_next {s:Nat}{K:List (Nat×Int)}(c:Nat×Int) (hK:K.length<s):(rowP s K).toArray.setIfInBounds K.length (Pt c.1 0)=(rowP s (K++[c])).toArray:=by
 apply Array.ext_getElem?;intro i;unfold rowP;rw[Array.getElem?_setIfInBounds];by_cases h:K.length=i
 .subst h
  simp[hK]
 .rw[if_neg h]
  by_cases hi:i<s
  .by_cases hlt:i<K.length
   .have e2:(K++[c])[i]? = K[i]?:=Qn hlt
    simp[hi,e2]
   .have h1:K[i]? = none:=List.getElem?_eq_none (by omega)
    have h2:(K++[c])[i]? = none:=List.getElem?_eq_none (by simp;omega);simp[hi,h1,h2]
  simp[hi]
theorem objP_at {s:Nat}{K:List (Nat×Int)}{N:Nat}(h:w.heap[N]? = some (objP s K)) (hK:K.length=k) (hk:k<s):w.cell? ⟨N,k,none⟩=some (.pointer none)∧w.frozen? ⟨N,k,none⟩=false:=by
 constructor
 .refine cell_of h ?_
  unfold rowP;have:K[k]? = none:=List.getElem?_eq_none (by omega);simp[hk,this]
 .simp only[World.frozen?,h,objP]
  simp
def pkN (pk0:Nat->Option Obj) (s N:Nat) (K:List (Nat×Int)):Nat->Option Obj:=padd (padd pk0 (N+1) (.cells #[.slice (some ⟨N,0,none⟩) s s] 138 (0,0))) N (objP s K)
theorem body54 (hO:Objs v S [] pk0 S [] v) (hlt:∀ b,pk0 b≠none->b<v.heap.size) (s:Nat) (h0:0<s) (h1:s<=16):Body Tryd.f54 #[Pt S.wb 0,I s] v (λr v'=>r=Pt (v.heap.size+1) 0∧∃ S1 K,K.length=s∧Objs v S (List.replicate s 0) (pkN pk0 s v.heap.size K) S1 K v'):=by
 intro code hb;obtain rfl:=Qd hb;clear hb;have hmk:=make_ptrs s (by omega);rw[made_rowP] at hmk;have hmx:(Builtin.max_ #[3,3] 3 #[I s,I 1])=pure (I s):=by show (pure (Value.int .i64 (if (1:Int) > s then 1 else s)):Sem Value)=_;rw[if_neg (by omega)]
 have hmn:(Builtin.min_ #[3,3] 3 #[I s,I 16])=pure (I s):=by show (pure (Value.int .i64 (if (16:Int)<s then 16 else s)):Sem Value)=_;rw[if_neg (by omega)]
 have HO:Hid (Objs v S [] pk0 S [] v):=⟨hO⟩
 have HL:Hid (∀ b,pk0 b≠none->b<v.heap.size):=⟨hlt⟩
 clear hO hlt;simp only[Tryd.ntmps54,Sz,Nat.reduceAdd,Nat.reduceSub,Sy];go_wp2_with fail
 go_loopw [18] (λi u=>∃ (k:Nat) (K:List (Nat×Int)) (S1:TS),k<=s∧i=.int .i64 k∧K.length=k∧Objs v S (List.replicate k 0) (pkN pk0 s v.heap.size K) S1 K u) (λi _=>s - (intOf i).toNat)
 case atStart =>
  refine ⟨0,[],S,Nat.zero_le _,rfl,rfl,?_⟩;have o1:=HO.out.push (u':=v.alloc (objP s [])) (c:=(rowP s []).toArray) (t:=116) rfl rfl rfl;have o2:=o1.push (u':=(v.alloc (objP s [])).alloc (.cells #[.slice (some ⟨v.heap.size,0,none⟩) s s] 138)) (c:=#[.slice (some ⟨v.heap.size,0,none⟩) s s]) (t:=138) rfl rfl rfl;have hsz:(v.alloc (objP s [])).heap.size=v.heap.size+1:=by simp
  rw[hsz,padd_comm (by omega)] at o2;exact o2
 case round =>
  obtain ⟨k,K,S1,hk,rfl,hK,hO⟩:=hrel;have HOB:Hid (Objs v S (List.replicate k 0) (pkN pk0 s v.heap.size K) S1 K wr):=⟨hO⟩
  by_cases hlt:k<s
  .have hN:=hO.has v.heap.size (objP s K) (by unfold pkN;rw[padd_at])
   have hN1:=hO.has (v.heap.size+1) (.cells #[.slice (some ⟨v.heap.size,0,none⟩) s s] 138 (0,0)) (by unfold pkN;rw[padd_ne (by omega),padd_at]);have c1:wr.cell? ⟨v.heap.size+1,0,none⟩=some (.slice (some ⟨v.heap.size,0,none⟩) s s):=cell_of hN1 rfl;have hks:(k:Int)<(s:Int):=by omega
   clear hO hN hN1;generalize hNN:v.heap.size=N at HOB c1;go_wp2_with fail
   go_region_held3 (λu=>u.cell? ⟨N+1,0,none⟩=some (.slice (some ⟨N,0,none⟩) s s))
    (first|assumption|(simp[go_sem, *];done))
    (first
      |(go_at_call 70;refine ((HOB.out.same (u':=wr.drew) rfl rfl rfl).cell 0 (by rw[List.length_replicate];omega)).mono ?_;rintro e w1 ⟨cb,rfl,hs1,S2,o2⟩
        have HO2:Hid (Objs v S (List.replicate k 0++[0]) (pkN pk0 s N K) S2 (K++[(cb,0)]) w1):=⟨o2⟩
        have hN:=o2.has N (objP s K) (by unfold pkN;rw[padd_at]);have hN1:=o2.has (N+1) (.cells #[.slice (some ⟨N,0,none⟩) s s] 138 (0,0)) (by unfold pkN;rw[padd_ne (by omega),padd_at]);have c2:w1.cell? ⟨N+1,0,none⟩=some (.slice (some ⟨N,0,none⟩) s s):=cell_of hN1 rfl;obtain ⟨c3,c4⟩:=objP_at hN hK hlt;have HN:Hid (w1.heap[N]? = some (objP s K)):=⟨hN⟩
        clear o2 hN hN1))
   go_wp2_with fail
   go_roundw
   case rel =>
    refine ⟨k+1,K++[(cb,0)],S2,by omega,by go_num,by rw[Qj,hK];rfl,?_⟩;have oth:∀ b,b≠N->(w1.setCell ⟨N,k,none⟩ (.pointer (some ⟨cb,0,none⟩))).heap[b]? = w1.heap[b]?:=λb hb=>Below.heap_setCell _ _ _ _ hb;have hrow:(w1.setCell ⟨N,k,none⟩ (.pointer (some ⟨cb,0,none⟩))).heap[N]? = some (objP s (K++[(cb,0)])):=by have:=heap_setCell_same (o:=k) (show w1.heap[N]? = some (.cells (rowP s K).toArray 116 (0,0)) from HN.out) (Pt cb 0);rw[<-hK,rowP_next (cb,0) (by omega)] at this;rw[<-hK];exact this
    have o3:=HO2.out.set (b:=N) (o:=objP s K) (o':=objP s (K++[(cb,0)])) (by unfold pkN;rw[padd_at]) (by omega) oth hrow (by simp[World.setCell]) rfl rfl ⟨_,_,_,rfl⟩;rw[List.replicate_succ'];unfold pkN at o3 ⊢;rw[padd_padd] at o3;exact o3
   case measure=>simp[intOf];omega
  .have:k=s:=by omega
   subst this;go_wp2_with fail;go_ret;exact ⟨_,rfl,rfl,S1,K,hK,HOB.out⟩
def B52:Code:=Tryd.f52.body.getD .skip
def k520:Code:=seq1 B52
def k521:Code:=seq1 (seq2 B52)
def k522:Code:=seq1 (seq2 (seq2 B52))
def R52:Code:=seq2 (seq2 (seq2 B52))
theorem eB52:B52=.seq k520 (.seq k521 (.seq k522 R52)):=by kernel_rfl
theorem fine_k520:fineCode Tryd.prog true LV k520:=fineCode_askS callV extT (by kernel_rfl)
theorem fine_k521:fineCode Tryd.prog true LV k521:=fineCode_askS callV extT (by kernel_rfl)
theorem fine_k522:fineCode Tryd.prog true LV k522:=fineCode_askS callV extT (by kernel_rfl)
section
variable {S:TS}{v:World}{a:Act}{n cap:Nat}{p:Option Addr}{m:Int}
theorem k520_wp (hA:Fl 28 [(0,Pt S.wb 0),(1,I m),(2,.slice p n cap)] a):k520.wp Tryd.prog (λe a w'=>e=.normal∧Fl 28 [(0,Pt S.wb 0),(1,I m),(2,.slice p n cap),(6,.slice none 0 0),(7,I 0)] a∧w'.heap=v.heap∧w'.os=v.os∧w'.output=v.output) a v:=by
 obtain ⟨hsz,hd,hpp⟩:=hA;obtain ⟨u,rfl,hg⟩:=litN hsz hd;have u0:=(hg 0).symm.trans (hpp (0,Pt S.wb 0) (by simp));have u1:=(hg 1).symm.trans (hpp (1,I m) (by simp));have u2:=(hg 2).symm.trans (hpp (2,.slice p n cap) (by simp));clear hg hpp hsz hd;unfold k520 B52 Tryd.f52 seq1;simp only[Qa,lits,Nat.reduceAdd,u0,u1,u2];clear u0 u1 u2;go_wp2_with fail;first
  |exact ⟨rfl,⟨rfl,rfl,by
    intro p hp;simp only[Sm,or_false] at hp;rcases hp with rfl|rfl|rfl|rfl|rfl<;>rfl⟩,rfl,rfl,rfl⟩
  |exact ⟨⟨rfl,rfl,by
    intro p hp;simp only[Sm,or_false] at hp;rcases hp with rfl|rfl|rfl|rfl|rfl<;>rfl⟩,rfl,rfl,rfl⟩
  |exact ⟨rfl,rfl,by
    intro p hp;simp only[Sm,or_false] at hp;rcases hp with rfl|rfl|rfl|rfl|rfl<;>rfl⟩
theorem k521_no (h:Rep zn S v) (pc:Nat->Option Addr) (ln cp:Nat->Nat) (hs:∀ k,k<n->∃ sb so,p=some ⟨sb,so,none⟩∧v.cell? ⟨sb,so+k,none⟩=some (.slice (pc k) (ln k) (cp k))) (hn:n<=17592186043904) (hr:S.ran=false) {E:Int}(hE:Refused n ln E) (hA:Fl 28 [(0,Pt S.wb 0),(1,I m),(2,.slice p n cap),(6,.slice none 0 0),(7,I 0)] a):
 k521.wp Tryd.prog (λe a w'=>e=.ret∧∃ x,(results Tryd.f52 a.tmps).run Tryd.prog w'=.ok x w'∧x=.tuple #[.slice none 0 0,I E]∧w'.heap=v.heap∧w'.os=v.os∧w'.output=v.output) a v:=by
 have h19:=(body19 h p n cap hn pc ln cp hs).calls Tryd.func59 rfl;have H19:Hid (Calls Tryd.prog 59 #[Pt S.wb 0,.slice p n cap] v (λe w'=>e=.returned (I E)∧w'=v)):=⟨h19.mono (by
  rintro e w' ⟨r,rfl,rfl,⟨hk,rfl⟩|⟨hk,rfl⟩⟩
  .rcases hE with ⟨_,rfl⟩|⟨h1,_⟩
   exact ⟨rfl,rfl⟩
   .obtain ⟨k,k1,k2⟩:=hk
    exact absurd (h1 k k1) (by omega)
  .rcases hE with ⟨⟨k,k1,k2⟩,_⟩|⟨_,h1,rfl⟩
   exact absurd (hk k k1) (by omega)
   .refine ⟨?_,rfl⟩
    unfold checkE;rw[if_pos (h1.imp_right .inl)])⟩
 have hE0:¬ E=0:=by rcases hE with ⟨_,rfl⟩|⟨_,_,rfl⟩<;>decide
 clear h19 h hs hn hr hE;obtain ⟨hsz,hd,hpp⟩:=hA;obtain ⟨u,rfl,hg⟩:=litN hsz hd;have u0:=(hg 0).symm.trans (hpp (0,Pt S.wb 0) (by simp));have u1:=(hg 1).symm.trans (hpp (1,I m) (by simp));have u2:=(hg 2).symm.trans (hpp (2,.slice p n cap) (by simp));have u6:=(hg 6).symm.trans (hpp (6,.slice none 0 0) (by simp));have u7:=(hg 7).symm.trans (hpp (7,I 0) (by simp));clear hg hpp hsz hd;unfold k521 B52 Tryd.f52 seq1 seq2;simp only[Qa,lits,Nat.reduceAdd,u0,u1,u2,u6,u7];clear u0 u1 u2 u6 u7
 go_wp2_with (first
  |(go_at_call 59;refine H19.out.mono ?_;rintro e w1 ⟨rfl,rfl⟩))
 exact results_tmp2 (t:=6) (u:=7) rfl _ _ _
theorem k521_yes (h:Rep zn S v) (pc:Nat->Option Addr) (ln cp:Nat->Nat) (hs:∀ k,k<n->∃ sb so,p=some ⟨sb,so,none⟩∧v.cell? ⟨sb,so+k,none⟩=some (.slice (pc k) (ln k) (cp k))) (hln:∀ k,k<n->ln k<=64) (hn:0<n∧n<=8) (hr:S.ran=false) (hA:Fl 28 [(0,Pt S.wb 0),(1,I m),(2,.slice p n cap),(6,.slice none 0 0),(7,I 0)] a):
 k521.wp Tryd.prog (λe a w'=>e=.normal∧Fl 28 [(0,Pt S.wb 0),(1,I m),(2,.slice p n cap),(6,.slice none 0 0),(7,I 0)] a∧w'.heap=v.heap∧w'.os=v.os∧w'.output=v.output) a v:=by
 have h19:=(body19 h p n cap (by omega) pc ln cp hs).calls Tryd.func59 rfl;have he:checkE n S.ran=0:=by unfold checkE;rw[if_neg (by rw[hr];rintro (h|h|h)<;>first|omega|cases h)]
 have H19:Hid (Calls Tryd.prog 59 #[Pt S.wb 0,.slice p n cap] v (λe w'=>e=.returned (I 0)∧w'=v)):=⟨h19.mono (by rintro e w' ⟨r,rfl,rfl,⟨⟨k,hk,h1⟩,_⟩|⟨_,rfl⟩⟩;exact absurd (hln k hk) (by omega);rw[he];exact ⟨rfl,rfl⟩)⟩
 clear h19 h hs hln hn hr he;obtain ⟨hsz,hd,hpp⟩:=hA;obtain ⟨u,rfl,hg⟩:=litN hsz hd;have u0:=(hg 0).symm.trans (hpp (0,Pt S.wb 0) (by simp));have u1:=(hg 1).symm.trans (hpp (1,I m) (by simp));have u2:=(hg 2).symm.trans (hpp (2,.slice p n cap) (by simp));have u6:=(hg 6).symm.trans (hpp (6,.slice none 0 0) (by simp));have u7:=(hg 7).symm.trans (hpp (7,I 0) (by simp));clear hg hpp hsz hd;unfold k521 B52 Tryd.f52 seq1 seq2;simp only[Qa,lits,Nat.reduceAdd,u0,u1,u2,u6,u7];clear u0 u1 u2 u6 u7
 go_wp2_with (first
  |(go_at_call 59;refine H19.out.mono ?_;rintro e w1 ⟨rfl,rfl⟩))
 first
  |exact ⟨rfl,⟨rfl,rfl,by
    intro p hp;simp only[Sm,or_false] at hp;rcases hp with rfl|rfl|rfl|rfl|rfl<;>rfl⟩,rfl,rfl,rfl⟩
  |exact ⟨⟨rfl,rfl,by
    intro p hp;simp only[Sm,or_false] at hp;rcases hp with rfl|rfl|rfl|rfl|rfl<;>rfl⟩,rfl,rfl,rfl⟩
  |exact ⟨rfl,rfl,by
    intro p hp;simp only[Sm,or_false] at hp;rcases hp with rfl|rfl|rfl|rfl|rfl<;>rfl⟩
theorem k522_yes (h1:1<=m) (h2:m<=16) (hA:Fl 28 [(0,Pt S.wb 0),(1,I m),(2,.slice p n cap),(6,.slice none 0 0),(7,I 0)] a):k522.wp Tryd.prog (λe a w'=>e=.normal∧Fl 28 [(0,Pt S.wb 0),(1,I m),(2,.slice p n cap),(6,.slice none 0 0),(7,I 0)] a∧w'.heap=v.heap∧w'.os=v.os∧w'.output=v.output) a v:=by
 have g1:decide (m<1)=false:=decide_eq_false (by omega);have g2:decide (m > 16)=false:=decide_eq_false (by omega);have g3:¬ m<1:=by omega
 have g4:¬ m > 16:=by omega
 obtain ⟨hsz,hd,hpp⟩:=hA;obtain ⟨u,rfl,hg⟩:=litN hsz hd;have u0:=(hg 0).symm.trans (hpp (0,Pt S.wb 0) (by simp));have u1:=(hg 1).symm.trans (hpp (1,I m) (by simp));have u2:=(hg 2).symm.trans (hpp (2,.slice p n cap) (by simp));have u6:=(hg 6).symm.trans (hpp (6,.slice none 0 0) (by simp));have u7:=(hg 7).symm.trans (hpp (7,I 0) (by simp));clear hg hpp hsz hd;unfold k522 B52 Tryd.f52 seq1 seq2;simp only[Qa,lits,Nat.reduceAdd,u0,u1,u2,u6,u7];clear u0 u1 u2 u6 u7;go_wp2_with fail;first
  |exact ⟨rfl,⟨rfl,rfl,by
    intro p hp;simp only[Sm,or_false] at hp;rcases hp with rfl|rfl|rfl|rfl|rfl<;>rfl⟩,rfl,rfl,rfl⟩
  |exact ⟨⟨rfl,rfl,by
    intro p hp;simp only[Sm,or_false] at hp;rcases hp with rfl|rfl|rfl|rfl|rfl<;>rfl⟩,rfl,rfl,rfl⟩
  |exact ⟨rfl,rfl,by
    intro p hp;simp only[Sm,or_false] at hp;rcases hp with rfl|rfl|rfl|rfl|rfl<;>rfl⟩
theorem k522_no1 (h1:m<1) (hA:Fl 28 [(0,Pt S.wb 0),(1,I m),(2,.slice p n cap),(6,.slice none 0 0),(7,I 0)] a):k522.wp Tryd.prog (λe a w'=>e=.ret∧∃ x,(results Tryd.f52 a.tmps).run Tryd.prog w'=.ok x w'∧x=.tuple #[.slice none 0 0,I 1]∧w'.heap=v.heap∧w'.os=v.os∧w'.output=v.output) a v:=by have g1:decide (m<1)=true:=decide_eq_true h1;obtain ⟨hsz,hd,hpp⟩:=hA;obtain ⟨u,rfl,hg⟩:=litN hsz hd;have u0:=(hg 0).symm.trans (hpp (0,Pt S.wb 0) (by simp));have u1:=(hg 1).symm.trans (hpp (1,I m) (by simp));have u2:=(hg 2).symm.trans (hpp (2,.slice p n cap) (by simp));have u6:=(hg 6).symm.trans (hpp (6,.slice none 0 0) (by simp));have u7:=(hg 7).symm.trans (hpp (7,I 0) (by simp));clear hg hpp hsz hd;unfold k522 B52 Tryd.f52 seq1 seq2;simp only[Qa,lits,Nat.reduceAdd,u0,u1,u2,u6,u7];clear u0 u1 u2 u6 u7;go_wp2_with fail;exact results_tmp2 (t:=6) (u:=7) rfl _ _ _
theorem k522_no2 (h1:16<m) (hA:Fl 28 [(0,Pt S.wb 0),(1,I m),(2,.slice p n cap),(6,.slice none 0 0),(7,I 0)] a):k522.wp Tryd.prog (λe a w'=>e=.ret∧∃ x,(results Tryd.f52 a.tmps).run Tryd.prog w'=.ok x w'∧x=.tuple #[.slice none 0 0,I 1]∧w'.heap=v.heap∧w'.os=v.os∧w'.output=v.output) a v:=by
 have g1:decide (m<1)=false:=decide_eq_false (by omega);have g2:decide (m > 16)=true:=decide_eq_true h1;have g3:¬ m<1:=by omega
 obtain ⟨hsz,hd,hpp⟩:=hA;obtain ⟨u,rfl,hg⟩:=litN hsz hd;have u0:=(hg 0).symm.trans (hpp (0,Pt S.wb 0) (by simp));have u1:=(hg 1).symm.trans (hpp (1,I m) (by simp));have u2:=(hg 2).symm.trans (hpp (2,.slice p n cap) (by simp));have u6:=(hg 6).symm.trans (hpp (6,.slice none 0 0) (by simp));have u7:=(hg 7).symm.trans (hpp (7,I 0) (by simp));clear hg hpp hsz hd;unfold k522 B52 Tryd.f52 seq1 seq2;simp only[Qa,lits,Nat.reduceAdd,u0,u1,u2,u6,u7];clear u0 u1 u2 u6 u7;go_wp2_with fail;exact results_tmp2 (t:=6) (u:=7) rfl _ _ _
end
structure GF (pk0:Nat->Option Obj):Prop where
 a:∃ c t f,pk0 6=some (.cells c t f)∧c[0]? = some (I 0)∧c[1]? = some (I 32)
 b:∃ c t f,pk0 7=some (.cells c t f)∧c[0]? = some (I 32)∧c[1]? = some (I 30)
def QCtr (s:Nat) (caps:Array Value) (pk:Nat->Option Obj) (K:List (Nat×Int)):Prop :=
 0<s∧s<=16∧∃ pk0 N,7<N∧GF pk0∧caps=#[Pt (N+1) 0]∧pk=pkN pk0 s N K∧K.length=s
theorem mineCtr (s:Nat) (caps:Array Value) (pk:Nat->Option Obj) (K:List (Nat×Int)) (h:QCtr s caps pk K) (X:Fix (mcC s)) (hf:X.fid=86) (hc:X.caps=caps) (hp:X.pk=pk) (hk:X.kb=K.map (·.1)):(pkgC s).Mine X:=by
 obtain ⟨h0,h1,pk0,N,hN,hG,rfl,rfl,hK⟩:=h;refine ⟨N+1,N,hc,λv hv=>?_⟩;rw[hp] at hv;have e0:=hv (N+1) (.cells #[.slice (some ⟨N,0,none⟩) s s] 138 (0,0)) (by unfold pkN;rw[padd_ne (by omega),padd_at]);have e1:=hv N (objP s K) (by unfold pkN;rw[padd_at]);refine ⟨⟨cell_of e0 rfl,λj hj=>?_,h0,h1⟩,?_⟩
 .obtain ⟨c,hcj⟩:∃ c,K[j]? = some c:=⟨_,Qf (by omega)⟩
  refine ⟨c.1,by rw[hk,List.getElem?_map,hcj];rfl,cell_of e1 ?_⟩;unfold rowP;simp[hj,hcj]
 .obtain ⟨c6,t6,f6,g6,a0,a1⟩:=hG.a
  obtain ⟨c7,t7,f7,g7,b0,b1⟩:=hG.b;have q6:=hv 6 _ (by unfold pkN;rw[padd_ne (by omega),padd_ne (by omega)];exact g6);have q7:=hv 7 _ (by unfold pkN;rw[padd_ne (by omega),padd_ne (by omega)];exact g7);exact ⟨cell_of q6 a0,cell_of q6 a1,cell_of q7 b0,cell_of q7 b1⟩
theorem cplay_in {Ch:Nat->Prop}{Stop:Goroutine->World->Prop}{main:Bool}(s:Nat) (h0:0<s) (h1:s<=16) (hG:GF pk0) (hO:Objs v S [] pk0 S [] v) (hlt:∀ b,pk0 b≠none->b<v.heap.size) (p:Option Addr) (n cap:Nat) (hn8:0<n∧n<=8) (hran:S.ran=false) (pc:Nat->Option Addr) (ln cp:Nat->Nat) (hs:∀ k,k<n->∃ sb so,p=some ⟨sb,so,none⟩∧v.cell? ⟨sb,so+k,none⟩=some (.slice (pc k) (ln k) (cp k))) (hln:∀ k,k<n->ln k<=64)
 (cs:List Frame) {q:Nat} {rest:List Nat} {k:List Item} (hoc:ops[q]? = some oc)
 (hvw:Rel zn v w) (hn:NoRow Ch v)
 (hk:∀ v' w' (bd:Frame) (ad:Act) (od:Array Oper) (qd:Nat) (rd:List Nat) (oe:Oper) (kd:List Item) (caps:Array Value) (pk:Nat->Option Obj) (S1:TS) (K:List (Nat×Int)),Rel zn v' w'->NoRow Ch v'->Objs v S (List.replicate s 0) pk S1 K v'->QCtr s caps pk K->od[qd]? = some oe ->
   (∀ (Ch:Nat->Prop) (Stop:Goroutine->World->Prop) (w:World) (x:Value),(∀ d,GoesI Tryd.prog main (DT (ScZ zn) Ch) Stop (G (bc.at (ac.put oc.dst (.tuple #[x,I 0])) (.inRegion ops rest :: k)) cs) (w.at d))->GoesI Tryd.prog main (DT (ScZ zn) Ch) Stop (G (bd.at (ad.put oe.dst x) (.inRegion od rd :: kd)) (bc.at ac (.inRegion ops (q :: rest) :: k) :: cs)) w) ->
   GoesI Tryd.prog main (DT (ScZ zn) Ch) Stop (G ((base 60).at { tmps:=#[Pt S.wb 0,.slice p n cap,.func (.func 86) ((mcC s).bn caps) ((mcC s).fr caps)]++Array.replicate 36 undef,defers:=[] } [.code B20]) (bd.at ad (.inRegion od (qd :: rd):: kd):: bc.at ac (.inRegion ops (q :: rest):: k):: cs)) w'):
 GoesI Tryd.prog main (DT (ScZ zn) Ch) Stop (G ((base 52).at { tmps:=#[Pt S.wb 0,I s,.slice p n cap]++Array.replicate 25 undef,defers:=[] } [.code B52]) (bc.at ac (.inRegion ops (q :: rest) :: k) :: cs)) w:=by
 rw[eB52];have hA0:Fl 28 [(0,Pt S.wb 0),(1,I s),(2,.slice p n cap)] { tmps:=#[Pt S.wb 0,I s,.slice p n cap]++Array.replicate 25 undef,defers:=[] }:=by
  simp only[Sy];exact ⟨rfl,rfl,by
   intro p hp;simp only[Sm,or_false] at hp;rcases hp with rfl|rfl|rfl<;>rfl⟩
 refine goesI_seq (dt_idle _ _) ?_;refine goesI_plain (z:=zn) (wr:=true) (L:=LV) (I:=NoRow Ch) hE fineV noRow_keeps (λv v' w w' es hi hr ho he=>dt_of_z v v' w w' es hi hr ho he) hvw fine_k520 hA0.2.1 (by simp[base]) hn (Q:=λa w'=>Fl 28 [(0,Pt S.wb 0),(1,I s),(2,.slice p n cap),(6,.slice none 0 0),(7,I 0)] a∧w'.heap=v.heap∧w'.os=v.os∧w'.output=v.output) (λτ=>k520_wp (v:=onTape v τ 0) hA0) ?_;rintro a0 v0 w0 ⟨hB0,e0,o0,u0⟩ hr0 hn0 -;have m0:Mem zn S [] v0:=(hO.cel.mem.grows (v':=v0) ⟨by rw[e0];exact Qi _,λb _=>by rw[e0],o0,u0⟩).mem;have hs0:∀ τ,∀ k,k<n->∃ sb so,p=some ⟨sb,so,none⟩∧(onTape v0 τ 0).cell? ⟨sb,so+k,none⟩=some (.slice (pc k) (ln k) (cp k)):=λτ k hk=>by obtain ⟨sb,so,h1,h2⟩:=hs k hk;exact ⟨sb,so,h1,by rw[World.cell?_of_block (w:=v) (w':=onTape v0 τ 0) (by show v0.heap[_]? = _;rw[e0])];exact h2⟩
 refine goesI_seq (dt_idle _ _) ?_;refine goesI_plain (z:=zn) (wr:=true) (L:=LV) (I:=NoRow Ch) hE fineV noRow_keeps (λv v' w w' es hi hr ho he=>dt_of_z v v' w w' es hi hr ho he) hr0 fine_k521 hB0.2.1 (by simp[base]) hn0 (Q:=λa w'=>Fl 28 [(0,Pt S.wb 0),(1,I s),(2,.slice p n cap),(6,.slice none 0 0),(7,I 0)] a∧w'.heap=v0.heap∧w'.os=v0.os∧w'.output=v0.output) (λτ=>k521_yes (v:=onTape v0 τ 0) (m0.grows (v':=onTape v0 τ 0) ⟨Qi _,λ_ _=>rfl,rfl,rfl⟩).mem.rep pc ln cp (hs0 τ) hln hn8 hran hB0) ?_;rintro a1 v1 w1 ⟨hB1,e1,o1,u1⟩ hr1 hn1 -;refine goesI_seq (dt_idle _ _) ?_;refine goesI_plain (z:=zn) (wr:=true) (L:=LV) (I:=NoRow Ch) hE fineV noRow_keeps (λv v' w w' es hi hr ho he=>dt_of_z v v' w w' es hi hr ho he) hr1 fine_k522 hB1.2.1 (by simp[base]) hn1 (Q:=λa w'=>Fl 28 [(0,Pt S.wb 0),(1,I s),(2,.slice p n cap),(6,.slice none 0 0),(7,I 0)] a∧w'.heap=v1.heap∧w'.os=v1.os∧w'.output=v1.output) (λτ=>k522_yes (v:=onTape v1 τ 0) (by omega) (by omega) hB1) ?_;rintro a2 v2 w2 ⟨hB2,e2,o2,u2⟩ hr2 hn2 -;have e20:v2.heap=v.heap:=e2.trans (e1.trans e0);have O2:Objs v2 S [] pk0 S [] v2:=⟨Cel.refl (hO.cel.mem.grows (v':=v2) ⟨by rw[e20];exact Qi _,λb _=>by rw[e20],o2.trans (o1.trans o0),u2.trans (u1.trans u0)⟩).mem,rfl,hO.st,λb o hb=>by rw[e20];exact hO.has b o hb,λb hb=>by have:=hO.new b hb;rw[e20];exact this,hO.row⟩
 have hlt2:∀ b,pk0 b≠none->b<v2.heap.size:=λb hb=>by rw[e20];exact hlt b hb
 obtain ⟨hsz,hd,hpp⟩:=hB2;obtain ⟨u,rfl,hg⟩:=litN hsz hd;have u0:=(hg 0).symm.trans (hpp (0,Pt S.wb 0) (by simp));have u1:=(hg 1).symm.trans (hpp (1,I s) (by simp));have u2:=(hg 2).symm.trans (hpp (2,.slice p n cap) (by simp));have u6:=(hg 6).symm.trans (hpp (6,.slice none 0 0) (by simp));have u7:=(hg 7).symm.trans (hpp (7,I 0) (by simp));clear hg hpp hsz hd;unfold R52 B52 Tryd.f52 seq2;simp only[Qa,lits,Nat.reduceAdd,u0,u1,u2,u6,u7];clear u0 u1 u2 u6 u7;refine goesI_seq (dt_idle _ _) ?_;refine goesI_region (dt_idle _ _) ?_;simp only[Sz,Sr,Nat.reduceAdd];iterate 4
  (refine goesI_oper rfl rfl (by decide) (λd K hK=>?_)
   go_simp;refine hK _ _ ⟨dt_reads (λe he=>?_),GoesI.at ?_ d⟩
   .have hm:=mem_listed he
    simp[go_sem, *] at hm
    try exact ⟨_,_,hm⟩
   clear hK K)
 refine goesI_call (L:=LV) (f:=54) (fn:=Tryd.f54) (args:=#[Pt S.wb 0,I s]) hE fineV rfl rfl (by decide) rfl (by simp[Act.eval]) Tryd.func54 (by kernel_rfl) rfl (fineFn_body fineV (by simp[LV,plainV]) Tryd.func54 rfl) (λtmps=>⟨_,λw=>results_tmp rfl _ _ _,λw=>by simp[results,go_sem,Tryd.f54]⟩) hr2 hn2
  (R:=λr v4=>r=Pt (v2.heap.size+1) 0∧∃ S1 K,K.length=s∧Objs v2 S (List.replicate s 0) (pkN pk0 s v2.heap.size K) S1 K v4) (λτ=>?_) (λr v4 w4 hR hr4 hn4=>?_)
 .have Oτ:Objs (onTape v2 τ 0) S [] pk0 S [] (onTape v2 τ 0):=⟨Cel.refl (O2.cel.mem.grows (v':=onTape v2 τ 0) ⟨Qi _,λ_ _=>rfl,rfl,rfl⟩).mem,rfl,O2.st,O2.has,O2.new,O2.row⟩
  refine wp_mono (body54 Oτ hlt2 s h0 h1 _ rfl) (bp_mono λr u hq=>⟨hq.1,?_⟩);obtain ⟨_,S1,K,h2,o⟩:=hq;exact ⟨S1,K,h2,⟨o.cel.from rfl rfl rfl,o.vals,o.st,o.has,o.new,o.row⟩⟩
 obtain ⟨rfl,S1,K,hKl,ob4⟩:=hR;have hset:Objs v S (List.replicate s 0) (pkN pk0 s v2.heap.size K) S1 K v4 :=
  ⟨ob4.cel.from e20 (o2.trans (o1.trans o0)) (u2.trans (u1.trans u0)),ob4.vals,ob4.st,ob4.has,λb hb=>by rw[<-e20];exact ob4.new b hb,ob4.row⟩
 have h7:7<v2.heap.size:=by obtain ⟨c,t,f,hg,_⟩:=hG.b;exact hlt2 7 (by rw[hg];simp)
 have hql:QCtr s #[Pt (v2.heap.size+1) 0] (pkN pk0 s v2.heap.size K) K:=⟨h0,h1,pk0,v2.heap.size,h7,hG,rfl,rfl,hKl⟩
 clear ob4 hr0 hr1 hr2 hn0 hn1 hn2 e0 e1 e2 e20 o0 o1 o2 u0 u1 u2 hvw hn hs hs0 hln m0 O2 hlt2 hO hlt;walk_nrm
 iterate 1
  (refine goesI_oper rfl rfl (by decide) (λd K hK=>?_)
   go_simp;refine hK _ _ ⟨dt_reads (λe he=>?_),GoesI.at ?_ d⟩
   .have hm:=mem_listed he
    simp[go_sem, *] at hm
    try exact ⟨_,_,hm⟩
   clear hK K)
 refine goesI_into (f:=60) (fn:=Tryd.f60) (args:=#[Pt S.wb 0,.slice p n cap,.func (.func 86) #[Pt (v2.heap.size+1) 0] #[]]) (dt_idle _ _) rfl rfl (by decide) rfl (by simp[Act.eval]) Tryd.func60 (by decide) rfl ?_;refine hk v4 w4 _ _ _ _ _ _ _ _ _ _ _ hr4 hn4 hset hql rfl (λCh Stop w x hg=>?_);clear hk hset hr4 hn4 hql;iterate 2
  (refine goesI_oper rfl rfl (by decide) (λd K hK=>?_)
   go_simp;refine hK _ _ ⟨dt_reads (λe he=>?_),GoesI.at ?_ d⟩
   .have hm:=mem_listed he
    simp[go_sem, *] at hm
    try exact ⟨_,_,hm⟩
   clear hK K)
 refine goesI_regionEnd (dt_idle _ _) ?_;refine GoesI.ctl rfl (λ_=>stepG_ret') (dt_idle _ _) ?_;refine goesI_leave (b:=base 52) (fn:=Tryd.f52) (v:=.tuple #[x,I 0]) rfl rfl Tryd.func52 (λw=>?_) (λw=>by simp[results,go_sem,Tryd.f52]) hoc (dt_idle _ _) ?_
 .rw[results_tmp2 (t:=6) (u:=7) rfl]
  simp
 .have:=hg w.drawn
  exact this
theorem cplay_no {Ch:Nat->Prop}{Stop:Goroutine->World->Prop}{main:Bool}(m:Int) (p:Option Addr) (n cap:Nat) (pc:Nat->Option Addr) (ln cp:Nat->Nat) (hs:∀ k,k<n->∃ sb so,p=some ⟨sb,so,none⟩∧v.cell? ⟨sb,so+k,none⟩=some (.slice (pc k) (ln k) (cp k))) (hn1:n<=17592186043904) (hran:S.ran=false) (hm:Mem zn S [] v)
 {E:Int} (hRe:Refused n ln E∨((∀ k,k<n->ln k<=64)∧(0<n∧n<=8)∧(m<1∨16<m)∧E=1)) (cs:List Frame) {q:Nat} {rest:List Nat} {k:List Item} (hoc:ops[q]? = some oc)
 (hvw:Rel zn v w) (hn:NoRow Ch v)
 (hk:∀ v' w',Rel zn v' w'->NoRow Ch v'->v'.heap=v.heap->v'.os=v.os->v'.output=v.output->GoesI Tryd.prog main (DT (ScZ zn) Ch) Stop (G (bc.at (ac.put oc.dst (.tuple #[.slice none 0 0,I E])) (.inRegion ops rest :: k)) cs) w'):
 GoesI Tryd.prog main (DT (ScZ zn) Ch) Stop (G ((base 52).at { tmps:=#[Pt S.wb 0,I m,.slice p n cap]++Array.replicate 25 undef,defers:=[] } [.code B52]) (bc.at ac (.inRegion ops (q :: rest) :: k) :: cs)) w:=by
 rw[eB52];have hA0:Fl 28 [(0,Pt S.wb 0),(1,I m),(2,.slice p n cap)] { tmps:=#[Pt S.wb 0,I m,.slice p n cap]++Array.replicate 25 undef,defers:=[] }:=by
  simp only[Sy];exact ⟨rfl,rfl,by
   intro p hp;simp only[Sm,or_false] at hp;rcases hp with rfl|rfl|rfl<;>rfl⟩
 refine goesI_seq (dt_idle _ _) ?_;refine goesI_plain (z:=zn) (wr:=true) (L:=LV) (I:=NoRow Ch) hE fineV noRow_keeps (λv v' w w' es hi hr ho he=>dt_of_z v v' w w' es hi hr ho he) hvw fine_k520 hA0.2.1 (by simp[base]) hn (Q:=λa w'=>Fl 28 [(0,Pt S.wb 0),(1,I m),(2,.slice p n cap),(6,.slice none 0 0),(7,I 0)] a∧w'.heap=v.heap∧w'.os=v.os∧w'.output=v.output) (λτ=>k520_wp (v:=onTape v τ 0) hA0) ?_;rintro a0 v0 w0 ⟨hB0,e0,o0,u0⟩ hr0 hn0 -;have m0:Mem zn S [] v0:=(hm.grows (v':=v0) ⟨by rw[e0];exact Qi _,λb _=>by rw[e0],o0,u0⟩).mem;have hs0:∀ τ,∀ k,k<n->∃ sb so,p=some ⟨sb,so,none⟩∧(onTape v0 τ 0).cell? ⟨sb,so+k,none⟩=some (.slice (pc k) (ln k) (cp k)):=λτ k hk=>by obtain ⟨sb,so,h1,h2⟩:=hs k hk;exact ⟨sb,so,h1,by rw[World.cell?_of_block (w:=v) (w':=onTape v0 τ 0) (by show v0.heap[_]? = _;rw[e0])];exact h2⟩
 refine goesI_seq (dt_idle _ _) ?_;rcases hRe with hRe|⟨hE1,hE2,hE3,rfl⟩
 .refine goesI_outZ (c:=k521) (f:=52) (fn:=Tryd.f52) (L:=LV) hE fineV hr0 hn0 Tryd.func52 fine_k521 hB0.2.1 hoc (R:=λr w'=>r=.tuple #[.slice none 0 0,I E]∧w'.heap=v0.heap∧w'.os=v0.os∧w'.output=v0.output) (λτ=>k521_no (v:=onTape v0 τ 0) (m0.grows (v':=onTape v0 τ 0) ⟨Qi _,λ_ _=>rfl,rfl,rfl⟩).mem.rep pc ln cp (hs0 τ) hn1 hran hRe hB0) (λr v' w' hR hr' hn'=>?_)
  obtain ⟨rfl,h1,h2,h3⟩:=hR;exact hk v' w' hr' hn' (h1.trans e0) (h2.trans o0) (h3.trans u0)
 .refine goesI_plain (z:=zn) (wr:=true) (L:=LV) (I:=NoRow Ch) hE fineV noRow_keeps (λv v' w w' es hi hr ho he=>dt_of_z v v' w w' es hi hr ho he) hr0 fine_k521 hB0.2.1 (by simp[base]) hn0 (Q:=λa w'=>Fl 28 [(0,Pt S.wb 0),(1,I m),(2,.slice p n cap),(6,.slice none 0 0),(7,I 0)] a∧w'.heap=v0.heap∧w'.os=v0.os∧w'.output=v0.output) (λτ=>k521_yes (v:=onTape v0 τ 0) (m0.grows (v':=onTape v0 τ 0) ⟨Qi _,λ_ _=>rfl,rfl,rfl⟩).mem.rep pc ln cp (hs0 τ) hE1 hE2 hran hB0) ?_
  rintro a1 v1 w1 ⟨hB1,e1,o1,u1⟩ hr1 hn1 -;refine goesI_seq (dt_idle _ _) ?_;refine goesI_outZ (c:=k522) (f:=52) (fn:=Tryd.f52) (L:=LV) hE fineV hr1 hn1 Tryd.func52 fine_k522 hB1.2.1 hoc (R:=λr w'=>r=.tuple #[.slice none 0 0,I 1]∧w'.heap=v1.heap∧w'.os=v1.os∧w'.output=v1.output) (λτ=>hE3.elim (λh=>k522_no1 (v:=onTape v1 τ 0) h hB1) (λh=>k522_no2 (v:=onTape v1 τ 0) h hB1)) (λr v' w' hR hr' hn'=>?_);obtain ⟨rfl,h1,h2,h3⟩:=hR;exact hk v' w' hr' hn' (h1.trans (e1.trans e0)) (h2.trans (o1.trans o0)) (h3.trans (u1.trans u0))
section
variable {S:TS}{n sb so cap:Nat}{pc:Nat->Option Addr}{ln cp rb:Nat->Nat}{cl:Nat->List Cl}
theorem cplay_all (s:Nat) (h0:0<s) (h1:s<=16) {cs:List Frame}{q0:Nat}{rest:List Nat}{k0:List Item}(hoc:ops[q0]? = some oc) {T:Trace}{gs:Array Goroutine}{q:Nat->Nat}(sl:Option (Nat×Nat)) (NT:Nat) (A:Alone gs w T q)
 (hg:gs[0]? = some (G ((base 52).at { tmps:=#[Pt S.wb 0,I s,.slice (some ⟨sb,so,none⟩) n cap]++Array.replicate 25 undef,defers:=[] } [.code B52]) (bc.at ac (.inRegion ops (q0 :: rest) :: k0) :: cs)))
 (hm:Mem zn S [] w) (hthr:S.thr=[]) (hran:S.ran=false) (hch:S.chg=[]) (hbk:Open w S.bk) (hG:GF pk0) (hpk:Has pk0 w) (hpf:∀ b,pk0 b≠none->¬ Own S [] b∧b≠S.bk) (hpr:∀ b o,pk0 b=some o->∃ c e f,o=.cells c e f) (t:Asked w S n sb so pc ln cp rb cl) (hn8:0<n∧n<=8)
 (hlen:∀ caps pk N K,S.n+2*lens (scrs (mcC s) 86 caps pk N n K pc ln cp rb cl)<=1000000) (hsl:S.sched.length<=4611686018427387904) (hsc:∀ x∈S.sched,-9223372036854775808<=x∧x<9223372036854775808) (l0:Nat->Ph)
 (hturn:∀ (caps:Array Value) (pk:Nat->Option Obj) (N:Nat) (cv:Value) (K:List (Nat×Int)),K.map (·.2)=List.replicate s 0->∀ S1 l1,Hires (mcC s) 0 (scrs (mcC s) 86 caps pk N n K pc ln cp rb cl) (nv { cellsS S cv (List.replicate s (0:Int)).length with ran:=true }) l0 S1 l1->∃ m p',m<=NT∧Turns (mcC s) m ⟨S1,K,l1⟩ p'∧p'.S.n*40<=140737488355328):
 ∃ (N':Nat) (gs':Array Goroutine) (w':World) (sl':Option (Nat×Nat)) (T':Trace) (q':Nat->Nat) (caps:Array Value) (pk:Nat->Option Obj) (N:Nat) (cv:Value) (K:List (Nat×Int)) (S':TS) (S1:TS) (l1:Nat->Ph) (m:Nat) (p':PSt),
   runNT Tryd.prog N' (crowd gs w sl) T=(.next (crowd gs' w' sl'),T')∧gs'.size=gs.size+n∧gs'[0]? = some (G (bc.at (ac.put oc.dst (.tuple #[.slice (some ⟨N+1,0,none⟩) n n,I 0])) (.inRegion ops rest :: k0)) cs) ∧
   Alone gs' w' T' q'∧K.map (·.2)=List.replicate s 0∧nv S'=p'.S∧Hires (mcC s) 0 (scrs (mcC s) 86 caps pk N n K pc ln cp rb cl) (nv { cellsS S cv (List.replicate s (0:Int)).length with ran:=true }) l0 S1 l1∧Turns (mcC s) m ⟨S1,K,l1⟩ p'∧GOut w S n ln N S' p'.K p'.l w':=by
 refine gplay_all (xs:=List.replicate s 0) (cap:=cap) (q0:=q0) (pkgC s) (mineCtr s) sl NT A hg ?_ hm hthr hran hbk t hn8 hlen hsl hsc l0 hturn;exact cplay_in s h0 h1 hG (Objs.startG hm hch hpk hpf hpr) (λb hb=>by
  obtain ⟨o,ho⟩:=Option.ne_none_iff_exists'.1 hb;exact (Qb (hpk b o ho)).1) (some ⟨sb,so,none⟩) n cap hn8 hran pc ln cp (λk hk=>⟨sb,so,rfl,t.row k hk⟩) (λk hk=>(t.len k hk).2) cs hoc (Rel.refl w) (λc hc=>hc.elim)
  (λv' w' bd ad od qd rd oe kd caps pk S1 K hr hn ho hq hoe hback=>GoesI.stop λd=>⟨bd,ad,od,qd,rd,oe,kd,caps,pk,S1,K,ho.same hr.eq hr.os hr.output,hq,hoe,hback,rfl⟩)
end
structure Rws (M:Nat) (n:Nat) (A cp ln:Nat->Nat) (e x:Nat->Nat->Int) (v:World):Prop where
 row:∀ k,k<n->v.cell? ⟨M,k,none⟩=some (.slice (some ⟨A k,0,none⟩) (ln k) (cp k))
 ans:∀ k,k<n->∀ j,j<ln k->v.cell? ⟨A k,j*2,none⟩=some (I (e k j))∧v.cell? ⟨A k,j*2+1,none⟩=some (I (x k j))
theorem Rws.same {M n:Nat}{A cp ln:Nat->Nat}{e x:Nat->Nat->Int}{v':World}(h:Rws M n A cp ln e x v) (hh:v'.heap=v.heap):Rws M n A cp ln e x v':=by have hc:∀ a,v'.cell? a=v.cell? a:=λa=>World.cell?_of_block (w:=v) (w':=v') (by rw[hh]);exact ⟨λk hk=>by rw[hc];exact h.row k hk,λk hk j hj=>by rw[hc,hc];exact h.ans k hk j hj⟩
def Sam (v u:World):Prop:=u.heap=v.heap∧u.os=v.os∧u.output=v.output
theorem body58 (M M' n c1 c2:Nat) {A B ca cb ln:Nat->Nat}{e x:Nat->Nat->Int}(h1:Rws M n A ca ln e x v) (h2:Rws M' n B cb ln e x v) (hn:n<=1000000) (hln:∀ k,k<n->ln k<=1000000):
 Body Tryd.f58 #[.slice (some ⟨M,0,none⟩) n c1,.slice (some ⟨M',0,none⟩) n c2] v (λr v'=>r=.bool true∧v'.heap=v.heap∧v'.os=v.os∧v'.output=v.output):=by
 intro code hb;obtain rfl:=Qd hb;clear hb;have H1:Hid (∀ u,Sam v u->Rws M n A ca ln e x u∧Rws M' n B cb ln e x u):=⟨λu hu=>⟨h1.same hu.1,h2.same hu.1⟩⟩
 have HL:Hid (∀ k,k<n->ln k<=1000000):=⟨hln⟩
 clear h1 h2 hln;simp only[Tryd.ntmps58,Sz,Nat.reduceAdd,Nat.reduceSub,Sy];go_wp2_with fail
 go_loopw [5] (λi u=>∃ k:Nat,k<=n∧i=.int .i64 k∧Hid (Sam v u)) (λi _=>n - (intOf i).toNat)
 case atStart=>exact ⟨0,Nat.zero_le _,rfl,⟨rfl,rfl,rfl⟩⟩
 case round =>
  obtain ⟨k,hk,rfl,hs⟩:=hrel;by_cases hlt:k<n
  .obtain ⟨r1,r2⟩:=H1.out wr hs.out
   have a1:=r1.row k hlt;have a2:=r2.row k hlt;have hl:=HL.out k hlt;clear r1 r2;have hlt':(k:Int)<(n:Int):=by omega
   have hnl:¬ n<=k:=by omega
   obtain ⟨wo,hwo⟩:∃ wo,wo=wr:=⟨wr,rfl⟩
   rw[<-hwo] at hs a1 a2 ⊢;clear hwo;go_wp2_with fail
   go_quiet (fail)
   go_wp2_with fail
   go_loopw [6] (λi u=>∃ j:Nat,j<=ln k∧i=.int .i64 j∧Hid (Sam v u)) (λi _=>ln k - (intOf i).toNat)
   case atStart=>exact ⟨0,Nat.zero_le _,rfl,hs.out.1,hs.out.2.1,hs.out.2.2⟩
   case round =>
    obtain ⟨j,hj,rfl,hs2⟩:=hrel;obtain ⟨r1,r2⟩:=H1.out wr hs2.out;have b1:=r1.row k hlt;have b2:=r2.row k hlt;by_cases hjl:j<ln k
    .have c1':=r1.ans k hlt j hjl
     have c2':=r2.ans k hlt j hjl;obtain ⟨x1,x2⟩:=c1';obtain ⟨y1,y2⟩:=c2';clear r1 r2 a1 a2;have hjl':(j:Int)<(ln k:Int):=by omega
     have hnj:¬ ln k<=j:=by omega
     go_wp2_with fail
     go_quiet (fail)
     go_wp2_with fail
     go_roundw
     case rel=>exact ⟨j+1,by omega,by go_num,hs2.out.1,hs2.out.2.1,hs2.out.2.2⟩
     case measure=>simp[intOf];omega
    .have hjj:j=ln k:=by omega
     subst hjj;clear r1 r2 a1 a2;go_wp2_with fail
     go_roundw
     case rel=>exact ⟨k+1,by omega,by go_num,hs2.out.1,hs2.out.2.1,hs2.out.2.2⟩
     case measure=>simp[intOf];omega
  .have hkk:k=n:=by omega
   subst hkk;go_wp2_with fail;go_ret;exact ⟨_,rfl,rfl,hs.out.1,hs.out.2.1,hs.out.2.2⟩
variable {mc:Mc}
theorem turns_det:∀ {m m':Nat}{p p1 p2:PSt},Turns mc m p p1->Turns mc m' p p2->p1=p2
 |_,_,_,_,_,.stop h,.stop h'=>rfl
 |_,_,_,_,_,.stop h,.step h' _=>by rw[h] at h';cases h'
 |_,_,_,_,_,.step h _,.stop h'=>by rw[h] at h';cases h'
 |_,_,_,_,_,.step h t,.step h' t'=>by rw[h] at h';cases h';exact turns_det t t'
def pt (mc:Mc) (p:PSt):PSt:=(pturn mc p).getD p
def pts (mc:Mc):Nat->PSt->PSt
 |0,p=>p
 |n+1,p=>pts mc n (pt mc p)
def runs (mc:Mc):Nat->PSt->Bool
 |0,p=>(pturn mc p).isNone
 |n+1,p=>(pturn mc p).isSome&&runs mc n (pt mc p)
theorem turns_of:∀ (n:Nat) (p:PSt),runs mc n p=true->Turns mc n p (pts mc n p)
 |0,p,h=>by
  refine .stop ?_;cases hp:pturn mc p with
  |none=>rfl
  |some x=>unfold runs at h;rw[hp] at h;cases h
 |n+1,p,h=>by
  unfold runs at h;rw[Bool.and_eq_true] at h;refine .step ?_ (turns_of n (pt mc p) h.2);unfold pt;cases hp:pturn mc p with
  |none=>rw[hp] at h;cases h.1
  |some x=>rfl
end Go.Proofs.YtfjjoohflcchnaaDoor.Gen
namespace Go.Proofs.YtfjjoohflcchnaaDoor.Gen
open Go Go.Lift Go.Conc Go.RowKit
open Go.ConcN (upd upd_same upd_ne)
def clW (j:Nat):List Cl:=if j=0 then [⟨1,5,0,0⟩,⟨2,0,0,0⟩] else [⟨1,-7,0,0⟩]
def lnW (j:Nat):Nat:=if j=0 then 2 else 1
def an0 (j:Nat):List (Int×Int):=List.replicate (lnW j) (0,0)
def awST (wb bk base:Nat) (sc cv:Value) (k:Nat):TS:=nv { cellsS (newS wb bk base sc []) cv k with ran:=true }
def awF (wb bk base:Nat) (sc cv:Value) (tv0:Value) (tb0 gc0:Nat):TS×Ph:=flow 0 (mcC 2) (clW 0) 0 false (an0 0) (hiredS (awST wb bk base sc cv 2) tv0 tb0 gc0)
def awG (wb bk base:Nat) (sc cv:Value) (tv0:Value) (tb0 gc0:Nat) (tv1:Value) (tb1 gc1:Nat):TS×Ph:=flow 1 (mcC 2) (clW 1) 0 false (an0 1) (hiredS (awF wb bk base sc cv tv0 tb0 gc0).1 tv1 tb1 gc1)
def awPT (wb bk base:Nat) (sc cv:Value) (tv0:Value) (tb0 gc0:Nat) (tv1:Value) (tb1 gc1:Nat) (cb0 cb1:Nat) (l0:Nat->Ph):PSt :=
 ⟨(awG wb bk base sc cv tv0 tb0 gc0 tv1 tb1 gc1).1,[(cb0,0),(cb1,0)],upd (upd l0 0 (awF wb bk base sc cv tv0 tb0 gc0).2) 1 (awG wb bk base sc cv tv0 tb0 gc0 tv1 tb1 gc1).2⟩
section
variable (wb bk base:Nat) (sc cv:Value) (tv0:Value) (tb0 gc0:Nat) (tv1:Value) (tb1 gc1:Nat) (cb0 cb1:Nat) (l0:Nat->Ph)
set_option maxRecDepth 100000
theorem awt_runs:runs (mcC 2) 8 (awPT wb bk base sc cv tv0 tb0 gc0 tv1 tb1 gc1 cb0 cb1 l0)=true:=by kernel_rfl
theorem awt_n:(pts (mcC 2) 8 (awPT wb bk base sc cv tv0 tb0 gc0 tv1 tb1 gc1 cb0 cb1 l0)).S.n=14:=by kernel_rfl
theorem awt_ans:((pts (mcC 2) 8 (awPT wb bk base sc cv tv0 tb0 gc0 tv1 tb1 gc1 cb0 cb1 l0)).l 0).ans=[(0,0),(0,-2)]∧((pts (mcC 2) 8 (awPT wb bk base sc cv tv0 tb0 gc0 tv1 tb1 gc1 cb0 cb1 l0)).l 1).ans=[(0,0)]:=⟨by kernel_rfl,by kernel_rfl⟩
end
end Go.Proofs.YtfjjoohflcchnaaDoor.Gen
namespace Go.Proofs.YtfjjoohflcchnaaDoor.Gen
open Go Go.Lift Go.Conc Go.RowKit
variable {v:World}
def B51:Code:=Tryd.f51.body.getD .skip
def b510:Code:=seq1 B51
def b511:Code:=seq1 (seq2 B51)
def r512:Code:=seq1 (seq2 (seq2 B51))
def T51:Code:=seq2 (seq2 (seq2 B51))
theorem eB51:B51=.seq b510 (.seq b511 (.seq r512 T51)):=by kernel_rfl
theorem fine510:fineCode Tryd.prog true LV b510:=fineCode_askS callV extT (by kernel_rfl)
theorem fine511:fineCode Tryd.prog true LV b511:=fineCode_askS callV extT (by kernel_rfl)
theorem fineT51:fineCode Tryd.prog true LV T51:=fineCode_askS callV extT (by kernel_rfl)
theorem b510_wp :
 b510.wp Tryd.prog (λe a w'=>e=.normal∧a={ tmps:=#[.bool false]++Array.replicate 27 undef,defers:=[] }∧w'.heap=v.heap∧w'.os=v.os∧w'.output=v.output)
  { tmps:=Array.replicate 28 undef,defers:=[] } v:=by
 show Code.wp Tryd.prog (seq1 (Tryd.f51.body.getD .skip)) _ _ _;unfold Tryd.f51 seq1;simp only[Qa,Sy];go_wp2_with fail
 try exact ⟨rfl,rfl,rfl⟩
theorem b511_wp :
 b511.wp Tryd.prog (λe a w'=>e=.normal∧∃ wb bk sc,a={ tmps:=#[.bool false,Pt wb 0,undef,undef,Pt wb 0]++Array.replicate 23 undef,defers:=[] }∧IsNew v [] wb bk sc w')
  { tmps:=#[.bool false]++Array.replicate 27 undef,defers:=[] } v:=by
 have H7:Hid (Calls Tryd.prog 17 #[.slice none 0 0] v _):=⟨(body70 (v:=v) none 0).calls Tryd.func17 rfl⟩
 show Code.wp Tryd.prog (seq1 (seq2 (Tryd.f51.body.getD .skip))) _ _ _;unfold Tryd.f51 seq1 seq2;simp only[Qa,Sy]
 go_wp2_with (first
  |(go_at_call 17;refine H7.out.mono ?_;rintro e w1 ⟨_,rfl,wb,bk,sc,rfl,hnew⟩))
 exact ⟨bk,sc,hnew⟩
structure Done51 (M:Nat) (A:Nat->Nat) (u:World):Prop where
 row:∀ k,k<2->u.cell? ⟨M,k,none⟩=some (.slice (some ⟨A k,0,none⟩) (lnW k) (lnW k))
 a0:u.heap[A 0]? = some (.cells #[I 0,I 0,I 0,I (-2)] 38)
 a1:u.heap[A 1]? = some (.cells #[I 0,I 0] 38)
def exW (k j:Nat):Int:=if k=0∧j=1 then -2 else 0
theorem same51 {M:Nat}{A:Nat->Nat}(h:Done51 M A v):Calls Tryd.prog 58 #[.slice (some ⟨M,0,none⟩) 2 2,.slice (some ⟨v.heap.size+2,0,none⟩) 2 2] (((v.alloc (.cells #[I 0,I 0,I 0,I (-2)] 38)).alloc (.cells #[I 0,I 0] 38)).alloc (.cells #[.slice (some ⟨v.heap.size,0,none⟩) 2 2,.slice (some ⟨v.heap.size+1,0,none⟩) 1 1] 31)) (λe w'=>e=.returned (.bool true)∧w'.heap=(((v.alloc (.cells #[I 0,I 0,I 0,I (-2)] 38)).alloc (.cells #[I 0,I 0] 38)).alloc (.cells #[.slice (some ⟨v.heap.size,0,none⟩) 2 2,.slice (some ⟨v.heap.size+1,0,none⟩) 1 1] 31)).heap∧w'.os=v.os∧w'.output=v.output):=by
 have old:∀ b,b<v.heap.size->(((v.alloc (.cells #[I 0,I 0,I 0,I (-2)] 38)).alloc (.cells #[I 0,I 0] 38)).alloc (.cells #[.slice (some ⟨v.heap.size,0,none⟩) 2 2,.slice (some ⟨v.heap.size+1,0,none⟩) 1 1] 31)).heap[b]? = v.heap[b]?:=λb hb=>by
  show (((v.heap.push _).push _).push _)[b]? = _;simp only[Qg,Array.size_push]
  repeat rw[if_neg (by omega)]
 have n0:(((v.alloc (.cells #[I 0,I 0,I 0,I (-2)] 38)).alloc (.cells #[I 0,I 0] 38)).alloc (.cells #[.slice (some ⟨v.heap.size,0,none⟩) 2 2,.slice (some ⟨v.heap.size+1,0,none⟩) 1 1] 31)).heap[v.heap.size]? = some (.cells #[I 0,I 0,I 0,I (-2)] 38):=by
  show (((v.heap.push _).push _).push _)[v.heap.size]? = _;simp only[Qg,Array.size_push]
  repeat first|rw[if_pos trivial]|rw[if_pos (by omega)]|rw[if_neg (by omega)]
 have n1:(((v.alloc (.cells #[I 0,I 0,I 0,I (-2)] 38)).alloc (.cells #[I 0,I 0] 38)).alloc (.cells #[.slice (some ⟨v.heap.size,0,none⟩) 2 2,.slice (some ⟨v.heap.size+1,0,none⟩) 1 1] 31)).heap[v.heap.size+1]? = some (.cells #[I 0,I 0] 38):=by
  show (((v.heap.push _).push _).push _)[v.heap.size+1]? = _;simp only[Qg,Array.size_push]
  repeat first|rw[if_pos trivial]|rw[if_pos (by omega)]|rw[if_neg (by omega)]
 have n2:(((v.alloc (.cells #[I 0,I 0,I 0,I (-2)] 38)).alloc (.cells #[I 0,I 0] 38)).alloc (.cells #[.slice (some ⟨v.heap.size,0,none⟩) 2 2,.slice (some ⟨v.heap.size+1,0,none⟩) 1 1] 31)).heap[v.heap.size+2]? = some (.cells #[.slice (some ⟨v.heap.size,0,none⟩) 2 2,.slice (some ⟨v.heap.size+1,0,none⟩) 1 1] 31):=by
  show (((v.heap.push _).push _).push _)[v.heap.size+2]? = _;simp only[Qg,Array.size_push]
  repeat first|rw[if_pos trivial]|rw[if_pos (by omega)]|rw[if_neg (by omega)]
 have hb:=body58 (v:=(((v.alloc (.cells #[I 0,I 0,I 0,I (-2)] 38)).alloc (.cells #[I 0,I 0] 38)).alloc (.cells #[.slice (some ⟨v.heap.size,0,none⟩) 2 2,.slice (some ⟨v.heap.size+1,0,none⟩) 1 1] 31))) M (v.heap.size+2) 2 2 2 (A:=A) (B:=λk=>v.heap.size+k) (ca:=lnW) (cb:=lnW) (ln:=lnW) (e:=λ_ _=>0) (x:=exW) ⟨λk hk=>?_,λk hk j hj=>?_⟩ ⟨λk hk=>?_,λk hk j hj=>?_⟩ (by decide) (λk hk=>by unfold lnW;split<;>decide)
 .refine (hb.calls Tryd.func58 rfl).mono ?_
  rintro e w' ⟨r,rfl,rfl,h1,h2,h3⟩;exact ⟨rfl,h1,h2,h3⟩
 .have:=h.row k hk
  rw[World.cell?_of_block (w:=v) (w':=(((v.alloc (.cells #[I 0,I 0,I 0,I (-2)] 38)).alloc (.cells #[I 0,I 0] 38)).alloc (.cells #[.slice (some ⟨v.heap.size,0,none⟩) 2 2,.slice (some ⟨v.heap.size+1,0,none⟩) 1 1] 31))) (old M (World.block_lt_of_cell? _ _ this))];exact this
 .have:k=0∨k=1:=by omega
  rcases this with rfl|rfl
  .have h2:(((v.alloc (.cells #[I 0,I 0,I 0,I (-2)] 38)).alloc (.cells #[I 0,I 0] 38)).alloc (.cells #[.slice (some ⟨v.heap.size,0,none⟩) 2 2,.slice (some ⟨v.heap.size+1,0,none⟩) 1 1] 31)).heap[A 0]? = some (.cells #[I 0,I 0,I 0,I (-2)] 38):=by rw[old _ (Qb h.a0).1];exact h.a0
   have:j=0∨j=1:=by simp[lnW] at hj;omega
   rcases this with rfl|rfl<;>exact ⟨cell_of h2 rfl,cell_of h2 rfl⟩
  .have h2:(((v.alloc (.cells #[I 0,I 0,I 0,I (-2)] 38)).alloc (.cells #[I 0,I 0] 38)).alloc (.cells #[.slice (some ⟨v.heap.size,0,none⟩) 2 2,.slice (some ⟨v.heap.size+1,0,none⟩) 1 1] 31)).heap[A 1]? = some (.cells #[I 0,I 0] 38):=by rw[old _ (Qb h.a1).1];exact h.a1
   obtain rfl:j=0:=by simp[lnW] at hj;omega
   exact ⟨cell_of h2 rfl,cell_of h2 rfl⟩
 .have:k=0∨k=1:=by omega
  rcases this with rfl|rfl<;>exact cell_of n2 rfl
 .have:k=0∨k=1:=by omega
  rcases this with rfl|rfl
  .have:j=0∨j=1:=by simp[lnW] at hj;omega
   rcases this with rfl|rfl<;>exact ⟨cell_of n0 rfl,cell_of n0 rfl⟩
  .obtain rfl:j=0:=by simp[lnW] at hj;omega
   exact ⟨cell_of n1 rfl,cell_of n1 rfl⟩
theorem T51_wp {M:Nat}{A:Nat->Nat}(h:Done51 M A v) {a:Act}(hA:Fl 28 [(2,.slice (some ⟨M,0,none⟩) 2 2),(3,I 0)] a):
 T51.wp Tryd.prog (λe a w'=>e=.ret∧∃ x,(results Tryd.f51 a.tmps).run Tryd.prog w'=.ok x w'∧x=.bool true∧Grows v w') a v:=by
 have g3:Grows v (((v.alloc (.cells #[I 0,I 0,I 0,I (-2)] 38)).alloc (.cells #[I 0,I 0] 38)).alloc (.cells #[.slice (some ⟨v.heap.size,0,none⟩) 2 2,.slice (some ⟨v.heap.size+1,0,none⟩) 1 1] 31)):=⟨by show _<=(((v.heap.push _).push _).push _).size;simp;omega,λb hb=>by
  show (((v.heap.push _).push _).push _)[b]? = _;simp only[Qg,Array.size_push]
  repeat rw[if_neg (by omega)],rfl,rfl⟩
 have H1:Hid (Calls Tryd.prog 58 #[.slice (some ⟨M,0,none⟩) 2 2,.slice (some ⟨v.heap.size+2,0,none⟩) 2 2] (((v.alloc (.cells #[I 0,I 0,I 0,I (-2)] 38)).alloc (.cells #[I 0,I 0] 38)).alloc (.cells #[.slice (some ⟨v.heap.size,0,none⟩) 2 2,.slice (some ⟨v.heap.size+1,0,none⟩) 1 1] 31)) (λe w1=>e=.returned (.bool true)∧Hid (Grows v w1))):=⟨(same51 h).mono (by rintro e w1 ⟨rfl,h1,h2,h3⟩;exact ⟨rfl,⟨by rw[h1];exact g3.size,λb hb=>by rw[h1];exact g3.old b hb,h2,h3⟩⟩)⟩
 clear h g3;obtain ⟨hsz,hd,hpp⟩:=hA;obtain ⟨u,rfl,hg⟩:=litN hsz hd;have u2:=(hg 2).symm.trans (hpp (2,.slice (some ⟨M,0,none⟩) 2 2) (by simp));have u3:=(hg 3).symm.trans (hpp (3,I 0) (by simp));clear hg hpp hsz hd;unfold T51 B51 Tryd.f51 seq2;simp only[Qa,lits,Nat.reduceAdd,u2,u3];clear u2 u3
 go_wp2_with (first
  |(go_at_call 58;refine H1.out.mono ?_;rintro e w1 ⟨rfl,H2⟩))
 exact ⟨_,results_tmp (t:=0) rfl _ _ _,rfl,H2.out⟩
structure Set51 (v:World) (wb bk:Nat) (sc:Value) (c:Nat) (u:World):Prop where
 mem:Mem zn (newS wb bk v.heap.size sc []) [] u
 opn:Open u bk
 c0:u.heap[c]? = some (.cells #[I 1,I 5,I 0,I 0,I 2,I 0,I 0,I 0] 35)
 c1:u.heap[c+1]? = some (.cells #[I 1,I (-7),I 0,I 0] 35)
 scr:u.heap[c+2]? = some (.cells #[.slice (some ⟨c,0,none⟩) 2 2,.slice (some ⟨c+1,0,none⟩) 1 1] 33)
 own:∀ b,Own (newS wb bk v.heap.size sc []) [] b∨b=bk->v.heap.size<=b∧b<c
 old:Grows v u
theorem Set51.same {wb bk:Nat}{sc:Value}{c:Nat}{u u':World}(h:Set51 v wb bk sc c u) (e:u'.heap=u.heap) (e1:u'.os=u.os) (e2:u'.output=u.output):Set51 v wb bk sc c u':=by
 have g:Grows u u':=⟨by rw[e];exact Qi _,λb _=>by rw[e],e1,e2⟩
 refine ⟨(h.mem.grows g).mem,?_,by rw[e];exact h.c0,by rw[e];exact h.c1,by rw[e];exact h.scr,h.own,⟨by rw[e];exact h.old.size,λb hb=>by rw[e];exact h.old.old b hb,e1.trans h.old.os,e2.trans h.old.output⟩⟩;obtain ⟨c,m,hh⟩:=h.opn;exact ⟨c,m,by rw[e];exact hh⟩
theorem cawake_in {Ch:Nat->Prop}{Stop:Goroutine->World->Prop}{main:Bool}{w:World}(cs:List Frame) {bc:Frame}{ac:Act}{ops:Array Oper}{q:Nat}{rest:List Nat}{oc:Oper}{k:List Item}(hoc:ops[q]? = some oc)
 (hvw:Rel zn v w) (hn:NoRow Ch v)
 (hk:∀ v' w' (wb bk:Nat) (sc:Value) (c:Nat) (bd:Frame) (ad:Act) (od:Array Oper) (qd:Nat) (rd:List Nat) (oe:Oper) (kd:List Item),Rel zn v' w'->NoRow Ch v'->Set51 v wb bk sc c v'->od[qd]? = some oe ->
   (∀ (Ch:Nat->Prop) (Stop:Goroutine->World->Prop) (M:Nat) (A:Nat->Nat) (v w:World),Rel zn v w->NoRow Ch v->Done51 M A v->(∀ v' w',Rel zn v' w'->NoRow Ch v'->Grows v v'->GoesI Tryd.prog main (DT (ScZ zn) Ch) Stop (G (bc.at (ac.put oc.dst (.bool true)) (.inRegion ops rest :: k)) cs) w')->GoesI Tryd.prog main (DT (ScZ zn) Ch) Stop (G (bd.at (ad.put oe.dst (.tuple #[.slice (some ⟨M,0,none⟩) 2 2,I 0])) (.inRegion od rd :: kd)) (bc.at ac (.inRegion ops (q :: rest) :: k) :: cs)) w) ->
   GoesI Tryd.prog main (DT (ScZ zn) Ch) Stop (G ((base 52).at { tmps:=#[Pt wb 0,I 2,.slice (some ⟨c+2,0,none⟩) 2 2]++Array.replicate 25 undef,defers:=[] } [.code B52]) (bd.at ad (.inRegion od (qd :: rd):: kd):: bc.at ac (.inRegion ops (q :: rest):: k):: cs)) w'):
 GoesI Tryd.prog main (DT (ScZ zn) Ch) Stop (G ((base 51).at { tmps:=Array.replicate 28 undef,defers:=[] } [.code B51]) (bc.at ac (.inRegion ops (q :: rest) :: k) :: cs)) w:=by
 rw[eB51];refine goesI_seq (dt_idle _ _) ?_;refine goesI_plain (z:=zn) (wr:=true) (L:=LV) (I:=NoRow Ch) hE fineV noRow_keeps (λv v' w w' es hi hr ho he=>dt_of_z v v' w w' es hi hr ho he) hvw fine510 rfl (by simp[base]) hn
  (Q:=λa w'=>a={ tmps:=#[.bool false]++Array.replicate 27 undef,defers:=[] }∧w'.heap=v.heap∧w'.os=v.os∧w'.output=v.output) (λτ=>b510_wp (v:=onTape v τ 0)) ?_
 rintro a0 v0 w0 ⟨rfl,e0,o0,u0⟩ hr0 hn0 -;refine goesI_seq (dt_idle _ _) ?_;refine goesI_plain (z:=zn) (wr:=true) (L:=LV) (I:=NoRow Ch) hE fineV noRow_keeps (λv v' w w' es hi hr ho he=>dt_of_z v v' w w' es hi hr ho he) hr0 fine511 rfl (by simp[base]) hn0
  (Q:=λa w'=>∃ wb bk sc,a={ tmps:=#[.bool false,Pt wb 0,undef,undef,Pt wb 0]++Array.replicate 23 undef,defers:=[] }∧IsNew v0 [] wb bk sc w') (λτ=>?_) ?_
 .refine wp_mono (b511_wp (v:=onTape v0 τ 0)) (λe a w' hq=>⟨hq.1,?_⟩)
  obtain ⟨_,wb,bk,sc,h1,h2⟩:=hq;exact ⟨wb,bk,sc,h1,⟨h2.mem,h2.opn,h2.new,⟨h2.old.size,h2.old.old,h2.old.os,h2.old.output⟩⟩⟩
 rintro a1 v1 w1 ⟨wb,bk,sc,rfl,hnew⟩ hr1 hn1 -;have hset:Set51 v wb bk sc v1.heap.size (((v1.alloc (.cells #[I 1,I 5,I 0,I 0,I 2,I 0,I 0,I 0] 35)).alloc (.cells #[I 1,I (-7),I 0,I 0] 35)).alloc (.cells #[.slice (some ⟨v1.heap.size,0,none⟩) 2 2,.slice (some ⟨v1.heap.size+1,0,none⟩) 1 1] 33)):=by
  have g1:Grows v1 (((v1.alloc (.cells #[I 1,I 5,I 0,I 0,I 2,I 0,I 0,I 0] 35)).alloc (.cells #[I 1,I (-7),I 0,I 0] 35)).alloc (.cells #[.slice (some ⟨v1.heap.size,0,none⟩) 2 2,.slice (some ⟨v1.heap.size+1,0,none⟩) 1 1] 33)):=⟨by show _<=(((v1.heap.push _).push _).push _).size;simp;omega,λb hb=>by
   show (((v1.heap.push _).push _).push _)[b]? = _;simp only[Qg,Array.size_push]
   repeat rw[if_neg (by omega)],rfl,rfl⟩
  have hm1:=hnew.mem;have hnn:=hnew.new;rw[e0] at hm1 hnn;refine ⟨(hm1.grows g1).mem,?_,?_,?_,?_,λb hb=>⟨hnn b hb,?_⟩,⟨?_,λb hb=>?_,?_,?_⟩⟩
  .obtain ⟨c,m,h⟩:=hnew.opn
   exact ⟨c,m,by rw[g1.old _ (Qb h).1];exact h⟩
  .show (((v1.heap.push _).push _).push _)[v1.heap.size]? = _
   simp only[Qg,Array.size_push]
   repeat first|rw[if_pos trivial]|rw[if_pos (by omega)]|rw[if_neg (by omega)]
  .show (((v1.heap.push _).push _).push _)[v1.heap.size+1]? = _
   simp only[Qg,Array.size_push]
   repeat first|rw[if_pos trivial]|rw[if_pos (by omega)]|rw[if_neg (by omega)]
  .show (((v1.heap.push _).push _).push _)[v1.heap.size+2]? = _
   simp only[Qg,Array.size_push]
   repeat first|rw[if_pos trivial]|rw[if_pos (by omega)]|rw[if_neg (by omega)]
  .rcases hb with hb|rfl
   exact hm1.lt hb
   .obtain ⟨c,m,h⟩:=hnew.opn
    exact (Qb h).1
  have:=hnew.old.size;have:=g1.size;rw[e0] at *;omega;rw[g1.old b (by have:=hnew.old.size;rw[e0] at this;omega),hnew.old.old b (by rw[e0];exact hb),e0];exact hnew.old.os.trans o0;exact hnew.old.output.trans u0
 clear hnew hr0 hn0 e0 o0 u0 hvw hn;unfold r512 B51 Tryd.f51 seq1 seq2;simp only[Qa,Sy];refine goesI_seq (dt_idle _ _) ?_;refine goesI_region (dt_idle _ _) ?_;simp only[Sz,Sr,Nat.reduceAdd];iterate 1
  (refine goesI_oper rfl rfl (by decide) (λd K hK=>?_)
   go_simp;refine hK _ _ ⟨dt_reads (λe he=>?_),GoesI.at ?_ d⟩
   .have hm:=mem_listed he
    simp[go_sem, *] at hm
    try exact ⟨_,_,hm⟩
   clear hK K)
 refine goesI_opZ (L:=LV) rfl rfl (by decide) (fineOp_ask callV extT (by kernel_rfl)) hr1 hn1 (v':=v1) (x:=.agg #[I 1,I 5,I 0,I 0]) (by go_simp) rfl (λw2 hr2 hn2=>?_);refine goesI_opZ (L:=LV) rfl rfl (by decide) (fineOp_ask callV extT (by kernel_rfl)) hr2 hn2 (v':=v1) (x:=.agg #[I 2,I 0,I 0,I 0]) (by go_simp) rfl (λw2b hr2b hn2b=>?_);refine goesI_opZ (L:=LV) rfl rfl (by decide) (fineOp_ask callV extT (by kernel_rfl)) hr2b hn2b (v':=(v1.alloc (.cells #[I 1,I 5,I 0,I 0,I 2,I 0,I 0,I 0] 35))) (x:=.slice (some ⟨v1.heap.size,0,none⟩) 2 2) (by go_simp) rfl (λw3 hr3 hn3=>?_);refine goesI_opZ (L:=LV) rfl rfl (by decide) (fineOp_ask callV extT (by kernel_rfl)) hr3 hn3 (v':=(v1.alloc (.cells #[I 1,I 5,I 0,I 0,I 2,I 0,I 0,I 0] 35))) (x:=.agg #[I 1,I (-7),I 0,I 0]) (by go_simp) rfl (λw4 hr4 hn4=>?_);refine goesI_opZ (L:=LV) rfl rfl (by decide) (fineOp_ask callV extT (by kernel_rfl)) hr4 hn4 (v':=((v1.alloc (.cells #[I 1,I 5,I 0,I 0,I 2,I 0,I 0,I 0] 35)).alloc (.cells #[I 1,I (-7),I 0,I 0] 35))) (x:=.slice (some ⟨v1.heap.size+1,0,none⟩) 1 1) (by go_simp) rfl (λw5 hr5 hn5=>?_);refine goesI_opZ (L:=LV) rfl rfl (by decide) (fineOp_ask callV extT (by kernel_rfl)) hr5 hn5 (v':=(((v1.alloc (.cells #[I 1,I 5,I 0,I 0,I 2,I 0,I 0,I 0] 35)).alloc (.cells #[I 1,I (-7),I 0,I 0] 35)).alloc (.cells #[.slice (some ⟨v1.heap.size,0,none⟩) 2 2,.slice (some ⟨v1.heap.size+1,0,none⟩) 1 1] 33))) (x:=.slice (some ⟨v1.heap.size+2,0,none⟩) 2 2) (by go_simp) rfl (λw6 hr6 hn6=>?_)
 refine goesI_into (f:=52) (fn:=Tryd.f52) (args:=#[Pt wb 0,I 2,.slice (some ⟨v1.heap.size+2,0,none⟩) 2 2]) (dt_idle _ _) rfl rfl (by decide) rfl (by simp[Act.eval,Act.put]) Tryd.func52 (by decide) rfl ?_;refine hk _ w6 wb bk sc v1.heap.size _ _ _ _ _ _ _ hr6 hn6 hset rfl (λCh Stop M A vv ww hvw hn hD hg=>?_);clear hk hset hr1 hr2 hr2b hr3 hr4 hr5 hr6 hn1 hn2 hn2b hn3 hn4 hn5 hn6;iterate 5
  (refine goesI_oper rfl rfl (by decide) (λd K hK=>?_)
   go_simp;refine hK _ _ ⟨dt_reads (λe he=>?_),GoesI.at ?_ d⟩
   .have hm:=mem_listed he
    simp[go_sem, *] at hm
    try exact ⟨_,_,hm⟩
   clear hK K)
 refine goesI_regionEnd (dt_idle _ _) ?_;refine goesI_outZ (c:=T51) (f:=51) (fn:=Tryd.f51) (L:=LV) hE fineV hvw hn Tryd.func51 fineT51 rfl hoc (R:=λr w'=>r=.bool true∧Grows vv w') (λτ=>?_) (λr v' w' hR hr' hn'=>?_)
 .have hD':Done51 M A (onTape vv τ 0):=⟨hD.row,hD.a0,hD.a1⟩
  refine wp_mono (T51_wp (v:=onTape vv τ 0) hD' ⟨rfl,rfl,by
   intro p hp;simp only[Sm,or_false] at hp;rcases hp with rfl|rfl<;>rfl⟩) (λe a w' hq=>⟨hq.1,?_⟩)
  obtain ⟨_,x,h1,h2,h3⟩:=hq;exact ⟨x,h1,h2,⟨h3.size,h3.old,h3.os,h3.output⟩⟩
 .obtain ⟨rfl,hgr⟩:=hR
  exact hg v' w' hr' hn' hgr
end Go.Proofs.YtfjjoohflcchnaaDoor.Gen
namespace Go.Proofs.YtfjjoohflcchnaaDoor.Gen
open Go Go.Lift Go.Conc Go.RowKit
open Go.ConcN (upd upd_same upd_ne)
variable {w:World}
structure Gl (w:World):Prop where
 a:∃ c t f,w.heap[6]? = some (.cells c t f)∧c[0]? = some (I 0)∧c[1]? = some (I 32)
 b:∃ c t f,w.heap[7]? = some (.cells c t f)∧c[0]? = some (I 32)∧c[1]? = some (I 30)
theorem Gl.grows {w':World}(h:Gl w) (g:Grows w w'):Gl w':=by obtain ⟨c,t,f,h1,h2⟩:=h.a;obtain ⟨c',t',f',k1,k2⟩:=h.b;exact ⟨⟨c,t,f,by rw[g.old 6 (Qb h1).1];exact h1,h2⟩,⟨c',t',f',by rw[g.old 7 (Qb k1).1];exact k1,k2⟩⟩
def glP (w:World):Nat->Option Obj:=λb=>if b=6∨b=7 then w.heap[b]? else none
theorem glP_in {b:Nat}(h:glP w b≠none):b=6∨b=7:=by unfold glP at h;split at h;assumption;exact absurd rfl h
theorem glP_gf (h:Gl w):GF (glP w):=by obtain ⟨c,t,f,h1,h2⟩:=h.a;obtain ⟨c',t',f',k1,k2⟩:=h.b;exact ⟨⟨c,t,f,by unfold glP;rw[if_pos (.inl rfl)];exact h1,h2⟩,⟨c',t',f',by unfold glP;rw[if_pos (.inr rfl)];exact k1,k2⟩⟩
theorem glP_has (w:World):Has (glP w) w:=λb o hb=>by unfold glP at hb;split at hb;exact hb;cases hb
theorem glP_row (h:Gl w):∀ b o,glP w b=some o->∃ c e f,o=.cells c e f:=λb o hb=>by
 have hw:=glP_has w b o hb;rcases glP_in (by rw[hb];simp) with rfl|rfl
 .obtain ⟨c,t,f,h1,_⟩:=h.a
  rw[h1] at hw;cases hw;exact ⟨_,_,_,rfl⟩
 .obtain ⟨c,t,f,h1,_⟩:=h.b
  rw[h1] at hw;cases hw;exact ⟨_,_,_,rfl⟩
theorem Gl.lt (h:Gl w):7<w.heap.size:=by obtain ⟨c,t,f,h1,_⟩:=h.b;exact (Qb h1).1
abbrev pcW (c j:Nat):Option Addr:=some ⟨c+j,0,none⟩
section
variable {wb bk base:Nat}{sc cv:Value}{cb0 cb1:Nat}{l0:Nat->Ph}
theorem hires_ctr {caps:Array Value}{pk:Nat->Option Obj}{N c:Nat}{S1:TS}{l1:Nat->Ph}(h:Hires (mcC 2) 0 (scrs (mcC 2) 86 caps pk N 2 [(cb0,0),(cb1,0)] (pcW c) lnW lnW (λj=>c+j) clW) (awST wb bk base sc cv 2) l0 S1 l1):
 ∃ tv0 tb0 gc0 tv1 tb1 gc1,(⟨S1,[(cb0,0),(cb1,0)],l1⟩:PSt)=awPT wb bk base sc cv tv0 tb0 gc0 tv1 tb1 gc1 cb0 cb1 l0:=by
 have e:(scrs (mcC 2) 86 caps pk N 2 [(cb0,0),(cb1,0)] (pcW c) lnW lnW (λj=>c+j) clW)=[scrOf (mcC 2) 86 caps pk N 2 [cb0,cb1] (pcW c) lnW lnW (λj=>c+j) clW 0,scrOf (mcC 2) 86 caps pk N 2 [cb0,cb1] (pcW c) lnW lnW (λj=>c+j) clW 1]:=rfl;rw[e] at h;cases h with
 |cons tv0 tb0 gc0 h =>
  cases h with
  |cons tv1 tb1 gc1 h =>
   cases h;exact ⟨tv0,tb0,gc0,tv1,tb1,gc1,rfl⟩
end
theorem asked51 {v u:World}{wb bk:Nat}{sc:Value}{c:Nat}(s:Set51 v wb bk sc c u):Asked u (newS wb bk v.heap.size sc []) 2 (c+2) 0 (pcW c) lnW lnW (λj=>c+j) clW:=by
 have two:∀ {j},j<2->j=0∨j=1:=λh=>by omega
 refine ⟨λj hj=>by rcases two hj with rfl|rfl<;>exact ⟨rfl,by decide⟩,λk hk=>?_,λh=>by have:=(s.own _ (.inl h)).2;omega,λj hj _=>⟨rfl,λh=>by have:=(s.own _ (.inl h)).2;omega⟩,λj hj k x hx=>?_,λj hj x hx=>?_⟩;rcases two hk with rfl|rfl<;>exact cell_of s.scr rfl
 .rcases two hj with rfl|rfl
  .match k,hx with
   |0,hx=>cases hx;exact ⟨cell_of s.c0 rfl,cell_of s.c0 rfl,cell_of s.c0 rfl,cell_of s.c0 rfl⟩
   |1,hx=>cases hx;exact ⟨cell_of s.c0 rfl,cell_of s.c0 rfl,cell_of s.c0 rfl,cell_of s.c0 rfl⟩
   |k+2,hx=>simp[clW] at hx
  .match k,hx with
   |0,hx=>cases hx;exact ⟨cell_of s.c1 rfl,cell_of s.c1 rfl,cell_of s.c1 rfl,cell_of s.c1 rfl⟩
   |k+1,hx=>simp[clW] at hx
 .rcases two hj with rfl|rfl
  .simp[clW] at hx
   rcases hx with rfl|rfl<;>decide
  .simp[clW] at hx
   subst hx
   decide
theorem K_two {K:List (Nat×Int)}(hK:K.map (·.2)=List.replicate 2 0):∃ cb0 cb1,K=[(cb0,0),(cb1,0)]:=by
 match K,hK with
 | [(a,x),(b,y)],hK =>simp[List.replicate] at hK;obtain ⟨rfl,rfl⟩:=hK;exact ⟨a,b,rfl⟩
 | [],hK=>simp at hK
 | [x],hK=>simp[List.replicate] at hK
 |x :: y :: z :: l,hK=>simp[List.replicate] at hK
theorem cawake_all {cs:List Frame}{bc:Frame}{ac:Act}{ops:Array Oper}{q0:Nat}{rest:List Nat}{oc:Oper}{k0:List Item}(hoc:ops[q0]? = some oc) {T:Trace}{gs:Array Goroutine}{q:Nat->Nat}(sl:Option (Nat×Nat)) (A:Alone gs w T q) (hGl:Gl w)
 (hg:gs[0]? = some (G ((base 51).at { tmps:=Array.replicate 28 undef,defers:=[] } [.code B51]) (bc.at ac (.inRegion ops (q0 :: rest):: k0):: cs))):
 ∃ (N':Nat) (gs':Array Goroutine) (w':World) (sl':Option (Nat×Nat)) (T':Trace) (q':Nat->Nat),
   runNT Tryd.prog N' (crowd gs w sl) T=(.next (crowd gs' w' sl'),T')∧gs'[0]? = some (G (bc.at (ac.put oc.dst (.bool true)) (.inRegion ops rest :: k0)) cs)∧Alone gs' w' T' q'∧Grows w w':=by
 have hG:GoesI Tryd.prog true (DT (ScZ zn) (λ_=>False)) (λg w'=>∃ (wb bk:Nat) (sc:Value) (c:Nat) (bd:Frame) (ad:Act) (od:Array Oper) (qd:Nat) (rd:List Nat) (oe:Oper) (kd:List Item),Set51 w wb bk sc c w'∧od[qd]? = some oe ∧
  (∀ (Ch:Nat->Prop) (Stop:Goroutine->World->Prop) (M:Nat) (A:Nat->Nat) (v w:World),Rel zn v w->NoRow Ch v->Done51 M A v->(∀ v' w',Rel zn v' w'->NoRow Ch v'->Grows v v'->GoesI Tryd.prog true (DT (ScZ zn) Ch) Stop (G (bc.at (ac.put oc.dst (.bool true)) (.inRegion ops rest :: k0)) cs) w')->GoesI Tryd.prog true (DT (ScZ zn) Ch) Stop (G (bd.at (ad.put oe.dst (.tuple #[.slice (some ⟨M,0,none⟩) 2 2,I 0])) (.inRegion od rd :: kd)) (bc.at ac (.inRegion ops (q0 :: rest) :: k0) :: cs)) w) ∧
  g=G ((base 52).at { tmps:=#[Pt wb 0,I 2,.slice (some ⟨c+2,0,none⟩) 2 2]++Array.replicate 25 undef,defers:=[] } [.code B52]) (bd.at ad (.inRegion od (qd :: rd) :: kd) :: bc.at ac (.inRegion ops (q0 :: rest) :: k0) :: cs)) (G ((base 51).at { tmps:=Array.replicate 28 undef,defers:=[] } [.code B51]) (bc.at ac (.inRegion ops (q0 :: rest) :: k0) :: cs)) w :=
  cawake_in cs hoc (Rel.refl w) (λc hc=>hc.elim) (λv' w' wb bk sc c bd ad od qd rd oe kd hr hn hset ho hback=>GoesI.stop λd=>⟨wb,bk,sc,c,bd,ad,od,qd,rd,oe,kd,hset.same hr.eq hr.os hr.output,ho,hback,rfl⟩)
 obtain ⟨N1,gs1,a1,w1,sl1,T1,q1,r1,z1,h1,⟨wb,bk,sc,c,bd,ad,od,qd,rd,oe,kd,s,hoe,hback,rfl⟩,A1⟩:=alone_goes A hg sl hG;have l0:Nat->Ph:=λ_=>.done [];have hGl1:=hGl.grows s.old;have h7:=hGl.lt;have hpf:∀ b,glP w1 b≠none->¬ Own (newS wb bk w.heap.size sc []) [] b∧b≠(newS wb bk w.heap.size sc []).bk:=λb hb=>by have hb':=glP_in hb;exact ⟨λh=>by have:=(s.own b (.inl h)).1;omega,λh=>by have:=(s.own b (.inr h)).1;omega⟩
 obtain ⟨N2,gs2,w2,sl2,T2,q2,caps,pk,N,cv,K,S',S1,l1,m,p',r2,z2,h2,A2,hK,hnv,hH,hT,O⟩:=cplay_all 2 (by decide) (by decide) (S:=newS wb bk w.heap.size sc []) (n:=2) (sb:=c+2) (so:=0) (cap:=2) (pc:=pcW c) (ln:=lnW) (cp:=lnW) (rb:=λj=>c+j) (cl:=clW) hoe sl1 8 A1 h1 s.mem rfl rfl rfl s.opn (glP_gf hGl1) (glP_has w1) hpf (glP_row hGl1) (asked51 s) (by decide) (λcaps pk N K=>by show 0+2*(2+(1+0))<=1000000;decide) (by show 0<=4611686018427387904;decide) (by show ∀ x∈([]:List Int),_;simp) l0 (λcaps pk N cv K hK S1 l1 hH=>by obtain ⟨cb0,cb1,rfl⟩:=K_two hK;obtain ⟨tv0,tb0,gc0,tv1,tb1,gc1,e⟩:=hires_ctr (wb:=wb) (bk:=bk) (base:=w.heap.size) (sc:=sc) (cv:=cv) hH;exact ⟨8,_,Qi _,by rw[e];exact turns_of 8 _ (awt_runs wb bk _ sc cv tv0 tb0 gc0 tv1 tb1 gc1 cb0 cb1 l0),by rw[awt_n];decide⟩)
 obtain ⟨cb0,cb1,rfl⟩:=K_two hK;obtain ⟨tv0,tb0,gc0,tv1,tb1,gc1,e⟩:=hires_ctr (wb:=wb) (bk:=bk) (base:=w.heap.size) (sc:=sc) (cv:=cv) hH;have hT':Turns (mcC 2) m (⟨S1,[(cb0,0),(cb1,0)],l1⟩:PSt) p':=hT;rw[e] at hT';have hp:=turns_det hT' (turns_of 8 _ (awt_runs wb bk w.heap.size sc cv tv0 tb0 gc0 tv1 tb1 gc1 cb0 cb1 l0));have hans:=awt_ans wb bk w.heap.size sc cv tv0 tb0 gc0 tv1 tb1 gc1 cb0 cb1 l0;rw[<-hp] at hans;have a0:=(O.ans 0 (by decide)).2.1 (by decide);have a1:=(O.ans 1 (by decide)).2.1 (by decide);rw[hans.1] at a0;rw[hans.2] at a1;have hD:Done51 (N+1) (λk=>N+4+3*k+2) w2:=⟨λk hk=>O.rows k hk,a0,a1⟩
 obtain ⟨N3,gs3,a3,w3,sl3,T3,q3,r3,z3,h3,⟨rfl,hg3⟩,A3⟩:=alone_goes A2 h2 sl2 (hback (λ_=>False) (λg w'=>g=G (bc.at (ac.put oc.dst (.bool true)) (.inRegion ops rest :: k0)) cs∧Grows w2 w') (N+1) _ w2 w2 (Rel.refl w2) (λc hc=>hc.elim) hD (λv' w' hr hn hgr=>GoesI.stop λd=>⟨rfl,hgr.toAt hr d⟩));refine ⟨N1+N2+N3,gs3,w3,sl3,T3,q3,runNT_then (runNT_then r1 r2) r3,h3,A3,⟨by have:=s.old.size;have:=O.size;have:=hg3.size;omega,λb hb=>?_,hg3.os.trans (O.os.trans s.old.os),hg3.output.trans (O.out.trans s.old.output)⟩⟩;have hs1:=s.old.size;have hno:¬ (Own (newS wb bk w.heap.size sc []) [] b∨b=bk):=λh=>by have:=(s.own b h).1;omega
 have h5:=O.old b (by omega) (λh=>hno (.inl h)) (λh=>hno (.inr h));rw[hg3.old b (by have:=O.size;omega),h5.1,s.old.old b hb]
end Go.Proofs.YtfjjoohflcchnaaDoor.Gen
