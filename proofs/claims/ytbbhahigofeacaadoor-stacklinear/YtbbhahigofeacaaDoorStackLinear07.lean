/- StackLinear, part 7 of 32: Body33, MainN, GPure, GHome, GDrive1, GDrive2, GDrive3, GDrive4. -/
import Derived.Test.YtbbhahigofeacaaDoorStackLinear01
import Derived.Test.YtbbhahigofeacaaDoorStackLinear04
import Derived.Test.YtbbhahigofeacaaDoorStackLinear05
import Derived.Test.YtbbhahigofeacaaDoorStackLinear06
set_option linter.unusedSimpArgs false
set_option linter.unusedVariables false
set_option maxHeartbeats 4000000
set_option maxRecDepth 100000
noncomputable section
namespace Go.Proofs.YtbbhahigofeacaaDoor
open Go Go.Lift Go.Conc Go.RowKit
variable {z:Nat->Option Nat} {Ch:Nat->Prop} {Stop:Goroutine->World->Prop} {v w:World} {bc:Frame} {ac:Act} {ops:Array Oper} {q:Nat} {rest:List Nat} {oc:Oper} {k:List Item}
def Dz:Array Oper:=opsOf (Tryd.f59.body.getD .skip)
def val33 (csl F rsl asl:Value) (tb rb ix:Nat):Nat->Value
 |0=>Pt tb 0
 |1=>csl
 |2=>F
 |3=>rsl
 |4=>I ix
 |5=>Pt rb ix
 |6=>asl
 |_=>undef
theorem lead33:leadsOn .any Dz 7=true:=by kernel_rfl
theorem text33:inText .any Dz 7=true:=by kernel_rfl
theorem fineOps33 (i:Nat) (hi:i<7) (o:Oper) (ho:Dz[i]? = some o):Ek Tryd.prog true LT o:=by
 have h:((Dz.extract 0 7).all λo=>E5 Tryd.prog true o.op||H8 Dh Jr o.op)=true:=by kernel_rfl
 refine Bh C9 extT ((Array.all_eq_true_iff_forall_mem.1 h) o ?_);have:(Dz.extract 0 7)[i]? = some o:=by have hs:=(Qb ho).1;rw[Array.getElem?_extract,if_pos (by omega)];simpa using ho
 exact Array.mem_of_getElem? this
theorem rest33 (t:Nat):Region.linearise.go .any Dz (Dz.size - 7) t (Cj Dz.size 7) []=[7]:=by
 have e1:((List.range Dz.size).filter λi=>!(Cj Dz.size 7).getD i true&&((Dz[i]?).map (·.after.all λe=>!Region.binds .any e||(Cj Dz.size 7).getD e.on false)).getD false)=[7]:=by kernel_rfl
 have e0:Dz.size - 7=1:=by kernel_rfl
 rw[e0];unfold Region.linearise.go;simp only[e1,List.length_cons,List.length_nil,Nat.zero_add,Nat.mod_one,List.getElem?_cons_zero];rfl
theorem dst33 (i:Nat) (hi:i<7) (o:Oper) (ho:Dz[i]? = some o):o.dst=some (6+i):=by
 have h:((List.range 7).all λi=>(Dz[i]?).map (·.dst)==some (some (6+i)))=true:=by kernel_rfl
 have:=(List.all_eq_true.1 h) i (by simpa using hi);rw[ho] at this;simpa using this
theorem guard33 (i:Nat) (hi:i<8) (o:Oper) (ho:Dz[i]? = some o):o.guard=none:=by
 have h:((List.range 8).all λi=>((Dz[i]?).map (·.guard.isNone))==some true)=true:=by kernel_rfl
 have:=(List.all_eq_true.1 h) i (by simpa using hi);rw[ho] at this;simpa using this
theorem op33 {i:Nat}{o:Oper}{p:Op}(h:(Dz[i]?).map (·.op)=some p) (ho:Dz[i]? = some o):o.op=p:=by rw[ho] at h;exact Qd h
theorem after33 {i j:Nat}{o:Oper}(h:((Dz[i]?).map (λo=>o.after.toList.any λe=>e.on==j&&Region.binds .any e))=some true) (ho:Dz[i]? = some o) {l:Array Bool}(hd:∀ e∈o.after.toList,Region.binds .any e=true->l.getD e.on false=true):l.getD j false=true:=by rw[ho] at h;simp only[Option.map_some,Option.some.injEq,List.any_eq_true,Bool.and_eq_true,beq_iff_eq] at h;obtain ⟨e,he,rfl,hb⟩:=h;exact hd e he hb
theorem body33_goes {main:Bool}{tb p1 p2 p3 p4:Nat}(csl F asl:Value) (rb m cap ix:Nat) (hix:ix<m)
 (h1:v.cell? ⟨p1,0,none⟩=some csl) (h2:v.cell? ⟨p2,0,none⟩=some F) (h3:v.cell? ⟨p3,0,none⟩=some (.slice (some ⟨rb,0,none⟩) m cap)) (h4:v.cell? ⟨p4,0,none⟩=some (I ix)) (h5:v.cell? ⟨rb,ix,none⟩=some asl) (cs:List Frame) (hoc:ops[q]? = some oc)
 (hvw:Rel z v w) (hn:Ai Ch v)
 (hk:∀ w' (bd:Frame) (ad:Act) (od:Array Oper) (qd:Nat) (rd:List Nat) (oe:Oper) (kd:List Item),Rel z v w'->od[qd]? = some oe ->
   (∀ (z:Nat->Option Nat) (Ch:Nat->Prop) (Stop:Goroutine->World->Prop) (w:World),GoT z main Ch Stop (G (bc.at (ac.put oc.dst (.tuple #[])) (.inRegion ops rest :: k)) cs) w->GoT z main Ch Stop (G (bd.at (ad.put oe.dst (.tuple #[])) (.inRegion od rd :: kd)) (bc.at ac (.inRegion ops (q :: rest) :: k) :: cs)) w)->∀ code,Tryd.f60.body=some code ->
   GoT z main Ch Stop (G ((base 60).at { tmps:=#[Pt tb 0,csl,F,asl]++Array.replicate 44 undef,defers:=[] } [.code code]) (bd.at ad (.inRegion od (qd :: rd):: kd):: bc.at ac (.inRegion ops (q :: rest):: k):: cs)) w') (code:Code) (hc:Tryd.f59.body=some code):
 GoT z main Ch Stop (G ((base 59).at { tmps:=#[Pt tb 0,Pt p1 0,Pt p2 0,Pt p3 0,Pt p4 0]++Array.replicate 9 undef,defers:=[] } [.code code]) (bc.at ac (.inRegion ops (q :: rest) :: k) :: cs)) w:=by
 have hc0:code=.region 0 Dz true:=by have:Tryd.f59.body=some (.region 0 Dz true):=rfl;rw[this] at hc;exact (Qd hc).symm
 subst hc0;clear hc;simp only[Sy];refine Jh (n:=7) (val:=val33 csl F (.slice (some ⟨rb,0,none⟩) m cap) asl tb rb ix) (J:=λw=>Rel z v w) mix21 (λw d hJ=>hJ.re rfl rfl rfl rfl rfl rfl) (λw=>dt_draw _ _ w) lead33 text33 (on:=Dz[7]'(by decide)) rfl ?_ ?_ ?_
  { tmps:=#[Pt tb 0,Pt p1 0,Pt p2 0,Pt p3 0,Pt p4 0,undef,Pt tb 0,csl,F,.slice (some ⟨rb,0,none⟩) m cap,I ix,Pt rb ix,asl,undef],defers:=[] } ?_ ?_ hvw
 .intro i1 j1 oi oj t1 h1 h2 h3 h4 h5 h6
  rw[dst33 i1 h1 oi h3] at h5;rw[dst33 j1 h2 oj h4] at h6;have:=Qd (h5.trans h6.symm);omega
 .intro i1 o1 t1 h1 h2 h3
  rw[dst33 i1 h1 o1 h2] at h3;have:=Qd h3;subst this;show (6+i1:Nat)<14;omega
 .intro i' o rest' listed a w1 hi ho hdep hagr hJ hgo
  have ev:∀ j,j<7->listed.getD j false=true->a.eval (.tmp (6+j))=val33 csl F (.slice (some ⟨rb,0,none⟩) m cap) asl tb rb ix j:=λj hj hl =>hagr.eval hj (o:=Dz[j]'(by have:Dz.size=8:=rfl;omega)) (Qm _) hl (dst33 j hj _ (Qm _))
  have ev0:∀ t':Nat,t'<6->a.eval (.tmp t')=_:=λt' ht'=>hagr.eval0 (t:=t') (λj o hj ho e=>by rw[dst33 j hj o ho] at e;have:(6+j:Nat)=t':=Qd e;omega)
  have e0:a.eval (.tmp 0)=Pt tb 0:=ev0 0 (by omega);have e1:a.eval (.tmp 1)=Pt p1 0:=ev0 1 (by omega);have e2:a.eval (.tmp 2)=Pt p2 0:=ev0 2 (by omega);have e3:a.eval (.tmp 3)=Pt p3 0:=ev0 3 (by omega);have e4:a.eval (.tmp 4)=Pt p4 0:=ev0 4 (by omega);have hw:Region.wanted o (yielded Dz a.tmps)=true:=by simp[Region.wanted,guard33 i' (by omega) o ho]
  have hrun:(execOp a.eval o).run Tryd.prog v=.ok (.value (val33 csl F (.slice (some ⟨rb,0,none⟩) m cap) asl tb rb ix i')) v:=by
   have hjl:(ix:Int)<(m:Int):=by omega
   match i',hi,ho with
   |0,_,ho=>have hop:=op33 (p:=.move (.tmp 0)) rfl ho;unfold execOp;rw[hop];simp only[e0];simp[go_sem,val33]
   |1,_,ho=>have hop:=op33 (p:=.load 45 (.tmp 1)) rfl ho;unfold execOp;rw[hop];simp only[e1];simp[go_sem,h1,val33]
   |2,_,ho=>have hop:=op33 (p:=.load 85 (.tmp 2)) rfl ho;unfold execOp;rw[hop];simp only[e2];simp[go_sem,h2,val33]
   |3,_,ho=>have hop:=op33 (p:=.load 31 (.tmp 3)) rfl ho;unfold execOp;rw[hop];simp only[e3];simp[go_sem,h3,val33]
   |4,_,ho=>have hop:=op33 (p:=.load 3 (.tmp 4)) rfl ho;unfold execOp;rw[hop];simp only[e4];simp[go_sem,h4,val33]
   |5,_,ho=>have hop:=op33 (p:=.indexAddr 31 (.tmp 9) (.tmp 10)) rfl ho;have l:a.eval (.tmp 9)=.slice (some ⟨rb,0,none⟩) m cap:=ev 3 (by omega) (after33 (by kernel_rfl) ho hdep);have l':a.eval (.tmp 10)=I ix:=ev 4 (by omega) (after33 (by kernel_rfl) ho hdep);unfold execOp;rw[hop];simp only[l,l'];simp[go_sem,val33,hjl]
   |6,_,ho=>have hop:=op33 (p:=.load 46 (.tmp 11)) rfl ho;have l:a.eval (.tmp 11)=Pt rb ix:=ev 5 (by omega) (after33 (by kernel_rfl) ho hdep);unfold execOp;rw[hop];simp only[l];simp[go_sem,h5,val33]
  exact Cf ho hw (by simp[base]) (fineOps33 i' hi o ho) hJ hn hrun rfl (λw2 hr2 _=>hgo w2 hr2)
 .refine ⟨rfl,rfl,λj o t' hj ho _ hd=>?_,λt' hne=>?_⟩
  .rw[dst33 j hj o ho] at hd
   have:(6+j:Nat)=t':=Qd hd;subst this
   match j,hj with
   |0,_=>rfl
   |1,_=>rfl
   |2,_=>rfl
   |3,_=>rfl
   |4,_=>rfl
   |5,_=>rfl
   |6,_=>rfl
  .have hcase:∀ m:Nat,m<7->t'≠6+m:=λm hm e=>by
    have hs:m<Dz.size:=by have:Dz.size=8:=rfl;omega
    refine hne m (Dz[m]'hs) hm (Qm hs) ?_ ((dst33 m hm _ (Qm hs)).trans (by rw[e]));rw[Qe,Ie hs];simp[hm]
   match t',hcase with
   |0,_=>rfl
   |1,_=>rfl
   |2,_=>rfl
   |3,_=>rfl
   |4,_=>rfl
   |5,_=>rfl
   |6,h=>exact absurd rfl (h 0 (by omega))
   |7,h=>exact absurd rfl (h 1 (by omega))
   |8,h=>exact absurd rfl (h 2 (by omega))
   |9,h=>exact absurd rfl (h 3 (by omega))
   |10,h=>exact absurd rfl (h 4 (by omega))
   |11,h=>exact absurd rfl (h 5 (by omega))
   |12,h=>exact absurd rfl (h 6 (by omega))
   |13,_=>rfl
   |m+14,_=>rfl
 .intro tt w1 hJ
  rw[rest33];refine Ao (f:=60) (fn:=Tryd.f60) (args:=#[Pt tb 0,csl,F,asl]) (Ag _ _) (o:=Dz[7]'(by decide)) rfl rfl (by decide) rfl (by simp[Act.eval]) Tryd.func60 (by decide) rfl ?_;refine hk w1 _ _ _ _ _ _ _ hJ rfl (λz Ch Stop w hg=>?_) _ rfl;refine Aa ?_;refine Ff (Ag _ _) ?_;refine Dc (b:=base 59) (fn:=Tryd.f59) rfl ?_ Tryd.func59 (λw=>results_none rfl _ _ _) (λw=>by simp[results,go_sem]) hoc (Ag _ _) hg;show (Act.put _ _ _).defers=[];unfold Act.put;split<;>rfl
theorem turn50_stuck {S:TS}{K:List (Nat×Int)}(cs:List Frame) (hoc:ops[q]? = some oc)
 (hvw:Rel z v w) (hn:Ai Ch v) (hm:Mem z S K v) (h8:S.thr.length<=8) (h0:Aq S S.thr.length=[]) (hw:Di S S.thr.length=true) (hnn:(S.n+1)*40<=140737488355328)
 (hk:∀ v' w' tv,Rel z v' w'->Ai Ch v'->Evo z S K v (stuckS S tv) K v'->GoT z true Ch Stop (G (bc.at (ac.put oc.dst (.bool true)) (.inRegion ops rest :: k)) cs) w') (code:Code) (hc:Tryd.f86.body=some code):
 GoT z true Ch Stop (G ((base 86).at { tmps:=#[Pt S.wb 0]++Array.replicate 72 undef,defers:=[] } [.code code]) (bc.at ac (.inRegion ops (q :: rest) :: k) :: cs)) w:=by
 have hw0:code=.seq c500 (.seq c501 (.seq c502 (.seq scan c504))):=by obtain rfl:=Qd hc;rfl
 subst hw0;clear hc;simp only[Sy];refine Ab ?_;refine D1 hE Hh hvw hn fine500 rfl (by simp[base]) (a':={ tmps:=#[Pt S.wb 0,undef,.bool false]++Array.replicate 70 undef,defers:=[] }) (λτ=>?_) (λw hvw=>?_)
 .show Code.wp Tryd.prog (c500) _ _ _
  unfold c500 Tryd.f86 seq1;simp only[Qa,Sy];go_wp2_with fail;exact ⟨rfl,rfl,rfl⟩
 simp only[Sy];refine Ab ?_;refine D1 hE Hh hvw hn fine501 rfl (by simp[base]) (a':={ tmps:=#[Pt S.wb 0,undef,.bool false,.slice none 0 0]++Array.replicate 69 undef,defers:=[] }) (λτ=>?_) (λw hvw=>?_)
 .show Code.wp Tryd.prog (c501) _ _ _
  unfold c501 Tryd.f86 seq1 seq2;simp only[Qa,Sy];go_wp2_with fail;exact ⟨rfl,rfl,rfl⟩
 simp only[Sy];refine Ab ?_;refine D1 hE Hh hvw hn fine502 rfl (by simp[base]) (a':={ tmps:=#[Pt S.wb 0,undef,.bool false,.slice none 0 0,.bool false]++Array.replicate 68 undef,defers:=[] }) (λτ=>?_) (λw hvw=>?_)
 .show Code.wp Tryd.prog (c502) _ _ _
  unfold c502 Tryd.f86 seq1 seq2;simp only[Qa,Sy];go_wp2_with fail;exact ⟨rfl,rfl,rfl⟩
 simp only[Sy];refine Ab ?_;have hscan:∀ τ,scan.wp Tryd.prog (λe a w'=>e=.normal∧ScanQ S v a w') { tmps:=#[Pt S.wb 0,undef,.bool false,.slice none 0 0,.bool false]++Array.replicate 68 undef,defers:=[] } (Ap v τ 0):=λτ=>scan_wp (hm.rep.same (v':=Ap v τ 0) rfl) h8;simp only[Sy] at hscan;refine Ba (c:=scan) (z:=z) (wr:=true) (L:=LM) (I:=Ai Ch) hE Hh Az (λv v' w w' es hi hr ho he=>B0 v v' w w' es hi hr ho he) hvw fineScan rfl (by simp[base]) hn hscan ?_;rintro a' v1 w1 ⟨⟨lv,⟨u6,u8,u9,u10,u11,u12,u13,u14,u15,u16,u17,u18,u19,u20,u21,u22,u23,u24,u25,u26,u27,u28,u29,u30,u31,rfl⟩,hown⟩,hsz,hbl,hos,hou⟩ hr1 hn1 -;have hg:Grows v v1:=⟨hsz,hbl,hos,hou⟩
 have he1:=hm.grows hg;obtain ⟨p,cap,rfl⟩:=Fz hown;have hc504:c504=.seq c510 (.seq pick15 (.seq last16 (.seq state17 c518))):=rfl;rw[hc504];clear hscan;rw[h0,hw];simp only[List.length_nil];refine Ab ?_;have hst:=λτ=>stuck_wp (he1.mem.rep.same (v':=Ap v1 τ 0) rfl) hnn p cap u6 u8 u9 u10 u11 u12 u13 u14 u15 u16 u17 u18 u19 u20 u21 u22 u23 u24 u25 u26 u27 u28 u29 u30 u31;refine Hq (f:=86) (fn:=Tryd.f86) (c:=c510) hE Hh hr1 hn1 Tryd.func86 fine510 rfl hoc (R:=λx w'=>x=.bool true∧∃ tv,Ev z S v1 (stuckS S tv) w') (λτ=>wp_mono (hst τ) (λe a w' hq=>by obtain ⟨h1,x,h2,h3,tv,h4⟩:=hq;exact ⟨h1,x,h2,h3,tv,h4.base rfl rfl rfl⟩)) ?_;rintro x v2 w2 ⟨rfl,tv,hev⟩ hr2 hn2;exact hk v2 w2 tv hr2 hn2 (he1.trans (Evo.of_ev he1.mem hev rfl))
theorem turn50_end {S:TS}{K:List (Nat×Int)}(cs:List Frame) (hoc:ops[q]? = some oc)
 (hvw:Rel z v w) (hn:Ai Ch v) (hm:Mem z S K v) (h8:S.thr.length<=8) (h0:Aq S S.thr.length=[]) (hw:Di S S.thr.length=false)
 (hk:∀ v' w',Rel z v' w'->Ai Ch v'->Evo z S K v S K v'->GoT z true Ch Stop (G (bc.at (ac.put oc.dst (.bool false)) (.inRegion ops rest :: k)) cs) w') (code:Code) (hc:Tryd.f86.body=some code):
 GoT z true Ch Stop (G ((base 86).at { tmps:=#[Pt S.wb 0]++Array.replicate 72 undef,defers:=[] } [.code code]) (bc.at ac (.inRegion ops (q :: rest) :: k) :: cs)) w:=by
 have hw0:code=.seq c500 (.seq c501 (.seq c502 (.seq scan c504))):=by obtain rfl:=Qd hc;rfl
 subst hw0;clear hc;simp only[Sy];refine Ab ?_;refine D1 hE Hh hvw hn fine500 rfl (by simp[base]) (a':={ tmps:=#[Pt S.wb 0,undef,.bool false]++Array.replicate 70 undef,defers:=[] }) (λτ=>?_) (λw hvw=>?_)
 .show Code.wp Tryd.prog (c500) _ _ _
  unfold c500 Tryd.f86 seq1;simp only[Qa,Sy];go_wp2_with fail;exact ⟨rfl,rfl,rfl⟩
 simp only[Sy];refine Ab ?_;refine D1 hE Hh hvw hn fine501 rfl (by simp[base]) (a':={ tmps:=#[Pt S.wb 0,undef,.bool false,.slice none 0 0]++Array.replicate 69 undef,defers:=[] }) (λτ=>?_) (λw hvw=>?_)
 .show Code.wp Tryd.prog (c501) _ _ _
  unfold c501 Tryd.f86 seq1 seq2;simp only[Qa,Sy];go_wp2_with fail;exact ⟨rfl,rfl,rfl⟩
 simp only[Sy];refine Ab ?_;refine D1 hE Hh hvw hn fine502 rfl (by simp[base]) (a':={ tmps:=#[Pt S.wb 0,undef,.bool false,.slice none 0 0,.bool false]++Array.replicate 68 undef,defers:=[] }) (λτ=>?_) (λw hvw=>?_)
 .show Code.wp Tryd.prog (c502) _ _ _
  unfold c502 Tryd.f86 seq1 seq2;simp only[Qa,Sy];go_wp2_with fail;exact ⟨rfl,rfl,rfl⟩
 simp only[Sy];refine Ab ?_;have hscan:∀ τ,scan.wp Tryd.prog (λe a w'=>e=.normal∧ScanQ S v a w') { tmps:=#[Pt S.wb 0,undef,.bool false,.slice none 0 0,.bool false]++Array.replicate 68 undef,defers:=[] } (Ap v τ 0):=λτ=>scan_wp (hm.rep.same (v':=Ap v τ 0) rfl) h8;simp only[Sy] at hscan;refine Ba (c:=scan) (z:=z) (wr:=true) (L:=LM) (I:=Ai Ch) hE Hh Az (λv v' w w' es hi hr ho he=>B0 v v' w w' es hi hr ho he) hvw fineScan rfl (by simp[base]) hn hscan ?_;rintro a' v1 w1 ⟨⟨lv,⟨u6,u8,u9,u10,u11,u12,u13,u14,u15,u16,u17,u18,u19,u20,u21,u22,u23,u24,u25,u26,u27,u28,u29,u30,u31,rfl⟩,hown⟩,hsz,hbl,hos,hou⟩ hr1 hn1 -;have hg:Grows v v1:=⟨hsz,hbl,hos,hou⟩
 have he1:=hm.grows hg;obtain ⟨p,cap,rfl⟩:=Fz hown;have hc504:c504=.seq c510 (.seq pick15 (.seq last16 (.seq state17 c518))):=rfl;rw[hc504];clear hscan;rw[h0,hw];simp only[List.length_nil];refine Ab ?_;have hst:=λτ=>end_wp (S:=S) (v:=Ap v1 τ 0) p cap u6 u8 u9 u10 u11 u12 u13 u14 u15 u16 u17 u18 u19 u20 u21 u22 u23 u24 u25 u26 u27 u28 u29 u30 u31;refine Hq (f:=86) (fn:=Tryd.f86) (c:=c510) hE Hh hr1 hn1 Tryd.func86 fine510 rfl hoc (R:=λx w'=>x=.bool false∧w'.heap=v1.heap∧w'.os=v1.os∧w'.output=v1.output) (λτ=>wp_mono (hst τ) (λe a w' hq=>by obtain ⟨h1,x,h2,h3,h4⟩:=hq;subst h4;exact ⟨h1,x,h2,h3,rfl,rfl,rfl⟩)) ?_;rintro x v2 w2 ⟨rfl,q1,q2,q3⟩ hr2 hn2;exact hk v2 w2 hr2 hn2 (he1.same q1 q2 q3)
end Go.Proofs.YtbbhahigofeacaaDoor
namespace Go.Proofs.YtbbhahigofeacaaDoor.Gen
open Go Go.Lift Go.Conc Go.RowKit
variable {K:List (Nat×Int)} {b i ii:Nat} {S:TS}
structure Cl where
 po:Int
 ca:Int
 cb:Int
 cc:Int
abbrev Q:=Nat×List Int
inductive Nx where
 |ans (e x:Int)
 |turn (op:Int) (j:Nat) (q:Q)
 |wait (j:Nat) (q:Q)
structure Mc where
 start:Nat->Cl->Nx
 turn:Q->Int->(Int×Int)×Int×Nx
 woke:Q->Nx
 stuck:Q->Nx
 stkN:∀ q j q',stuck q≠.wait j q':=by intro q j q' h;cases h
 nts:Q->Int->List (Int×Int×Int):=λ_ _=>[]
 bnd:Bool:=false
 ok:Nat->Int->Prop:=λ_ _=>True
 at_:Q->Nat->Prop:=λ_ _=>True
 ok0:∀ j,ok j 0:=by intros;trivial
 okt:∀ q j x,at_ q j->ok j x->ok j (turn q x).2.1:=by intros;trivial
 atS:∀ i c op j q,start i c=.turn op j q->at_ q j:=by intros;trivial
 atT:∀ q j x op j' q',at_ q j->ok j x->(turn q x).2.2=.turn op j' q'->at_ q' j':=by intros;trivial
 atW:∀ q op j q',woke q=.turn op j q'->at_ q' j:=by intros;trivial
 atU:∀ q op j q',stuck q=.turn op j q'->at_ q' j:=by intros;trivial
def Mc.set (m:Mc) (stk:Bool):Nx->Nx
 |.ans e x=>.ans e x
 |.turn op j q=>.turn op j q
 |.wait j q=>if stk then m.stuck q else .wait j q
def Mc.bn (m:Mc) (caps:Array Value):Array Value:=if m.bnd then caps else #[]
def Mc.fr (m:Mc) (caps:Array Value):Array Value:=if m.bnd then #[] else caps
inductive Ph where
 |turn (op:Int) (j:Nat) (q:Q) (rest:List Cl) (ii:Nat) (ans:List (Int×Int))
 |wait (j:Nat) (q:Q) (rest:List Cl) (ii:Nat) (ans:List (Int×Int))
 |done (ans:List (Int×Int))
def Ph.ans:Ph->List (Int×Int)
 |.turn _ _ _ _ _ a=>a
 |.wait _ _ _ _ a=>a
 |.done a=>a
def nv (S:TS):TS:={ S with tv:=undef }
def thrI (S:TS) (i:Nat):Thr:=(S.thr[i]?).getD ⟨0,0,0,0,0,0⟩
def cellAt (K:List (Nat×Int)) (j:Nat):Nat×Int:=(K[j]?).getD (0,0)
def KOk (m:Mc) (K:List (Nat×Int)):Prop:=∀ j p,K[j]? = some p->m.ok j p.2
theorem KOk.set {m:Mc}(h:KOk m K) (j:Nat) (q:Q) (ha:m.at_ q j) (b:Nat):KOk m (K.set j (b,(m.turn q (cellAt K j).2).2.1)):=λk p hp=>by
 rw[Qq] at hp;split at hp
 .rename_i e
  subst e;split at hp
  .rename_i hl
   cases hp;refine m.okt q j _ ha (h j _ ?_);unfold cellAt;rw[Qf hl];rfl
  cases hp
 exact h k p hp
def Iy (i:Nat):List (Int×Int×Int)->TS->TS
 | [],S=>S
 |n :: l,S=>Iy i l (Bv S undef i n.1 (-1) n.2.1 n.2.2)
def flow (i:Nat) (m:Mc):List Cl->Nat->Bool->List (Int×Int)->TS->TS×Ph
 | [],_,_,ans,S=>(ended S i (thrI S i),.done ans)
 |_ :: rest,ii,true,ans,S=>flow i m rest (ii+1) true (ans.set ii (4,0)) S
 |c :: rest,ii,false,ans,S =>
  match m.set S.stk (m.start i c) with
  |.ans e x=>flow i m rest (ii+1) (e==4) (ans.set ii (e,x)) (Bv (Bv S undef i 9 (-1) ii 0) undef i 10 (-1) ii e)
  |.turn op j q=>(waiting (Bv S undef i 9 (-1) ii 0) i (thrI S i) 1 op j,.turn op j q rest ii ans)
  |.wait j q=>(waiting (Bv S undef i 9 (-1) ii 0) i (thrI S i) 2 6 j,.wait j q rest ii ans)
def back (i:Nat) (m:Mc) (rest:List Cl) (ii:Nat) (ans:List (Int×Int)) (a:Int×Int) (S:TS) (K:List (Nat×Int)):TS×List (Nat×Int)×Ph :=
 ((flow i m rest (ii+1) (a.1==4) (ans.set ii a) (Bv S undef i 10 (-1) ii a.1)).1,K,(flow i m rest (ii+1) (a.1==4) (ans.set ii a) (Bv S undef i 10 (-1) ii a.1)).2)
def on (i:Nat) (m:Mc) (rest:List Cl) (ii:Nat) (ans:List (Int×Int)) (S:TS) (K:List (Nat×Int)):Nx->TS×List (Nat×Int)×Ph
 |.ans e x=>back i m rest ii ans (e,x) S K
 |.turn op j q=>(waiting S i (thrI S i) 1 op j,K,.turn op j q rest ii ans)
 |.wait j q=>(waiting S i (thrI S i) 2 6 j,K,.wait j q rest ii ans)
def resume (i:Nat) (m:Mc):Ph->TS->List (Nat×Int)->TS×List (Nat×Int)×Ph
 |.turn _ j q rest ii ans,S,K=>on i m rest ii ans (Iy i (m.nts q (cellAt K j).2) (didS S undef i (thrI S i) (m.turn q (cellAt K j).2).1.1 (m.turn q (cellAt K j).2).1.2)) (K.set j ((cellAt K j).1,(m.turn q (cellAt K j).2).2.1)) (m.set S.stk (m.turn q (cellAt K j).2).2.2)
 |.wait j q rest ii ans,S,K=>if S.stk then on i m rest ii ans S K (m.stuck q) else on i m rest ii ans (Bv S undef i 6 j 0 0) K (m.woke q)
 |p,S,K=>(S,K,p)
theorem flow_cons (i:Nat) (m:Mc) (c:Cl) (rest:List Cl) (ii:Nat) (ans:List (Int×Int)) (S:TS) (K:List (Nat×Int)):flow i m (c :: rest) ii false ans S=((on i m rest ii ans (Bv S undef i 9 (-1) ii 0) K (m.set S.stk (m.start i c))).1,(on i m rest ii ans (Bv S undef i 9 (-1) ii 0) K (m.set S.stk (m.start i c))).2.2):=by
 unfold flow;cases h:m.set S.stk (m.start i c) with
 |ans e x=>rfl
 |turn op j q=>rfl
 |wait j q=>rfl
theorem Gn (i:Nat) (m:Mc) (op:Int) (j:Nat) (q:Q) (rest:List Cl) (ii:Nat) (ans:List (Int×Int)) (S:TS) (K:List (Nat×Int)):resume i m (.turn op j q rest ii ans) S K=on i m rest ii ans (Iy i (m.nts q (cellAt K j).2) (didS S undef i (thrI S i) (m.turn q (cellAt K j).2).1.1 (m.turn q (cellAt K j).2).1.2)) (K.set j ((cellAt K j).1,(m.turn q (cellAt K j).2).2.1)) (m.set S.stk (m.turn q (cellAt K j).2).2.2):=rfl
theorem Gm (i:Nat) (m:Mc) (j:Nat) (q:Q) (rest:List Cl) (ii:Nat) (ans:List (Int×Int)) (S:TS) (K:List (Nat×Int)):resume i m (.wait j q rest ii ans) S K=if S.stk then on i m rest ii ans S K (m.stuck q) else on i m rest ii ans (Bv S undef i 6 j 0 0) K (m.woke q):=rfl
theorem on_KK (i:Nat) (m:Mc) (rest:List Cl) (ii:Nat) (ans:List (Int×Int)) (S:TS) (K:List (Nat×Int)) (x:Nx):(on i m rest ii ans S K x).2.1=K:=by
 cases x with
 |ans e x=>rfl
 |turn op j q=>rfl
 |wait j q=>rfl
def PhAt (m:Mc):Ph->Prop
 |.turn _ j q _ _ _=>m.at_ q j
 |_=>True
def NxAt (m:Mc):Nx->Prop
 |.turn _ j q=>m.at_ q j
 |_=>True
theorem stuck_at (m:Mc) (q:Q):NxAt m (m.stuck q):=by
 cases h:m.stuck q with
 |ans e x=>trivial
 |turn op j q'=>exact m.atU q op j q' h
 |wait j q'=>trivial
theorem set_at {m:Mc}{s:Bool}{x:Nx}(h:NxAt m x):NxAt m (m.set s x):=by
 cases x with
 |ans e x=>exact h
 |turn op j q=>exact h
 |wait j q =>
  cases s with
  |false=>trivial
  |true=>exact stuck_at m q
theorem start_at (m:Mc) (i:Nat) (c:Cl):NxAt m (m.start i c):=by
 cases h:m.start i c with
 |ans e x=>trivial
 |turn op j q=>exact m.atS i c op j q h
 |wait j q=>trivial
theorem flow_at (i:Nat) (m:Mc):∀ (rest:List Cl) (ii:Nat) (sk:Bool) (ans:List (Int×Int)) (S:TS),PhAt m (flow i m rest ii sk ans S).2
 | [],ii,sk,ans,S=>by unfold flow;trivial
 |c :: rest,ii,true,ans,S=>by unfold flow;exact flow_at i m rest (ii+1) true _ S
 |c :: rest,ii,false,ans,S=>by
  have hs:=set_at (s:=S.stk) (start_at m i c)
  unfold flow;split;exact flow_at i m rest (ii+1) _ _ _
  .rename_i h
   rw[h] at hs;exact hs
  trivial
theorem on_at {m:Mc}{rest:List Cl}{ans:List (Int×Int)}{x:Nx}(h:NxAt m x):PhAt m (on i m rest ii ans S K x).2.2:=by
 cases x with
 |ans e x=>exact flow_at i m _ _ _ _ _
 |turn op j q=>exact h
 |wait j q=>trivial
theorem resume_at {m:Mc}{l:Ph}(hl:PhAt m l) (hK:KOk m K):PhAt m (resume i m l S K).2.2:=by
 cases l with
 |done a=>exact hl
 |turn op j q rest ii ans =>
  rw[Gn];refine on_at (set_at ?_)
  have hx:m.ok j (cellAt K j).2:=by
   unfold cellAt;cases h:K[j]? with
   |none=>exact m.ok0 j
   |some p=>exact hK j p h
  cases h:(m.turn q (cellAt K j).2).2.2 with
  |ans e x=>trivial
  |turn op' j' q'=>exact m.atT q j _ op' j' q' hl hx h
  |wait j' q'=>trivial
 |wait j q rest ii ans =>
  rw[Gm];split;exact on_at (stuck_at m q)
  .refine on_at ?_
   cases h:m.woke q with
   |ans e x=>trivial
   |turn op' j' q'=>exact m.atW q op' j' q' h
   |wait j' q'=>trivial
theorem resume_kok {m:Mc}{l:Ph}(hl:PhAt m l) (h:KOk m K):KOk m (resume i m l S K).2.1:=by
 cases l with
 |done a=>exact h
 |turn op j q rest ii ans =>rw[Gn,on_KK];exact h.set j q hl _
 |wait j q rest ii ans =>rw[Gm];split;rw[on_KK];exact h;rw[on_KK];exact h
section
variable {S:TS}{i:Nat}{m:Mc}
theorem E0 {t:Thr}(h:S.thr[i]? = some t):thrI S i=t:=by unfold thrI;rw[h];rfl
theorem nv_did (tv:Value) (t:Thr) (b a:Int):nv (didS S tv i t b a)=didS (nv S) undef i t b a:=by
 show nv (if b≠a∧0<=t.ce∧t.ce<S.chg.length then _ else _)=if b≠a∧0<=t.ce∧t.ce<S.chg.length then _ else _
 split<;>rfl
structure Sta (i:Nat) (S S':TS):Prop where
 wb:S'.wb=S.wb
 bk:S'.bk=S.bk
 base:S'.base=S.base
 us:S'.us=S.us
 la:S'.la=S.la
 sc:S'.sc=S.sc
 cv:S'.cv=S.cv
 ths:S'.ths=S.ths
 sched:S'.sched=S.sched
 stk:S'.stk=S.stk
 ran:S'.ran=S.ran
 n:S.n<=S'.n
 chg:S'.chg.length=S.chg.length
 len:S'.thr.length=S.thr.length
 oth:∀ j,j≠i->S'.thr[j]? = S.thr[j]?
 own:∀ t,S.thr[i]? = some t->∃ t',S'.thr[i]? = some t'∧t'.tb=t.tb∧t'.gc=t.gc
theorem Sta.refl (i:Nat) (S:TS):Sta i S S:=⟨rfl,rfl,rfl,rfl,rfl,rfl,rfl,rfl,rfl,rfl,rfl,Qi _,rfl,rfl,λ_ _=>rfl,λt h=>⟨t,h,rfl,rfl⟩⟩
theorem Sta.trans {S' S'':TS}(h:Sta i S S') (k:Sta i S' S''):Sta i S S'':=by refine ⟨k.wb.trans h.wb,k.bk.trans h.bk,k.base.trans h.base,k.us.trans h.us,k.la.trans h.la,k.sc.trans h.sc,k.cv.trans h.cv,k.ths.trans h.ths,k.sched.trans h.sched,k.stk.trans h.stk,k.ran.trans h.ran,Qk h.n k.n,k.chg.trans h.chg,k.len.trans h.len,λj hj=>(k.oth j hj).trans (h.oth j hj),λt ht=>?_⟩;obtain ⟨t1,h1,h2,h3⟩:=h.own t ht;obtain ⟨t2,k1,k2,k3⟩:=k.own t1 h1;exact ⟨t2,k1,k2.trans h2,k3.trans h3⟩
theorem Gk (S:TS) (tv:Value) (op ce ol ne:Int):Sta i S (Bv S tv i op ce ol ne):=⟨rfl,rfl,rfl,rfl,rfl,rfl,rfl,rfl,rfl,rfl,rfl,Nat.le_succ _,rfl,rfl,λ_ _=>rfl,λt h=>⟨t,h,rfl,rfl⟩⟩
theorem sta_set (S:TS) (t':Thr) (h1:∀ t,S.thr[i]? = some t->t'.tb=t.tb∧t'.gc=t.gc):Sta i S { S with thr:=S.thr.set i t' }:=by
 refine ⟨rfl,rfl,rfl,rfl,rfl,rfl,rfl,rfl,rfl,rfl,rfl,Qi _,rfl,by simp,λj hj=>?_,λt h=>⟨t',?_,h1 t h⟩⟩
 .show (S.thr.set i t')[j]? = _
  rw[Qq,if_neg (λe=>hj e.symm)]
 .have hi:i<S.thr.length:=(Qc h).1
  show (S.thr.set i t')[i]? = _;rw[Qq,if_pos rfl,if_pos hi]
theorem sta_wait (S:TS) (s o c:Int):Sta i S (waiting S i (thrI S i) s o c):=sta_set S _ (λt h=>by rw[E0 h];exact ⟨rfl,rfl⟩)
theorem sta_ended (S:TS):Sta i S (ended S i (thrI S i)):=sta_set S _ (λt h=>by rw[E0 h];exact ⟨rfl,rfl⟩)
theorem sta_did (S:TS) (tv:Value) (t:Thr) (b a:Int):Sta i S (didS S tv i t b a):=by unfold didS;split;exact ⟨rfl,rfl,rfl,rfl,rfl,rfl,rfl,rfl,rfl,rfl,rfl,Nat.le_succ _,by simp[counted,Bv],rfl,λ_ _=>rfl,λt h=>⟨t,h,rfl,rfl⟩⟩;exact Gk _ _ _ _ _ _
theorem sta_notes:∀ (l:List (Int×Int×Int)) (S:TS),Sta i S (Iy i l S)
 | [],S=>Sta.refl i S
 |n :: l,S=>(Gk S undef n.1 (-1) n.2.1 n.2.2).trans (sta_notes l _)
theorem notes_n:∀ (l:List (Int×Int×Int)) (S:TS),(Iy i l S).n=S.n+l.length
 | [],S=>rfl
 |n :: l,S=>by show (Iy i l (Bv S undef i n.1 (-1) n.2.1 n.2.2)).n=_;rw[notes_n l,List.length_cons];show S.n+1+l.length=_;omega
theorem Ic:∀ (l:List (Int×Int×Int)) (S:TS),(Iy i l S).thr=S.thr∧(Iy i l S).bk=S.bk∧(Iy i l S).chg=S.chg∧(Iy i l S).stk=S.stk
 | [],S=>⟨rfl,rfl,rfl,rfl⟩
 |n :: l,S=>Ic l (Bv S undef i n.1 (-1) n.2.1 n.2.2)
theorem G4 (i:Nat) (m:Mc):∀ (rest:List Cl) (ii:Nat) (sk:Bool) (ans:List (Int×Int)) (S:TS),Sta i S (flow i m rest ii sk ans S).1
 | [],ii,sk,ans,S=>by cases sk<;>exact sta_ended S
 |c :: rest,ii,true,ans,S=>G4 i m rest (ii+1) true _ S
 |c :: rest,ii,false,ans,S=>by unfold flow;split;exact ((Gk S _ _ _ _ _).trans (Gk _ _ _ _ _ _)).trans (G4 i m rest (ii+1) _ _ _);exact (Gk S _ _ _ _ _).trans (sta_wait (Bv S undef i 9 (-1) ii 0) _ _ _);exact (Gk S _ _ _ _ _).trans (sta_wait (Bv S undef i 9 (-1) ii 0) _ _ _)
theorem back_sta (rest:List Cl) (ii:Nat) (ans:List (Int×Int)) (a:Int×Int) (K:List (Nat×Int)) (S:TS):Sta i S (back i m rest ii ans a S K).1 :=
 (Gk S _ _ _ _ _).trans (G4 i m rest (ii+1) _ _ _)
theorem on_sta (rest:List Cl) (ii:Nat) (ans:List (Int×Int)) (K:List (Nat×Int)) (S:TS) (x:Nx):Sta i S (on i m rest ii ans S K x).1:=by
 cases x with
 |ans e x=>exact back_sta _ _ _ _ _ _
 |turn op j q=>exact sta_wait S _ _ _
 |wait j q=>exact sta_wait S _ _ _
theorem F9 (i:Nat) (m:Mc) (l:Ph) (S:TS) (K:List (Nat×Int)):Sta i S (resume i m l S K).1:=by
 match l with
 |.done ans=>exact Sta.refl _ _
 |.turn op j q rest ii ans=>exact ((sta_did S _ _ _ _).trans (sta_notes _ _)).trans (on_sta _ _ _ _ _ _)
 |.wait j q rest ii ans =>rw[Gm];split;exact on_sta _ _ _ _ _ _;exact (Gk S _ _ _ _ _).trans (on_sta _ _ _ _ _ _)
end
def arow (ans:List (Int×Int)):List Value:=ans.flatMap λa=>[I a.1,I a.2]
theorem arow_len (ans:List (Int×Int)):(arow ans).length=ans.length*2:=by
 induction ans with
 |nil=>rfl
 |cons a l ih=>simp only[arow,List.flatMap_cons,Qj,List.length_cons,List.length_nil] at ih ⊢;omega
theorem arow_get:∀ (ans:List (Int×Int)) (k:Nat) (a:Int×Int),ans[k]? = some a->(arow ans)[k*2]? = some (I a.1)∧(arow ans)[k*2+1]? = some (I a.2)
 |b :: l,0,a,h=>by obtain rfl:b=a:=by simpa using h
                   exact ⟨rfl,rfl⟩
 |b :: l,k+1,a,h=>by have:=arow_get l k a (by simpa using h);have e:arow (b :: l)=I b.1 :: I b.2 :: arow l:=rfl;rw[e,show (k+1)*2=(k*2+1)+1 by omega,show (k*2+1)+1+1=(k*2+1+1)+1 by omega];simpa using this
theorem arow_set:∀ (ans:List (Int×Int)) (k:Nat) (e x:Int),k<ans.length->arow (ans.set k (e,x))=((arow ans).set (k*2) (I e)).set (k*2+1) (I x)
 |b :: l,0,e,x,_=>rfl
 |b :: l,k+1,e,x,h=>by have:=arow_set l k e x (by simpa using h);have e1:∀ (b:Int×Int) (l:List (Int×Int)),arow (b :: l)=I b.1 :: I b.2 :: arow l:=λ_ _=>rfl;rw[List.set_cons_succ,e1,this,e1,show (k+1)*2=(k*2+1)+1 by omega,show (k*2+1)+1+1=(k*2+1+1)+1 by omega];simp only[List.set_cons_succ]
variable {mc:Mc}
def roOf:Option Addr->Nat
 |some a=>a.off
 |none=>0
structure Fix (mc:Mc) where
 h:Nat
 i:Nat
 tb:Nat
 gc:Nat
 bb:Nat
 calls:List Cl
 pc:Option Addr
 rb:Nat
 cap:Nat
 asl:Value
 ab:Nat
 cap2:Nat
 aty:TypeId
 fid:FuncId
 caps:Array Value
 pk:Nat->Option Obj
 kb:List Nat
namespace Fix
def csl (X:Fix mc):Value:=.slice X.pc X.calls.length X.cap
abbrev ro (X:Fix mc):Nat:=roOf X.pc
abbrev F (X:Fix mc):Value:=.func (.func X.fid) (mc.bn X.caps) (mc.fr X.caps)
abbrev Pr (X:Fix mc) (b:Nat):Prop:=b=X.bb∨b=X.rb∨b=X.ab∨X.pk b≠none
structure Ok (X:Fix mc):Prop where
 h:0<X.h
 n:(X.calls.length:Int)<9223372036854775808
 ca:∀ c∈X.calls,-9223372036854775808<=c.ca∧c.ca<9223372036854775808
 pc:0<X.calls.length->X.pc=some ⟨X.rb,X.ro,none⟩
 asl:0<X.calls.length->X.asl=.slice (some ⟨X.ab,0,none⟩) X.calls.length X.cap2
 e0:X.calls.length=0->X.rb=X.bb∧X.ab=X.bb
 ne:0<X.calls.length->X.ab≠X.bb∧X.ab≠X.rb∧X.pk X.ab=none
 pk:∀ b o,X.pk b=some o->∃ c e f,o=.cells c e f
end Fix
def Kb (X:Fix mc) (K:List (Nat×Int)):Prop:=K.map (·.1)=X.kb∧KOk mc K
def Has (M:Nat->Option Obj) (v:World):Prop:=∀ b o,M b=some o->v.heap[b]? = some o
structure PM (X:Fix mc) (ans:List (Int×Int)) (v:World):Prop where
 box:v.cell? ⟨X.bb,0,none⟩=some (Pt X.tb 0)
 call:∀ (k:Nat) (c:Cl),X.calls[k]? = some c->v.cell? ⟨X.rb,X.ro+k*4,none⟩=some (I c.po)∧v.cell? ⟨X.rb,X.ro+k*4+1,none⟩=some (I c.ca)∧v.cell? ⟨X.rb,X.ro+k*4+2,none⟩=some (I c.cb)∧v.cell? ⟨X.rb,X.ro+k*4+3,none⟩=some (I c.cc)
 row:0<X.calls.length->v.heap[X.ab]? = some (.cells (arow ans).toArray X.aty (0,0))
 len:ans.length=X.calls.length
 pk:Has X.pk v
theorem PM.stay {X:Fix mc}{ans:List (Int×Int)}{v v':World}(h:PM X ans v) (hs:∀ b,X.Pr b->v'.heap[b]? = v.heap[b]?):PM X ans v':=by
 have hc:∀ (a:Addr) (x:Value),X.Pr a.block->v.cell? a=some x->v'.cell? a=some x:=λa x hb ha=>by rw[World.cell?_of_block (hs a.block hb)];exact ha
 refine ⟨hc _ _ (.inl rfl) h.box,λk c hk=>?_,λh0=>by rw[hs X.ab (.inr (.inr (.inl rfl)))];exact h.row h0,h.len,λb o hb=>by rw[hs b (.inr (.inr (.inr (by rw[hb];simp))))];exact h.pk b o hb⟩;have:=h.call k c hk;exact ⟨hc _ _ (.inr (.inl rfl)) this.1,hc _ _ (.inr (.inl rfl)) this.2.1,hc _ _ (.inr (.inl rfl)) this.2.2.1,hc _ _ (.inr (.inl rfl)) this.2.2.2⟩
structure Sees (X:Fix mc) (E:Nat->Prop) (M:Nat->Option Obj) (ans:List (Int×Int)):Prop where
 ex:∀ b,E b->M b≠none
 dom:∀ b,M b≠none->X.Pr b∨E b
 apart:∀ b,E b->¬ X.Pr b
 pm:∀ v,Has M v->PM X ans v
 pr:∀ b,X.Pr b->M b≠none
 row:∀ b o,M b=some o->∃ c e f,o=.cells c e f
def Gv (X:Fix mc) (z:Nat->Option Nat) (Ch:Nat->Prop) (S:TS) (K:List (Nat×Int)) (v:World) (E:Nat->Prop) (σ:TS) (κ:List (Nat×Int)) (M':Nat->Option Obj) (w':World):Prop :=
 ∃ v' S',Rel z v' w'∧Ai Ch v'∧nv S'=σ∧EvoP (λb=>b=X.ab∨E b) z S K v S' κ v'∧Has M' v'∧∀ b,M' b≠none->¬ Own S' κ b
def seatOf (X:Fix mc) (Hm:Ph->(Nat->Prop)->(Nat->Option Obj)->Goroutine->Prop):Ph->(Nat->Prop)->(Nat->Option Obj)->Option Seat
 |.done _,_,_=>none
 |l,E,M=>some (seatT X.gc (Hm l E M))
def Gives (X:Fix mc) (Hm:Ph->(Nat->Prop)->(Nat->Option Obj)->Goroutine->Prop) (z:Nat->Option Nat) (cont:Addr->Value) (Ch:Nat->Prop) (S:TS) (K:List (Nat×Int)) (v:World) (E:Nat->Prop) (σ:TS) (κ:List (Nat×Int)) (l':Ph) (E':Nat->Prop) (M':Nat->Option Obj) (g':Goroutine) (w':World):Prop :=
 Sees X E' M' l'.ans∧(∀ b,E' b->E b∨v.heap.size<=b)∧Lift.AtGive Tryd.prog (KC (ScZ z) cont) (Gj (ScZ z)) X.h S.bk (.agg #[]) (seatOf X Hm l' E' M') (Gv X z Ch S K v E σ κ M') g' w'
def Fits (X:Fix mc):Ph->Thr->Prop
 |.turn op j _ _ _ _,t=>t.op=op∧t.ce=j
 |_,_=>True
def Home (X:Fix mc):Nat->Ph->(Nat->Prop)->(Nat->Option Obj)->Goroutine->Prop
 |0,_,_,_,_=>True
 |n+1,l,E,M,g=>∀ (z:Nat->Option Nat) (Ch:Nat->Prop) (Stop:Goroutine->World->Prop) (cont:Addr->Value) (y:Value) (w v:World) (S:TS) (K:List (Nat×Int)) (t:Thr),Rel z v w->Ai Ch v->Mem z S K v->S.thr[X.i]? = some t->t.tb=X.tb->t.gc=X.gc->Fits X l t->Kb X K->z X.tb=some 2->cont ⟨X.tb,2,none⟩=.chan (some X.gc) ->
    Has M v->(∀ b,M b≠none->¬ Own S K b)->(resume X.i mc l (nv S) K).1.n*40<=140737488355328 ->
    (∀ g' w' E' M',Gives X (Home X n) z cont Ch S K v E (resume X.i mc l (nv S) K).1 (resume X.i mc l (nv S) K).2.1 (resume X.i mc l (nv S) K).2.2 E' M' g' w'->Stop g' w') ->
    GoesI Tryd.prog (X.h==0) (DT (ScZ z) Ch) Stop (Go.Conc.served g y) w
theorem J9 {K:World->Prop}{Still:Loc->Prop}{h c:Nat}{v:Value}{o:Option Seat}{F F':World->Prop}{a:Goroutine}{w:World}(hF:F w->F' w) (hg:Lift.AtGive Tryd.prog K Still h c v o F a w):Lift.AtGive Tryd.prog K Still h c v o F' a w :=
 ⟨hg.1,hF hg.2.1,hg.2.2⟩
section
variable {Pr Pr':Nat->Prop}{z:Nat->Option Nat}{S S' S'':TS}{K K' K'':List (Nat×Int)}{v v' v'':World}
theorem _root_.Go.Proofs.YtbbhahigofeacaaDoor.EvoP.join (h:EvoP Pr z S K v S' K' v') (k:EvoP Pr' z S' K' v' S'' K'' v'') (hp:∀ b,Pr' b->Pr b∨v.heap.size<=b):EvoP Pr z S K v S'' K'' v'':=by
 refine ⟨k.mem,k.blks.trans h.blks,⟨k.fr.os.trans h.fr.os,k.fr.output.trans h.fr.output,Qk h.fr.size k.fr.size,λx hx hs=>?_⟩,λb hb=>?_⟩
 .rw[k.fr.block x (Qp hx h.fr.size) (λhi=>?_),h.fr.block x hx hs]
  rcases hi with hi|hi;exact (h.new x hi).elim (λh=>hs (.inl h)) (λhle=>by omega);exact (hp x hi).elim (λh=>hs (.inr h)) (λhle=>by omega)
 .rcases k.new b hb with h1|h1
  exact h.new b h1;exact .inr (Qk h.fr.size h1)
theorem _root_.Go.Proofs.YtbbhahigofeacaaDoor.EvoP.keeps (h:EvoP Pr z S K v S' K' v') {b:Nat}(hb:b<v.heap.size) (ho:¬ Own S K b) (hp:¬ Pr b):v'.heap[b]? = v.heap[b]?∧¬ Own S' K' b :=
 ⟨h.fr.block b hb (λhi=>hi.elim ho hp),λhi=>(h.new b hi).elim ho (λhle=>by omega)⟩
theorem _root_.Go.Proofs.YtbbhahigofeacaaDoor.Grows.trans' {a b c:World}(h:Grows a b) (k:Grows b c):Grows a c:=⟨Qk h.size k.size,λx hx=>by rw[k.old x (Qp hx h.size),h.old x hx],k.os.trans h.os,k.output.trans h.output⟩
theorem Gives.join {X:Fix mc}{Hm:Ph->(Nat->Prop)->(Nat->Option Obj)->Goroutine->Prop}{cont:Addr->Value}{Ch:Nat->Prop}{E E1 E':Nat->Prop}{M':Nat->Option Obj}{σ:TS}{κ:List (Nat×Int)}{l':Ph}{g':Goroutine}{w':World}
 (h:EvoP (λb=>b=X.ab∨E b) z S K v S' K' v') (hbk:S'.bk=S.bk) (he:∀ b,E1 b->E b∨v.heap.size<=b) (k:Gives X Hm z cont Ch S' K' v' E1 σ κ l' E' M' g' w'):Gives X Hm z cont Ch S K v E σ κ l' E' M' g' w':=by
 obtain ⟨k1,k2,k3⟩:=k;rw[hbk] at k3;refine ⟨k1,λb hb=>?_,J9 (λhF=>?_) k3⟩
 .rcases k2 b hb with h1|h1
  exact he b h1;exact .inr (Qk h.fr.size h1)
 .obtain ⟨v2,S2,q1,q2,q3,q4,q5⟩:=hF
  refine ⟨v2,S2,q1,q2,q3,h.join q4 (λb hb=>?_),q5⟩;rcases hb with rfl|hb;exact .inl (.inl rfl);exact (he b hb).imp .inr id
end
def mind (X:Fix mc) (v:World) (b:Nat):Option Obj:=if X.Pr b then v.heap[b]? else none
def Iz (X:Fix mc) (v:World) (Mo:Nat->Option Obj) (b:Nat):Option Obj:=if Mo b≠none then Mo b else mind X v b
def CarryEnds (X:Fix mc) (cs:List Frame):Prop :=
 ∀ (z:Nat->Option Nat) (Ch:Nat->Prop) (Stop:Goroutine->World->Prop) (cont:Addr->Value) (w v:World) (S:TS) (K:List (Nat×Int)) (t:Thr) (sk:Bool) (u:Nat->Value),Rel z v w->Ai Ch v->Mem z S K v->S.thr[X.i]? = some t->t.tb=X.tb->v.cell? ⟨X.bb,0,none⟩=some (Pt X.tb 0)->¬ Own S K X.bb ->
   (∀ g w',GiveE z cont X.h S.bk (Then z Ch S K v (ended S X.i t) K) g w'->Stop g w') ->
   GoesI Tryd.prog (X.h==0) (DT (ScZ z) Ch) Stop (G (cFr X.tb X.csl X.F X.asl X.calls.length X.calls.length sk u) cs) w
def Answers (X:Fix mc) (cs:List Frame) (ii:Nat) (ans:List (Int×Int)) (cu:Value->Goroutine):Prop :=
 ∀ (z:Nat->Option Nat) (Ch:Nat->Prop) (Stop:Goroutine->World->Prop) (w v:World) (S:TS) (K:List (Nat×Int)) (t:Thr) (e x:Int),Rel z v w->Ai Ch v->Mem z S K v->S.thr[X.i]? = some t->t.tb=X.tb->(S.n+1)*40<=140737488355328->PM X ans v->(∀ b,X.Pr b->¬ Own S K b) ->
   (∀ v' w' tv u',Rel z v' w'->Ai Ch v'->EvoP (λb=>b=X.ab) z S K v (Bv S tv X.i 10 (-1) ii e) K v'->PM X (ans.set ii (e,x)) v'->GoesI Tryd.prog (X.h==0) (DT (ScZ z) Ch) Stop (G (cFr X.tb X.csl X.F X.asl X.calls.length (ii+1) (e==4) u') cs) w') ->
   GoesI Tryd.prog (X.h==0) (DT (ScZ z) Ch) Stop (cu (.agg #[I e,I x])) w
section
variable {X:Fix mc}{ans:List (Int×Int)}{v v':World}
theorem row_of_cell {a:Addr}{x:Value}(h:v.cell? a=some x):∃ c e f,v.heap[a.block]? = some (.cells c e f):=by
 unfold World.cell? at h;cases hh:v.heap[a.block]? with
 |none=>rw[hh] at h;cases h
 |some o =>
  rw[hh] at h;cases o with
  |cells c e f=>exact ⟨c,e,f,rfl⟩
  |_=>cases h
theorem PM.isrow (h:PM X ans v) (ok:X.Ok) (hb:X.Pr b):∃ c e f,v.heap[b]? = some (.cells c e f):=by
 have hbb:=row_of_cell h.box;rcases hb with rfl|rfl|rfl|hb;exact hbb
 .by_cases hc:X.calls.length=0
  rw[(ok.e0 hc).1];exact hbb
  .have h0:0<X.calls.length:=by omega
   exact row_of_cell (h.call 0 (X.calls[0]) (by simp[h0])).1
 .by_cases hc:X.calls.length=0
  rw[(ok.e0 hc).2];exact hbb;exact ⟨_,_,_,h.row (by omega)⟩
 .obtain ⟨o,ho⟩:=Option.ne_none_iff_exists'.1 hb
  obtain ⟨c,e,f,rfl⟩:=ok.pk b o ho;exact ⟨c,e,f,h.pk b _ ho⟩
theorem PM.lt (h:PM X ans v) (ok:X.Ok) (hb:X.Pr b):b<v.heap.size:=by obtain ⟨c,e,f,hh⟩:=h.isrow ok hb;exact (Qb hh).1
theorem mind_row (h:PM X ans v) (ok:X.Ok) {o:Obj}(hb:mind X v b=some o):∃ c e f,o=.cells c e f:=by
 unfold mind at hb;split at hb
 .rename_i hp
  obtain ⟨c,e,f,hh⟩:=h.isrow ok hp;rw[hh] at hb;cases hb;exact ⟨c,e,f,rfl⟩
 cases hb
theorem PM.set (h:PM X ans v) (hi:ii<X.calls.length) (e x:Int) (hab:v'.heap[X.ab]? = ((v.setCell ⟨X.ab,ii*2,none⟩ (I e)).setCell ⟨X.ab,ii*2+1,none⟩ (I x)).heap[X.ab]?) (hs:∀ b,X.Pr b->b≠X.ab->v'.heap[b]? = v.heap[b]?) (hne:X.ab≠X.bb∧X.ab≠X.rb∧X.pk X.ab=none):PM X (ans.set ii (e,x)) v':=by
 have h0:0<X.calls.length:=by omega
 have hc:∀ (a:Addr) (y:Value),X.Pr a.block->a.block≠X.ab->v.cell? a=some y->v'.cell? a=some y:=λa y hb hn ha=>by rw[World.cell?_of_block (hs a.block hb hn)];exact ha
 refine ⟨hc _ _ (.inl rfl) (Ne.symm hne.1) h.box,λk c hk=>?_,λ_=>?_,by simpa using h.len,λb o hb=>by rw[hs b (.inr (.inr (.inr (by rw[hb];simp)))) (λe=>by rw[e,hne.2.2] at hb;cases hb)];exact h.pk b o hb⟩
 .have:=h.call k c hk
  exact ⟨hc _ _ (.inr (.inl rfl)) (Ne.symm hne.2.1) this.1,hc _ _ (.inr (.inl rfl)) (Ne.symm hne.2.1) this.2.1,hc _ _ (.inr (.inl rfl)) (Ne.symm hne.2.1) this.2.2.1,hc _ _ (.inr (.inl rfl)) (Ne.symm hne.2.1) this.2.2.2⟩
 .rw[hab,heap_setCell_same (heap_setCell_same (h.row h0) (I e)) (I x),arow_set _ _ _ _ (by rw[h.len];exact hi)]
  simp
theorem PM.cells (h:PM X ans v) (hi:ii<X.calls.length):∃ y0 y1,v.cell? ⟨X.ab,ii*2,none⟩=some (I y0)∧v.cell? ⟨X.ab,ii*2+1,none⟩=some (I y1)∧v.frozen? ⟨X.ab,ii*2,none⟩=false∧v.frozen? ⟨X.ab,ii*2+1,none⟩=false:=by
 have h0:=h.row (by omega);have hl:ii<ans.length:=by rw[h.len];exact hi
 have:=arow_get ans ii ans[ii] (by simp[hl]);refine ⟨ans[ii].1,ans[ii].2,?_,?_,?_,?_⟩;simp[World.cell?,h0,this.1];simp[World.cell?,h0,this.2];simp[World.frozen?,h0];simp[World.frozen?,h0]
theorem has_mind (hl:∀ b,X.Pr b->b<v.heap.size) {M:Nat->Option Obj}(hM:∀ b o,mind X v b=some o->M b=some o) (h:Has M v'):∀ b,X.Pr b->v'.heap[b]? = v.heap[b]?:=λb hb=>by
 have e:v.heap[b]? = some v.heap[b]!:=by simp[hl b hb]
 rw[e];exact h b _ (hM b _ (by unfold mind;rw[if_pos hb,e]))
theorem sees_mind (h:PM X ans v) (ok:X.Ok):Sees X (λ_=>False) (mind X v) ans:=by
 refine ⟨λ_ h=>h.elim,λb hb=>?_,λ_ h=>h.elim,λv' hM=>h.stay (has_mind (λb hb=>h.lt ok hb) (λ_ _ h=>h) hM),λb hb=>?_,λb o hb=>mind_row h ok hb⟩
 .unfold mind at hb
  split at hb;exact .inl ‹_›;exact absurd rfl hb
 .unfold mind
  rw[if_pos hb];simp[h.lt ok hb]
theorem sees_mindO (h:PM X ans v) (ok:X.Ok) {Mo:Nat->Option Obj}(h1:∀ b,Mo b≠none->¬ X.Pr b) (h2:∀ b o,Mo b=some o->∃ c e f,o=.cells c e f):Sees X (λb=>Mo b≠none) (Iz X v Mo) ans:=by
 refine ⟨λb hb=>?_,λb hb=>?_,λb hb hp=>h1 b hb hp,λv' hM=>h.stay (has_mind (λb hb=>h.lt ok hb) (λb o hb=>?_) hM),λb hb=>?_,λb o hb=>?_⟩;unfold Iz;rw[if_pos hb];exact hb
 .unfold Iz at hb
  split at hb;exact .inr ‹_›
  .unfold mind at hb
   split at hb;exact .inl ‹_›;exact absurd rfl hb
 .unfold Iz
  have hpr:X.Pr b:=by unfold mind at hb;split at hb;assumption;cases hb
  rw[if_neg (λe=>h1 b e hpr)];exact hb
 .unfold Iz mind
  rw[if_neg (λe=>h1 b e hb),if_pos hb];simp[h.lt ok hb]
 .unfold Iz at hb
  split at hb;exact h2 b o hb;exact mind_row h ok hb
end
end Go.Proofs.YtbbhahigofeacaaDoor.Gen
namespace Go.Proofs.YtbbhahigofeacaaDoor.Gen
open Go Go.Lift Go.Conc Go.RowKit
open Go.ConcN (upd upd_same upd_ne)
variable {t:Thr} {c i:Nat} {u:Nat->Value} {cs:List Frame}
variable {mc:Mc}
def FitsN:Ph->Thr->Prop
 |.turn op j _ _ _ _,t=>t.op=op∧t.ce=j
 |.wait _ _ _ _ _,_=>True
 |.done _,t=>t.st=3
theorem FitsN.fits {X:Fix mc}{l:Ph}(h:FitsN l t):Fits X l t:=by
 match l,h with
 |.turn _ _ _ _ _ _,h=>exact h
 |.wait _ _ _ _ _,_=>trivial
 |.done _,_=>trivial
def StN:Ph->Thr->Prop
 |.turn _ _ _ _ _ _,t=>t.st=1
 |.wait _ _ _ _ _,t=>t.st=2
 |.done _,t=>t.st=3
theorem Hu {S:TS}{t':Thr}(ht:S.thr[i]? = some t):(S.thr.set i t')[i]? = some t':=by have hi:i<S.thr.length:=(Qc ht).1;rw[Qq,if_pos rfl,if_pos hi]
theorem did_thr {S:TS}{tv:Value}{t0:Thr}{b a:Int}(ht:S.thr[i]? = some t0):(didS S tv i t b a).thr[i]? = some t0:=by unfold didS;split<;>exact ht
theorem flow_fs (i:Nat) (m:Mc):∀ (rest:List Cl) (ii:Nat) (sk:Bool) (ans:List (Int×Int)) (S:TS) (t:Thr),S.thr[i]? = some t->∃ t',(flow i m rest ii sk ans S).1.thr[i]? = some t'∧FitsN (flow i m rest ii sk ans S).2 t'∧StN (flow i m rest ii sk ans S).2 t'
 | [],ii,sk,ans,S,t,ht=>⟨{ thrI S i with st:=3 },Hu ht,rfl,rfl⟩
 |c :: rest,ii,true,ans,S,t,ht=>flow_fs i m rest (ii+1) true _ S t ht
 |c :: rest,ii,false,ans,S,t,ht=>by unfold flow;split;exact flow_fs i m rest (ii+1) _ _ _ t ht;exact ⟨_,Hu (S:=Bv S undef i 9 (-1) ii 0) ht,⟨rfl,rfl⟩,rfl⟩;exact ⟨_,Hu (S:=Bv S undef i 9 (-1) ii 0) ht,trivial,rfl⟩
theorem on_fs (i:Nat) (m:Mc) (rest:List Cl) (ii:Nat) (ans:List (Int×Int)) (S:TS) (K:List (Nat×Int)) (x:Nx) (t:Thr) (ht:S.thr[i]? = some t):∃ t',(on i m rest ii ans S K x).1.thr[i]? = some t'∧FitsN (on i m rest ii ans S K x).2.2 t'∧StN (on i m rest ii ans S K x).2.2 t':=by
 cases x with
 |ans e x=>exact flow_fs i m rest (ii+1) _ _ (Bv S undef i 10 (-1) ii e) t ht
 |turn op j q=>exact ⟨_,Hu ht,⟨rfl,rfl⟩,rfl⟩
 |wait j q=>exact ⟨_,Hu ht,trivial,rfl⟩
theorem resume_fs (i:Nat) (m:Mc) (S:TS) (K:List (Nat×Int)) (t:Thr) (ht:S.thr[i]? = some t) (l:Ph) (hl:∀ a,l≠.done a):∃ t',(resume i m l S K).1.thr[i]? = some t'∧FitsN (resume i m l S K).2.2 t'∧StN (resume i m l S K).2.2 t':=by
 match l,hl with
 |.turn op j q rest ii ans,_=>rw[Gn];exact on_fs _ _ _ _ _ _ _ _ t (by rw[(Ic _ _).1];exact did_thr ht)
 |.wait j q rest ii ans,_ =>rw[Gm];split;exact on_fs _ _ _ _ _ _ _ _ t ht;exact on_fs _ _ _ _ _ _ _ _ t ht
 |.done a,hl=>exact absurd rfl (hl a)
structure PSt where
 S:TS
 K:List (Nat×Int)
 l:Nat->Ph
def D6 (S:TS):Nat:=((Aq S S.thr.length)[Gf S (Aq S S.thr.length)]?).getD 0
def Fv (nk:Mc) (p:PSt):Option PSt :=
 if Aq p.S p.S.thr.length=[] then
  if Di p.S p.S.thr.length then some ⟨stuckS p.S undef,p.K,p.l⟩ else none
 else
  some ⟨(resume (D6 p.S) nk (p.l (D6 p.S)) (going p.S (D6 p.S) (thrI p.S (D6 p.S))) p.K).1,(resume (D6 p.S) nk (p.l (D6 p.S)) (going p.S (D6 p.S) (thrI p.S (D6 p.S))) p.K).2.1,upd p.l (D6 p.S) (resume (D6 p.S) nk (p.l (D6 p.S)) (going p.S (D6 p.S) (thrI p.S (D6 p.S))) p.K).2.2⟩
section
variable {z:Nat->Option Nat}{Ch:Nat->Prop}{cont:Addr->Value}{v w:World}{c:Nat}
theorem kc_chan (hz:z c=none) (h:KC (ScZ z) cont w) (cap:Nat) (buf:Array Value) (cl:Bool) (a b:Nat) (tm:Bool):KC (ScZ z) cont (w.setChan c cap buf cl a b tm):=λx hx=>by
 have hne:c≠x.block:=λe=>by rw[e,hx.2] at hz;cases hz
 rw[World.cell?_of_block (heap_setChan_ne w cap buf cl a b tm hne)];exact h x hx
theorem rel_chan (hr:Rel z v w) (hz:z c=none) (cap:Nat) (buf:Array Value) (cl:Bool) (a b:Nat) (tm:Bool) (d:Nat):Rel z (v.setChan c cap buf cl a b tm) ((w.at d).setChan c cap buf cl a b tm):=by
 refine ⟨λr=>?_,λr n x e f hzr hh=>?_,λr n hzr=>by simpa [World.setChan] using hr.low r n hzr,hr.os,hr.output⟩
 .by_cases e:c=r
  .subst e
   rw[hz];have hs:=hr.size;by_cases hlt:c<v.heap.size
   .have hlw:c<(w.at d).heap.size:=by show c<w.heap.size;omega
    rw[heap_setChan_self (w.at d) (Qm hlw),heap_setChan_self v (Qm hlt)];rfl
   .have:¬ c<w.heap.size:=by omega
    simp[World.setChan,World.at,hlt,this]
  .rw[heap_setChan_ne _ _ _ _ _ _ _ e,heap_setChan_ne _ _ _ _ _ _ _ e]
   exact hr.heap r
 .have hne:c≠r:=λe=>by rw[e,hzr] at hz;cases hz
  rw[heap_setChan_ne _ _ _ _ _ _ _ hne] at hh;exact hr.kept r n x e f hzr hh
theorem has_chan {M:Nat->Option Obj}(h:Has M v) (hrow:∀ b o,M b=some o->∃ x e f,o=.cells x e f) (hc:∃ o,v.heap[c]? = some o∧∀ x e f,o≠.cells x e f) (cap:Nat) (buf:Array Value) (cl:Bool) (a b:Nat) (tm:Bool):Has M (v.setChan c cap buf cl a b tm):=λy o ho=>by
 have hne:c≠y:=λe=>by subst e;obtain ⟨x,e,f,rfl⟩:=hrow _ o ho;obtain ⟨o',h1,h2⟩:=hc;rw[h _ _ ho] at h1;cases h1;exact h2 _ _ _ rfl
 rw[heap_setChan_ne _ _ _ _ _ _ _ hne];exact h y o ho
end
variable {mc:Mc}
section
variable {Wr:Nat->Prop}{z:Nat->Option Nat}{S S':TS}{K K':List (Nat×Int)}{v v':World}
theorem _root_.Go.Proofs.YtbbhahigofeacaaDoor.Mem.row (h:Mem z S K v) {b:Nat}(hb:Own S K b):∃ c e f,v.heap[b]? = some (.cells c e f):=by
 have own:∀ {base:Nat} {e:TypeId} {size:Nat} {x:Value} {n:Nat} {xs:List Value},v.ownsRow base e size x n xs->x.ownBlock=some b->∃ c e f,v.heap[b]? = some (.cells c e f):=λ{base e size x n xs} ho hx=>by
  rcases ho.2 with ⟨rfl,_⟩|⟨g,cap,cur,rfl,_,h3,_⟩
  cases hx
  .cases Qd hx
   exact ⟨_,_,_,h3⟩
 rcases hb with ⟨k,hk⟩|⟨j,c,hc,rfl⟩
 .match k,hk with
  |0,hk=>cases hk;exact ⟨_,_,_,h.rep.wor⟩
  |1,hk=>exact own h.rep.chg hk
  |2,hk=>exact own h.rep.ths hk
  |3,hk=>exact own h.rep.own hk
  |4,hk=>exact own h.rep.sch hk
  |k+5,hk =>simp only[blk,Option.map_eq_some_iff] at hk;obtain ⟨t,ht,rfl⟩:=hk;exact ⟨_,_,_,h.rep.thr k t ht⟩
 exact ⟨_,_,_,h.cel j c hc⟩
theorem keepM (he:EvoP Wr z S K v S' K' v') {M:Nat->Option Obj}(hM:Has M v) (hfar:∀ b,M b≠none->¬ Own S K b) (hd:∀ b,M b≠none->¬ Wr b):Has M v'∧∀ b,M b≠none->¬ Own S' K' b:=by have k:∀ b o,M b=some o->v'.heap[b]? = v.heap[b]?∧¬ Own S' K' b:=λb o hb=>he.keeps (Qb (hM b o hb)).1 (hfar b (by rw[hb];simp)) (hd b (by rw[hb];simp));refine ⟨λb o hb=>by rw[(k b o hb).1];exact hM b o hb,λb hb=>?_⟩;obtain ⟨o,ho⟩:=Option.ne_none_iff_exists'.1 hb;exact (k b o ho).2
theorem Has.lt {M:Nat->Option Obj}(hM:Has M v) {b:Nat}(hb:M b≠none):b<v.heap.size:=by obtain ⟨o,ho⟩:=Option.ne_none_iff_exists'.1 hb;exact (Qb (hM b o ho)).1
end
structure Keep where
 M:Nat->Option Obj
 os:Os
 out:Array (Nat×ByteArray)
theorem has_ne {v:World}{M:Nat->Option Obj}(h:Has M v) (hne:∀ b,M b≠none->b≠c) (cap:Nat) (buf:Array Value) (cl:Bool) (a b:Nat) (tm:Bool):Has M (v.setChan c cap buf cl a b tm):=λy o ho=>by rw[heap_setChan_ne _ _ _ _ _ _ _ (λe=>hne y (by rw[ho];simp) e.symm)];exact h y o ho
def Open (v:World) (c:Nat):Prop:=∃ cap n,v.heap[c]? = some (.chan cap #[] false n n false)
structure Crew (k:Nat) (X:Nat->Fix mc) (l:Nat->Ph) (E:Nat->Nat->Prop) (M:Nat->Nat->Option Obj) (Mm:Keep) (z:Nat->Option Nat) (cont:Addr->Value) (Ch:Nat->Prop) (S:TS) (K:List (Nat×Int)) (v:World) (gsz:Nat):Prop where
 len:k<=S.thr.length
 pat:∀ i,i<k->PhAt mc (l i)
 ok:∀ i,i<k->(X i).Ok∧(X i).i=i∧Kb (X i) K
 thr:∀ i,i<k->∃ t,S.thr[i]? = some t∧t.tb=(X i).tb∧t.gc=(X i).gc∧FitsN (l i) t
 hinj:∀ i j,i<k->j<k->(X i).h=(X j).h->i=j
 ginj:∀ i j,i<k->j<k->(X i).gc=(X j).gc->i=j
 gbk:∀ i,i<k->(X i).gc≠S.bk
 hlt:∀ i,i<k->(X i).h<gsz
 zs:∀ i,i<k->z (X i).tb=some 2∧cont ⟨(X i).tb,2,none⟩=.chan (some (X i).gc)∧Ch (X i).gc
 z0:z S.wb=some 8∧cont ⟨S.wb,8,none⟩=.chan (some S.bk)∧Ch S.bk
 zc:∀ c,Ch c->z c=none
 opn:∀ c,Ch c->Open v c
 sees:∀ i,i<k->Sees (X i) (E i) (M i) (l i).ans∧Has (M i) v∧∀ b,M i b≠none->¬ Own S K b
 apart:∀ i j,i<k->j<k->i≠j->∀ b,M j b≠none->¬ (b=(X i).ab∨E i b)
 mine:Has Mm.M v∧(∀ b,Mm.M b≠none->¬ Own S K b)∧(∀ b,Mm.M b≠none->¬ Ch b)∧(∀ i,i<k->∀ b,Mm.M b≠none->¬ (b=(X i).ab∨E i b))∧v.os=Mm.os∧v.output=Mm.out
section
variable {k:Nat}{X:Nat->Fix mc}{l:Nat->Ph}{E:Nat->Nat->Prop}{M:Nat->Nat->Option Obj}{Mm:Keep}{z:Nat->Option Nat}{cont:Addr->Value}{Ch:Nat->Prop}{S S':TS}{K K':List (Nat×Int)}{v v':World}{gsz:Nat}
theorem Crew.noRow (h:Crew k X l E M Mm z cont Ch S K v gsz):Ai Ch v:=λc hc=>by obtain ⟨cap,n,hh⟩:=h.opn c hc;exact ⟨_,hh,λ_ _ _ e=>by cases e⟩
theorem Crew.abM (h:Crew k X l E M Mm z cont Ch S K v gsz) (hi:i<k) {b:Nat}(hb:b=(X i).ab∨E i b):M i b≠none:=by rcases hb with rfl|hb;exact (h.sees i hi).1.pr _ (.inr (.inr (.inl rfl)));exact (h.sees i hi).1.ex _ hb
theorem Ky {Wr:Nat->Prop}(hm:Mem z S K v) (he:EvoP Wr z S K v S' K' v') (ho:Open v c) (hw:∀ b,Wr b->∃ x e f,v.heap[b]? = some (.cells x e f)):Open v' c:=by
 obtain ⟨cap,n,hh⟩:=ho;refine ⟨cap,n,?_⟩;rw[(he.keeps (b:=c) (Qb hh).1 (λh=>?_) (λh=>?_)).1,hh]
 .obtain ⟨x,e,f,h1⟩:=hm.row h
  rw[hh] at h1;cases h1
 .obtain ⟨x,e,f,h1⟩:=hw c h
  rw[hh] at h1;cases h1
theorem Crew.chan (h:Crew k X l E M Mm z cont Ch S K v gsz) (hc:Ch c) (cap n:Nat):Crew k X l E M Mm z cont Ch S K (v.setChan c cap #[] false n n false) gsz:=by
 obtain ⟨o,ho,hno⟩:=h.noRow c hc;refine ⟨h.len,h.pat,h.ok,h.thr,h.hinj,h.ginj,h.gbk,h.hlt,h.zs,h.z0,h.zc,λc' hc'=>?_,λi hi=>?_,h.apart,?_⟩
 .by_cases e:c=c'
  .subst e
   exact ⟨cap,n,heap_setChan_self v ho cap #[] false n n false⟩
  .obtain ⟨cp,m,hh⟩:=h.opn c' hc'
   exact ⟨cp,m,by rw[heap_setChan_ne _ _ _ _ _ _ _ e];exact hh⟩
 .have:=h.sees i hi
  exact ⟨this.1,has_chan this.2.1 this.1.row ⟨o,ho,hno⟩ cap #[] false n n false,this.2.2⟩
 exact ⟨has_ne h.mine.1 (λb hb e=>h.mine.2.2.1 b hb (e▸hc)) cap #[] false n n false,h.mine.2⟩
theorem Crew.main (h:Crew k X l E M Mm z cont Ch S K v gsz) (hm:Mem z S K v) (he:Evo z S K v S' K v') (hwb:S'.wb=S.wb) (hbk:S'.bk=S.bk) (hlen:S'.thr.length=S.thr.length)
 (ht:∀ (i:Nat) (t:Thr),S.thr[i]? = some t->∃ t':Thr,S'.thr[i]? = some t'∧t'.tb=t.tb∧t'.gc=t.gc∧t'.op=t.op∧t'.ce=t.ce∧(t.st=3->t'.st=3)):Crew k X l E M Mm z cont Ch S' K v' gsz:=by
 have hp:EvoP (λ_=>False) z S K v S' K v':=he.toP;refine ⟨by rw[hlen];exact h.len,h.pat,h.ok,λi hi=>?_,h.hinj,h.ginj,λi hi=>by rw[hbk];exact h.gbk i hi,h.hlt,h.zs,by rw[hwb,hbk];exact h.z0,h.zc,λc hc=>Ky hm hp (h.opn c hc) (λ_ h=>h.elim),λi hi=>?_,h.apart,?_⟩
 .obtain ⟨t,h1,h2,h3,h4⟩:=h.thr i hi
  obtain ⟨t',k1,k2,k3,k4,k5,k6⟩:=ht i t h1;refine ⟨t',k1,k2.trans h2,k3.trans h3,?_⟩
  match hl:l i,h4 with
  |.turn _ _ _ _ _ _,h4=>exact ⟨k4.trans h4.1,k5.trans h4.2⟩
  |.wait _ _ _ _ _,h4=>exact h4
  |.done _,h4=>exact k6 h4
 .have:=h.sees i hi
  exact ⟨this.1,keepM hp this.2.1 this.2.2 (λ_ _ h=>h)⟩
 .have:=keepM hp h.mine.1 h.mine.2.1 (λ_ _ h=>h)
  exact ⟨this.1,this.2,h.mine.2.2.1,h.mine.2.2.2.1,he.fr.os.trans h.mine.2.2.2.2.1,he.fr.output.trans h.mine.2.2.2.2.2⟩
theorem Crew.thread (h:Crew k X l E M Mm z cont Ch S K v gsz) (hm:Mem z S K v) (hi:i<k) (he:EvoP (λb=>b=(X i).ab∨E i b) z S K v S' K' v') (hst:Sta i S S') {l':Ph}{E':Nat->Prop}{M':Nat->Option Obj}
 (hfit:∃ t',S'.thr[i]? = some t'∧FitsN l' t') (hs:Sees (X i) E' M' l'.ans) (hM':Has M' v') (hfar:∀ b,M' b≠none->¬ Own S' K' b) (hnew:∀ b,E' b->E i b∨v.heap.size<=b) (hkk:KOk mc K') (hat:PhAt mc l'):
 Crew k X (upd l i l') (upd E i E') (upd M i M') Mm z cont Ch S' K' v' gsz:=by
 have hlt:∀ j,j<k->∀ b,M j b≠none->b<v.heap.size:=λj hj b hb=>(h.sees j hj).2.1.lt hb;have hrow:∀ b,(b=(X i).ab∨E i b)->∃ x e f,v.heap[b]? = some (.cells x e f):=λb hb=>by obtain ⟨o,ho⟩:=Option.ne_none_iff_exists'.1 (h.abM hi hb);obtain ⟨x,e,f,rfl⟩:=(h.sees i hi).1.row b o ho;exact ⟨x,e,f,(h.sees i hi).2.1 b _ ho⟩
 have hdom:∀ b,M' b≠none->M i b≠none∨v.heap.size<=b:=λb hb=>by
  rcases hs.dom b hb with h1|h1;exact .inl ((h.sees i hi).1.pr b h1)
  .rcases hnew b h1 with h2|h2
   exact .inl ((h.sees i hi).1.ex b h2);exact .inr h2
 refine ⟨by rw[hst.len];exact h.len,λj hj=>(by
  by_cases e:j=i
  .subst e;rw[upd_same];exact hat
  rw[upd_ne _ _ e];exact h.pat j hj),λj hj=>⟨(h.ok j hj).1,(h.ok j hj).2.1,he.blks.trans (h.ok j hj).2.2.1,hkk⟩,λj hj=>?_,h.hinj,h.ginj,λj hj=>by rw[hst.bk];exact h.gbk j hj,h.hlt,h.zs,by rw[hst.wb,hst.bk];exact h.z0,h.zc,λc hc=>Ky hm he (h.opn c hc) hrow,λj hj=>?_,λa j ha hj hne b hb hx=>?_,?_⟩
 .obtain ⟨t,h1,h2,h3,h4⟩:=h.thr j hj
  by_cases e:j=i
  .subst e
   obtain ⟨t',k1,k2⟩:=hfit;obtain ⟨t2,q1,q2,q3⟩:=hst.own t h1;rw[k1] at q1;cases q1;exact ⟨t',k1,q2.trans h2,q3.trans h3,by rw[upd_same];exact k2⟩
  exact ⟨t,by rw[hst.oth j e];exact h1,h2,h3,by rw[upd_ne _ _ e];exact h4⟩
 .by_cases e:j=i
  .subst e
   rw[upd_same,upd_same,upd_same];exact ⟨hs,hM',hfar⟩
  .rw[upd_ne _ _ e,upd_ne _ _ e,upd_ne _ _ e]
   have:=h.sees j hj;exact ⟨this.1,keepM he this.2.1 this.2.2 (h.apart i j hi hj (λe'=>e e'.symm))⟩
 .by_cases e1:j=i
  .subst e1
   rw[upd_same] at hb;have hne':a≠j:=hne;rw[upd_ne _ _ hne'] at hx;rcases hdom b hb with h1|h1;exact h.apart a j ha hj hne b h1 hx
   .have:=hlt a ha b (h.abM ha hx)
    omega
  .rw[upd_ne _ _ e1] at hb
   by_cases e2:a=i
   .subst e2
    rw[upd_same] at hx;rcases hx with h1|h1;exact h.apart a j ha hj hne b hb (.inl h1)
    .rcases hnew b h1 with h2|h2
     exact h.apart a j ha hj hne b hb (.inr h2);have:=hlt j hj b hb;omega
   .rw[upd_ne _ _ e2] at hx
    exact h.apart a j ha hj hne b hb hx
 .have:=keepM he h.mine.1 h.mine.2.1 (h.mine.2.2.2.1 i hi)
  refine ⟨this.1,this.2,h.mine.2.2.1,λa ha b hb hx=>?_,he.fr.os.trans h.mine.2.2.2.2.1,he.fr.output.trans h.mine.2.2.2.2.2⟩;by_cases e2:a=i
  .subst e2
   rw[upd_same] at hx;rcases hx with h1|h1;exact h.mine.2.2.2.1 a ha b hb (.inl h1)
   .rcases hnew b h1 with h2|h2
    exact h.mine.2.2.2.1 a ha b hb (.inr h2);have:=h.mine.1.lt hb;omega
  .rw[upd_ne _ _ e2] at hx
   exact h.mine.2.2.2.1 a ha b hb hx
end
structure Seats (k N:Nat) (X:Nat->Fix mc) (l:Nat->Ph) (E:Nat->Nat->Prop) (M:Nat->Nat->Option Obj) (bk:Nat) (Inb:Nat->Option Seat):Prop where
 seat:∀ i,i<k->∃ n,N<=n∧Inb (X i).h=seatOf (X i) (Home (X i) n) (l i) (E i) (M i)
 none:∀ g,g≠0->(∀ i,i<k->(X i).h≠g)->Inb g=none
 main:∀ s c,Inb 0=some s->s.has c->c=bk
section
variable {k N:Nat}{X:Nat->Fix mc}{l:Nat->Ph}{E:Nat->Nat->Prop}{M:Nat->Nat->Option Obj}{bk:Nat}{Inb:Nat->Option Seat}
theorem Jd {Y:Fix mc}{Hm:Ph->(Nat->Prop)->(Nat->Option Obj)->Goroutine->Prop}{p:Ph}{e:Nat->Prop}{m:Nat->Option Obj}{s:Seat}(h:seatOf Y Hm p e m=some s):s=seatT Y.gc (Hm p e m)∧∀ a,p≠.done a:=by
 cases p with
 |turn=>cases h;exact ⟨rfl,λ_ h=>by cases h⟩
 |wait=>cases h;exact ⟨rfl,λ_ h=>by cases h⟩
 |done=>cases h
theorem Seats.who (h:Seats k N X l E M bk Inb) {g:Nat}{s:Seat}(hg:Inb g=some s) (hc:s.has c):(g=0∧c=bk)∨∃ i,i<k∧(X i).h=g∧c=(X i).gc:=by
 by_cases e0:g=0
 .subst e0
  exact .inl ⟨rfl,h.main s c hg hc⟩
 .by_cases hx:∃ i,i<k∧(X i).h=g
  .obtain ⟨i,hi,rfl⟩:=hx
   obtain ⟨n,_,hs⟩:=h.seat i hi;rw[hs] at hg;obtain ⟨rfl,_⟩:=Jd hg;exact .inr ⟨i,hi,rfl,Seat.one_has.1 hc⟩
  .rw[h.none g e0 (λi hi e=>hx ⟨i,hi,e⟩)] at hg
   cases hg
end
variable {mc:Mc}
def HomeT (wb:Nat) (cs:List Frame) (g:Goroutine):Prop:=∀ (z:Nat->Option Nat) (Ch:Nat->Prop) (Stop:Goroutine->World->Prop) (x:Value) (w:World),(∀ u,GoT z true Ch Stop (G (tFr wb u) cs) w)->GoT z true Ch Stop (Go.Conc.served g x) w
theorem atGive_at {K:World->Prop}{Still:Loc->Prop}{h:Nat}{v:Value}{o:Option Seat}{F:World->Prop}{a:Goroutine}{w:World}(hF:∀ d,F w->F (w.at d)) (hg:Lift.AtGive Tryd.prog K Still h c v o F a w) (d:Nat):Lift.AtGive Tryd.prog K Still h c v o F a (w.at d):=by obtain ⟨h1,h2,a₂,z,es,nh,B₀,hB,hs,rest⟩:=hg;exact ⟨h1,hF d h2,a₂,z,es,nh,B₀,hB,λd'=>hs d',rest⟩
structure Holds (k N:Nat) (X:Nat->Fix mc) (l:Nat->Ph) (E:Nat->Nat->Prop) (M:Nat->Nat->Option Obj) (Mm:Keep) (z:Nat->Option Nat) (cont:Addr->Value) (Ch:Nat->Prop) (S:TS) (K:List (Nat×Int)) (v:World) (B:Nat) (Mb:Nat->Prop) (Inb:Nat->Option Seat) (h:Nat) (T:Trace) (gs:Array Goroutine) (w:World) (q:Nat->Nat):Prop where
 ring:Ring Tryd.prog (KC (ScZ z) cont) (Gj (ScZ z)) B Mb Inb h T gs w q
 mb:Mb h
 b:B<=w.heap.size
 rel:Rel z v w
 mem:Mem z S K v
 crew:Crew k X l E M Mm z cont Ch S K v gs.size
 seats:Seats k N X l E M S.bk Inb
 len:S.thr.length=k
 stt:∀ i,i<k->∀ t,S.thr[i]? = some t->StN (l i) t
section
variable {k N:Nat}{X:Nat->Fix mc}{l:Nat->Ph}{E:Nat->Nat->Prop}{M:Nat->Nat->Option Obj}{Mm:Keep}{z:Nat->Option Nat}{cont:Addr->Value}{Ch:Nat->Prop}{S:TS}{K:List (Nat×Int)}{v:World}{B:Nat}{Mb:Nat->Prop}{Inb:Nat->Option Seat}{h:Nat}{T:Trace}{gs:Array Goroutine}{w:World}{q:Nat->Nat}
theorem seat_ch {gsz:Nat}(cr:Crew k X l E M Mm z cont Ch S K v gsz) (st:Seats k N X l E M S.bk Inb):∀ g s c,Inb g=some s->s.has c->Ch c:=λg s c hg hc=>by
 rcases st.who hg hc with ⟨_,rfl⟩|⟨i,hi,_,rfl⟩
 exact cr.z0.2.2;exact (cr.zs i hi).2.2
theorem open_rel {v' w':World}(hr:Rel z v' w') (hn:Ai Ch v') (hc:Ch c) (ho:Open v' c):∃ cap k,w'.heap[c]? = some (.chan cap #[] false k k false):=by obtain ⟨cap,n,hh⟩:=ho;exact ⟨cap,n,by rw[I8 hr hn hc];exact hh⟩
theorem rdy_mem (hi:(Aq S S.thr.length)[Gf S (Aq S S.thr.length)]? = some i):i<S.thr.length∧(S.thr[i]?).any (rdy S)=true:=by have:=List.mem_of_getElem? hi;unfold Aq at this;rw[List.mem_filter,List.mem_range] at this;exact this
theorem round_go (H:Holds k (N+1) X l E M Mm z cont Ch S K v B Mb Inb 0 T gs w q) (hg:gs[0]? = some (G (tFr S.wb u) cs)) (h8:k<=8) (hsl:S.sched.length<=4611686018427387904) (hsc:∀ x∈S.sched,-9223372036854775808<=x∧x<9223372036854775808)
 (hi:(Aq S S.thr.length)[Gf S (Aq S S.thr.length)]? = some i) (sl:Option (Nat×Nat)) (hl:(resume i mc (l i) (nv (going S i (thrI S i))) K).1.n*40<=140737488355328):
 ∃ (N':Nat) (gs':Array Goroutine) (w':World) (sl':Option (Nat×Nat)) (T':Trace) (q':Nat->Nat) (B':Nat) (Mb':Nat->Prop) (Inb':Nat->Option Seat) (S':TS) (v':World) (E':Nat->Nat->Prop) (M':Nat->Nat->Option Obj) (u':Nat->Value),
   runNT Tryd.prog N' (crowd gs w sl) T=(.next (crowd gs' w' sl'),T')∧gs'.size=gs.size∧gs'[0]? = some (G (tFr S'.wb u') cs)∧nv S'=(resume i mc (l i) (nv (going S i (thrI S i))) K).1 ∧
   Holds k N X (upd l i (resume i mc (l i) (nv (going S i (thrI S i))) K).2.2) E' M' Mm z cont Ch S' (resume i mc (l i) (nv (going S i (thrI S i))) K).2.1 v' B' Mb' Inb' 0 T' gs' w' q':=by
 have cr:=H.crew;have st:=H.seats;obtain ⟨hik,hrd⟩:=rdy_mem hi;rw[H.len] at hik;obtain ⟨t,ht,htb,hgc,hfit⟩:=cr.thr i hik;obtain ⟨ok,hXi,hXk⟩:=cr.ok i hik;have hst3:t.st≠3:=by rw[ht] at hrd;simp only[Option.any_some] at hrd;intro e;unfold rdy at hrd;rw[e] at hrd;simp at hrd
 have eth:thrI S i=t:=E0 ht;rw[eth] at hl ⊢;have h0h:0≠(X i).h:=λe=>by have:=ok.h;omega
 obtain ⟨n,hn,hseat⟩:=st.seat i hik;obtain ⟨n',rfl⟩:∃ n',n=n'+1:=⟨n - 1,by omega⟩
 have hcons:∀ a,l i≠.done a:=λa e=>by rw[e] at hfit;exact hst3 hfit
 have hseat':Inb (X i).h=some (seatT (X i).gc (Home (X i) (n'+1) (l i) (E i) (M i))):=by
  rw[hseat]
  match hli:l i,hcons with
  |.turn _ _ _ _ _ _,_=>rfl
  |.wait _ _ _ _ _,_=>rfl
  |.done a,hc=>exact absurd rfl (hc a)
 have hG:GoesI Tryd.prog ((0:Nat)==0) (DT (ScZ z) Ch) (Lift.AtGive Tryd.prog (KC (ScZ z) cont) (Gj (ScZ z)) 0 t.gc (.agg #[]) (some (Seat.one S.bk (.agg #[]) false (HomeT S.wb cs))) (Then z Ch S K v (going S i t) K)) (G (tFr S.wb u) cs) w :=
  turn_in u cs (λbd ad od qd rd oe kd hoe hT hF code hcode=>turn50_goes cs (HomeT S.wb cs) hoe (λg hb z Ch Stop x w h=>hb _ Stop x w (Ag _ _) (hT z Ch Stop w h)) H.rel cr.noRow H.mem (by rw[H.len];exact h8) hsl hsc (List.length_pos_of_mem (List.mem_of_getElem? hi)) hi ht cr.z0.1 cr.z0.2.1 (λg w' hg=>hg) code hcode)
 rw[hgc] at hG;have hch0:=seat_ch cr st;have hup0:∀ g s c,upd Inb 0 (some (Seat.one S.bk (.agg #[]) false (HomeT S.wb cs))) g=some s->s.has c->Ch c:=λg s c hg hc=>by
  by_cases e:g=0
  .subst e;rw[upd_same] at hg;cases hg
   rw[Seat.one_has.1 hc];exact cr.z0.2.2
  rw[upd_ne _ _ e] at hg;exact hch0 g s c hg hc
 obtain ⟨N1,gs1,w1,g₂,d,kk,cap,sl1,T1,q1,B1,r1,⟨v1,hr1,hn1,he1⟩,z1,h1,hh,hch,⟨hB1,hB1b,hB1c⟩,C1⟩:=pass_on (Inb:=Inb) (Mem:=Mb) (h:=0) (j:=(X i).h) (c:=(X i).gc) (kk:=0) (z:=.agg #[]) (λw d h=>Je w d h)
  (λs hs=>by
    cases hs;refine ⟨Seat.one_wf _ _ _ _,λg s' c hg hs' hc hc'=>?_,λw' hF c hc=>?_⟩
    .rw[Seat.one_has.1 hc'] at hc
     rcases st.who hs' hc with ⟨e,_⟩|⟨j,hj,_,e⟩
     exact hg e;exact cr.gbk j hj e.symm
    .obtain ⟨v1,k1,k2,k3⟩:=hF
     rw[Seat.one_has.1 hc];exact open_rel k1 k2 cr.z0.2.2 (Ky H.mem (Evo.toP (Pr:=λ_=>False) k3) (cr.opn _ cr.z0.2.2) (λ_ h=>h.elim)))
  (λw g s c cap buf cl a b tm hg hc hK=>kc_chan (cr.zc c (hup0 g s c hg hc)) hK cap buf cl a b tm)
  (λw g s c cap buf cl a b tm hg hc hK=>kc_chan (cr.zc c (hch0 g s c hg hc)) hK cap buf cl a b tm)
  (Eb hch0) (Ne.symm h0h) hseat' rfl H.mb hG gs sl T q B (cr.hlt i hik) hg H.ring
 have hgCh:=(cr.zs i hik).2.2;have hS1:(going S i t).wb=S.wb∧(going S i t).bk=S.bk∧(going S i t).thr=S.thr.set i { t with st:=0 }:=by unfold going picked;split<;>exact ⟨rfl,rfl,rfl⟩
 have ht1:(going S i t).thr[i]? = some { t with st:=0 }:=by rw[hS1.2.2];exact Hu ht
 have cr1:Crew k X l E M Mm z cont Ch (going S i t) K v1 gs.size:=cr.main H.mem he1 hS1.1 hS1.2.1 (by rw[hS1.2.2,List.length_set]) (λj t0 hj=>by
  rw[hS1.2.2];by_cases e:j=i
  .subst e
   rw[ht] at hj;cases hj;exact ⟨_,Hu ht,rfl,rfl,rfl,rfl,λh=>absurd h hst3⟩
  exact ⟨t0,by rw[Qq,if_neg (λe'=>e e'.symm)];exact hj,rfl,rfl,rfl,rfl,id⟩)
 have hno1:∀ (x:Array Value) (e:TypeId) (f:Nat×Nat),Obj.chan cap #[] false kk kk false≠Obj.cells x e f:=λ_ _ _ h=>by cases h
 have hv1c:v1.heap[(X i).gc]? = some (.chan cap #[] false kk kk false):=by rw[<-I8 hr1 hn1 hgCh];exact hch
 have cr2:=cr1.chan hgCh cap (kk+1);have hm2:Mem z (going S i t) K (v1.setChan (X i).gc cap #[] false (kk+1) (kk+1) false):=he1.mem.chan hv1c hno1 cap #[] false (kk+1) (kk+1) false;have hr2:=rel_chan hr1 (cr.zc _ hgCh) cap #[] false (kk+1) (kk+1) false d;generalize hv2:v1.setChan (X i).gc cap #[] false (kk+1) (kk+1) false=v2 at cr2 hm2 hr2;generalize hw2:(w1.at d).setChan (X i).gc cap #[] false (kk+1) (kk+1) false=w2 at hr2 C1 r1;have hw2s:w2.heap.size=w1.heap.size:=by rw[<-hw2];simp[World.setChan,World.at]
 have eR:resume (X i).i mc (l i) (nv (going S i t)) K=resume i mc (l i) (nv (going S i t)) K:=by rw[hXi]
 have hfit1:FitsN (l i) { t with st:=0 }:=by
  match hli:l i,hcons,hfit with
  |.turn _ _ _ _ _ _,_,hf=>exact hf
  |.wait _ _ _ _ _,_,hf=>exact hf
  |.done a,hc,_=>exact absurd rfl (hc a)
 have hG2:GoesI Tryd.prog ((X i).h==0) (DT (ScZ z) Ch) (λg' w'=>∃ E' M',Gives (X i) (Home (X i) n') z cont Ch (going S i t) K v2 (E i) (resume i mc (l i) (nv (going S i t)) K).1 (resume i mc (l i) (nv (going S i t)) K).2.1 (resume i mc (l i) (nv (going S i t)) K).2.2 E' M' g' w') (Go.Conc.served g₂ (commResult (seatT (X i).gc (Home (X i) (n'+1) (l i) (E i) (M i))).cases (seatT (X i).gc (Home (X i) (n'+1) (l i) (E i) (M i))).shape ((0:Nat):Int) (.agg #[]) true)) w2:=by have hhome:Home (X i) (n'+1) (l i) (E i) (M i) g₂:=hh;refine hhome z Ch _ cont _ w2 v2 (going S i t) K { t with st:=0 } hr2 cr2.noRow hm2 (by rw[hXi];exact ht1) htb hgc hfit1.fits hXk (cr.zs i hik).1 (cr.zs i hik).2.1 (cr2.sees i hik).2.1 (cr2.sees i hik).2.2 (by rw[eR];exact hl) (λg' w' E' M' hgv=>⟨E',M',?_⟩);rw[eR] at hgv;exact hgv
 generalize hR:resume i mc (l i) (nv (going S i t)) K=R at hG2 hl ⊢;have st1:Seats k (N+1) X l E M S.bk (upd Inb 0 (some (Seat.one S.bk (.agg #[]) false (HomeT S.wb cs)))):=by
  refine ⟨λj hj=>?_,λg hg0 hgn=>by rw[upd_ne _ _ hg0];exact st.none g hg0 hgn,λs c hs hc=>?_⟩
  .rw[upd_ne _ _ (λe=>by have:=(cr.ok j hj).1.h;omega)]
   exact st.seat j hj
  .rw[upd_same] at hs;cases hs
   exact Seat.one_has.1 hc
 obtain ⟨N2,gs2,a2,w3,sl2,T2,q2,B2,r2,z2,h2,⟨E',M',hs',hnew',hat⟩,⟨hB2,hB2b,hB2c⟩,C2⟩:=D9 (λw d h=>Je w d h) (Eb hup0) hG2 gs1 sl1 T1 q1 B1 h1 C1;have hbk1:(going S i t).bk=S.bk:=hS1.2.1;rw[hbk1] at hat
 have hwbk:Ch S.bk:=cr.z0.2.2;have hupd2:∀ g s c,upd (upd Inb 0 (some (Seat.one S.bk (.agg #[]) false (HomeT S.wb cs)))) (X i).h (seatOf (X i) (Home (X i) n') R.2.2 E' M') g=some s->s.has c->Ch c:=λg s c hg hc=>by
  by_cases e:g=(X i).h
  .subst e;rw[upd_same] at hg
   obtain ⟨rfl,_⟩:=Jd hg;rw[Seat.one_has.1 hc];exact hgCh
  rw[upd_ne _ _ e] at hg;exact hup0 g s c hg hc
 have hrow2:∀ b,(b=(X i).ab∨E i b)->∃ x e f,v2.heap[b]? = some (.cells x e f):=λb hb=>by obtain ⟨o,ho⟩:=Option.ne_none_iff_exists'.1 (cr2.abM hik hb);obtain ⟨x,e,f,rfl⟩:=(cr2.sees i hik).1.row b o ho;exact ⟨x,e,f,(cr2.sees i hik).2.1 b _ ho⟩
 have hMi:Mb (X i).h:=(H.ring.mem _ _ hseat').1;obtain ⟨N3,gs3,w4,g₃,d3,kk3,cap3,sl3,T3,q3,B3,r3,hF3,z3,h3,hh3,hch3,⟨hB3,hB3b,hB3c⟩,C3⟩:=pass_on (Inb:=upd Inb 0 (some (Seat.one S.bk (.agg #[]) false (HomeT S.wb cs)))) (h:=(X i).h) (j:=0) (c:=S.bk) (kk:=0) (z:=.agg #[]) (s:=Seat.one S.bk (.agg #[]) false (HomeT S.wb cs)) (λw d h=>Je w d h)
  (λs hs=>by
    obtain ⟨rfl,_⟩:=Jd hs;refine ⟨Seat.one_wf _ _ _ _,λg s' c hg hs'' hc hc'=>?_,λw' hF c hc=>?_⟩
    .have ec:c=(X i).gc:=Seat.one_has.1 hc'
     rw[ec] at hc;rcases st1.who hs'' hc with ⟨_,e⟩|⟨j,hj,hjg,e⟩
     exact cr.gbk i hik e;exact hg (by rw[<-hjg,cr.ginj i j hik hj e])
    .obtain ⟨v3,S',k1,k2,k3,k4,k5⟩:=hF
     rw[show c=(X i).gc from Seat.one_has.1 hc];exact open_rel k1 k2 hgCh (Ky hm2 k4 (cr2.opn _ hgCh) hrow2))
  (λw g s c cap buf cl a b tm hg hc hK=>kc_chan (cr.zc c (hupd2 g s c hg hc)) hK cap buf cl a b tm)
  (λw g s c cap buf cl a b tm hg hc hK=>kc_chan (cr.zc c (hup0 g s c hg hc)) hK cap buf cl a b tm)
  (D:=DT (ScZ z) Ch) (Eb hup0) h0h (upd_same _ _ _) rfl ⟨hMi,.inr rfl⟩
  (GoesI.stop (λd=>atGive_at (λd hF=>by obtain ⟨v3,S',k1,k2⟩:=hF;exact ⟨v3,S',k1.re rfl rfl rfl rfl rfl rfl,k2⟩) hat d)) gs2 sl2 T2 q2 B2 (by have:=(Qb hg).1;omega) h2 C2
 obtain ⟨v3,S',hr3,hn3,hS',he3,hM3,hfar3⟩:=hF3;have sR:=F9 i mc (l i) (nv (going S i t)) K;rw[hR,<-hS'] at sR;have sR':Sta i (going S i t) S':=⟨sR.wb,sR.bk,sR.base,sR.us,sR.la,sR.sc,sR.cv,sR.ths,sR.sched,sR.stk,sR.ran,sR.n,sR.chg,sR.len,sR.oth,sR.own⟩
 have hfit':∃ t',S'.thr[i]? = some t'∧FitsN R.2.2 t':=by obtain ⟨t',k1,k2,_⟩:=resume_fs i mc (nv (going S i t)) K { t with st:=0 } ht1 (l i) hcons;rw[hR,<-hS'] at k1;rw[hR] at k2;exact ⟨t',k1,k2⟩
 have cr3:=cr2.thread hm2 hik he3 sR' hfit' hs' hM3 hfar3 hnew' (by rw[<-hR];exact resume_kok (cr2.pat i hik) (cr2.ok i hik).2.2.2) (by rw[<-hR];exact resume_at (cr2.pat i hik) (cr2.ok i hik).2.2.2);have hwb':S'.wb=S.wb:=sR'.wb.trans hS1.1;have hbk':S'.bk=S.bk:=sR'.bk.trans hS1.2.1;have hv3c:v3.heap[S.bk]? = some (.chan cap3 #[] false kk3 kk3 false):=by rw[<-I8 hr3 hn3 hwbk];exact hch3
 have cr4:=cr3.chan hwbk cap3 (kk3+1);have hm4:Mem z S' R.2.1 (v3.setChan S.bk cap3 #[] false (kk3+1) (kk3+1) false):=he3.mem.chan hv3c (λ_ _ _ h=>by cases h) cap3 #[] false (kk3+1) (kk3+1) false;have hr4:=rel_chan hr3 (cr.zc _ hwbk) cap3 #[] false (kk3+1) (kk3+1) false d3;generalize hv4:v3.setChan S.bk cap3 #[] false (kk3+1) (kk3+1) false=v4 at cr4 hm4 hr4;generalize hw5:(w4.at d3).setChan S.bk cap3 #[] false (kk3+1) (kk3+1) false=w5 at hr4 C3 r3;have hw5s:w5.heap.size=w4.heap.size:=by rw[<-hw5];simp[World.setChan,World.at]
 have hG4:GoesI Tryd.prog ((0:Nat)==0) (DT (ScZ z) Ch) (λg w'=>(∃ u,g=G (tFr S.wb u) cs)∧Rel z v4 w') (Go.Conc.served g₃ (commResult (Seat.one S.bk (.agg #[]) false (HomeT S.wb cs)).cases (Seat.one S.bk (.agg #[]) false (HomeT S.wb cs)).shape ((0:Nat):Int) (.agg #[]) true)) w5:=by have hhome:HomeT S.wb cs g₃:=hh3;exact hhome z Ch _ _ w5 (λu=>GoesI.stop λd=>⟨⟨u,rfl⟩,hr4.re rfl rfl rfl rfl rfl rfl⟩)
 obtain ⟨N4,gs4,a4,w6,sl4,T4,q4,B4,r4,z4,h4,⟨⟨u4,rfl⟩,hr6⟩,⟨hB4,hB4b,hB4c⟩,C4⟩:=D9 (λw d h=>Je w d h) (Eb hupd2) hG4 gs3 sl3 T3 q3 B3 h3 C3;have hsz:gs4.size=gs.size:=by omega
 refine ⟨N1+N2+N3+N4,gs4,w6,sl4,T4,q4,B4,_,_,S',v4,upd E i E',upd M i M',u4,runNT_then (runNT_then (runNT_then r1 r2) r3) r4,hsz,by rw[hwb'];exact h4,hS',⟨C4,⟨⟨H.mb,.inl (by rw[upd_same];simp)⟩,.inr rfl⟩,?_,hr6,hm4,by rw[hsz];exact cr4,?_,by rw[sR'.len,hS1.2.2,List.length_set];exact H.len,λj hj t0 hj0=>?_⟩⟩
 .have:=H.b
  omega
 .rw[hbk']
  refine ⟨λj hj=>?_,λg hg0 hgn=>?_,λs c hs hc=>?_⟩
  .by_cases e:j=i
   .subst e
    exact ⟨n',by omega,by rw[upd_same,upd_same,upd_same,upd_same]⟩
   .have hne:(X j).h≠(X i).h:=λe'=>e (cr.hinj j i hj hik e')
    obtain ⟨m,hm,hsm⟩:=st1.seat j hj;exact ⟨m,by omega,by rw[upd_ne _ _ hne,upd_ne _ _ e,upd_ne _ _ e,upd_ne _ _ e];exact hsm⟩
  .rw[upd_ne _ _ (λe=>hgn i hik e.symm)]
   exact st1.none g hg0 hgn
  .rw[upd_ne _ _ h0h] at hs
   exact st1.main s c hs hc
 .by_cases e:j=i
  .subst e
   obtain ⟨t',k1,_,k2⟩:=resume_fs j mc (nv (going S j t)) K { t with st:=0 } ht1 (l j) hcons;rw[hR,<-hS'] at k1;rw[hR] at k2;have e2:some t0=some t':=hj0.symm.trans k1;cases e2;rw[upd_same];exact k2
  .rw[upd_ne _ _ e]
   rw[sR'.oth j e,hS1.2.2,Qq,if_neg (λe'=>e e'.symm)] at hj0;exact H.stt j hj t0 hj0
end
variable {mc:Mc}
section
variable {k N:Nat}{X:Nat->Fix mc}{l:Nat->Ph}{E:Nat->Nat->Prop}{M:Nat->Nat->Option Obj}{Mm:Keep}{z:Nat->Option Nat}{cont:Addr->Value}{Ch:Nat->Prop}{S:TS}{K:List (Nat×Int)}{v:World}{B:Nat}{Mb:Nat->Prop}{Inb:Nat->Option Seat}{h:Nat}{T:Trace}{gs:Array Goroutine}{w:World}{q:Nat->Nat}
theorem Holds.fewer (H:Holds k (N+1) X l E M Mm z cont Ch S K v B Mb Inb h T gs w q):Holds k N X l E M Mm z cont Ch S K v B Mb Inb h T gs w q :=
 ⟨H.ring,H.mb,H.b,H.rel,H.mem,H.crew,⟨λi hi=>by obtain ⟨n,h1,h2⟩:=H.seats.seat i hi;exact ⟨n,by omega,h2⟩,H.seats.none,H.seats.main⟩,H.len,H.stt⟩
theorem round_stuck (H:Holds k N X l E M Mm z cont Ch S K v B Mb Inb 0 T gs w q) (hg:gs[0]? = some (G (tFr S.wb u) cs)) (h8:k<=8) (h0:Aq S S.thr.length=[]) (hw:Di S S.thr.length=true) (hn:(S.n+1)*40<=140737488355328) (sl:Option (Nat×Nat)):
 ∃ (N':Nat) (gs':Array Goroutine) (w':World) (sl':Option (Nat×Nat)) (T':Trace) (q':Nat->Nat) (B':Nat) (S':TS) (v':World) (u':Nat->Value),
   runNT Tryd.prog N' (crowd gs w sl) T=(.next (crowd gs' w' sl'),T')∧gs'.size=gs.size∧gs'[0]? = some (G (tFr S'.wb u') cs)∧nv S'=stuckS (nv S) undef ∧
   Holds k N X l E M Mm z cont Ch S' K v' B' Mb Inb 0 T' gs' w' q':=by
 have cr:=H.crew;have hG:GoesI Tryd.prog ((0:Nat)==0) (DT (ScZ z) Ch) (λg w'=>(∃ u,g=G (tFr S.wb u) cs)∧∃ v' tv,Rel z v' w'∧Evo z S K v (stuckS S tv) K v') (G (tFr S.wb u) cs) w :=
  turn_in u cs (λbd ad od qd rd oe kd hoe hT hF code hcode=>turn50_stuck cs hoe H.rel cr.noRow H.mem (by rw[H.len];exact h8) h0 hw hn (λv' w' tv hr hn he=>hT z Ch _ w' (λu'=>GoesI.stop λd=>⟨⟨u',rfl⟩,v',tv,hr.re rfl rfl rfl rfl rfl rfl,he⟩)) code hcode)
 obtain ⟨N1,gs1,a1,w1,sl1,T1,q1,B1,r1,z1,h1,⟨⟨u1,rfl⟩,v1,tv,hr1,he1⟩,⟨hB1,hB1b,hB1c⟩,C1⟩:=D9 (λw d h=>Je w d h) (Eb (seat_ch cr H.seats)) hG gs sl T q B hg H.ring;refine ⟨N1,gs1,w1,sl1,T1,q1,B1,stuckS S tv,v1,u1,r1,z1,h1,rfl,⟨C1,H.mb,by have:=H.b;omega,hr1,he1.mem,by rw[z1];exact cr.main H.mem he1 rfl rfl rfl (λi t ht=>⟨t,ht,rfl,rfl,rfl,rfl,id⟩),H.seats,H.len,H.stt⟩⟩
theorem round_end {bc:Frame}{ac:Act}{ops:Array Oper}{q0:Nat}{rest:List Nat}{oc:Oper}{k0:List Item}(hoc:ops[q0]? = some oc) (H:Holds k N X l E M Mm z cont Ch S K v B Mb Inb 0 T gs w q) (hg:gs[0]? = some (G (tFr S.wb u) (bc.at ac (.inRegion ops (q0 :: rest):: k0):: cs))) (h8:k<=8) (h0:Aq S S.thr.length=[]) (hw:Di S S.thr.length=false) (sl:Option (Nat×Nat)):
 ∃ (N':Nat) (gs':Array Goroutine) (w':World) (sl':Option (Nat×Nat)) (T':Trace) (q':Nat->Nat) (B':Nat) (v':World),
   runNT Tryd.prog N' (crowd gs w sl) T=(.next (crowd gs' w' sl'),T')∧gs'.size=gs.size∧gs'[0]? = some (G (bc.at (ac.put oc.dst (.tuple #[])) (.inRegion ops rest :: k0)) cs) ∧
   Holds k N X l E M Mm z cont Ch S K v' B' Mb Inb 0 T' gs' w' q':=by
 have cr:=H.crew;have hG:GoesI Tryd.prog ((0:Nat)==0) (DT (ScZ z) Ch) (λg w'=>g=G (bc.at (ac.put oc.dst (.tuple #[])) (.inRegion ops rest :: k0)) cs∧∃ v',Rel z v' w'∧Evo z S K v S K v') (G (tFr S.wb u) (bc.at ac (.inRegion ops (q0 :: rest) :: k0) :: cs)) w :=
  turn_in u _ (λbd ad od qd rd oe kd hoe hT hF code hcode=>turn50_end _ hoe H.rel cr.noRow H.mem (by rw[H.len];exact h8) h0 hw (λv' w' hr hn he=>hF z Ch _ w' bc ac ops q0 rest oc k0 cs rfl hoc (GoesI.stop λd=>⟨rfl,v',hr.re rfl rfl rfl rfl rfl rfl,he⟩)) code hcode)
 obtain ⟨N1,gs1,a1,w1,sl1,T1,q1,B1,r1,z1,h1,⟨rfl,v1,hr1,he1⟩,⟨hB1,hB1b,hB1c⟩,C1⟩:=D9 (λw d h=>Je w d h) (Eb (seat_ch cr H.seats)) hG gs sl T q B hg H.ring;exact ⟨N1,gs1,w1,sl1,T1,q1,B1,v1,r1,z1,h1,⟨C1,H.mb,by have:=H.b;omega,hr1,he1.mem,by rw[z1];exact cr.main H.mem he1 rfl rfl rfl (λi t ht=>⟨t,ht,rfl,rfl,rfl,rfl,id⟩),H.seats,H.len,H.stt⟩⟩
theorem all_done (H:Holds k N X l E M Mm z cont Ch S K v B Mb Inb h T gs w q) (h0:Aq S S.thr.length=[]) (hw:Di S S.thr.length=false):∀ i,i<k->∃ a,l i=.done a:=by
 intro i hi;obtain ⟨t,ht,_⟩:=H.crew.thr i hi;have hs:=H.stt i hi t ht;have hlt:i<S.thr.length:=by rw[H.len];exact hi
 match hl:l i,hs with
 |.done a,_=>exact ⟨a,rfl⟩
 |.turn _ _ _ _ _ _,hs =>
  exfalso;have:i∈Aq S S.thr.length:=by unfold Aq;rw[List.mem_filter,List.mem_range];refine ⟨hlt,?_⟩;rw[ht];have hs':t.st=1:=hs;simp[rdy,hs']
  rw[h0] at this;cases this
 |.wait _ _ _ _ _,hs =>
  exfalso;have hs':t.st=2:=hs;have:Di S S.thr.length=true:=by unfold Di;rw[List.any_eq_true];exact ⟨i,by simpa using hlt,by rw[ht];simp[hs']⟩
  rw[hw] at this;cases this
end
inductive Turns (nk:Mc):Nat->PSt->PSt->Prop
 |stop {p:PSt}:Fv nk p=none->Turns nk 0 p p
 |step {n:Nat} {p p1 p':PSt}:Fv nk p=some p1->Turns nk n p1 p'->Turns nk (n+1) p p'
theorem nv_picked (S:TS):nv (picked S)=picked (nv S):=by unfold picked;by_cases h:S.us<S.sched.length;rw[if_pos h,if_pos (show (nv S).us<(nv S).sched.length from h)];rfl;rw[if_neg h,if_neg (show ¬ (nv S).us<(nv S).sched.length from h)]
theorem nv_going (S:TS) (i:Nat) (t:Thr):nv (going S i t)=going (nv S) i t:=by unfold going;rw[<-nv_picked];rfl
theorem pickAt_lt (S:TS) {ids:List Nat}(h:0<ids.length):Gf S ids<ids.length:=by
 unfold Gf;split;exact which_lt _ h
 .cases hf:ids.findIdx? (λ(i:Nat)=>decide (S.la<(i:Int))) with
  |none=>exact h
  |some k=>exact (List.findIdx?_eq_some_iff_getElem.1 hf).1
theorem going_n (S:TS) (i:Nat) (t:Thr):(going S i t).n=S.n∧(going S i t).sched=S.sched:=by unfold going picked;split<;>exact ⟨rfl,rfl⟩
theorem pturn_n {nk:Mc}{p p1:PSt}(h:Fv nk p=some p1):p.S.n<=p1.S.n∧p1.S.sched=p.S.sched:=by
 unfold Fv at h;split at h
 .split at h
  cases h;exact ⟨Nat.le_succ _,rfl⟩;cases h
 .cases h
  have s:=F9 (D6 p.S) nk (p.l (D6 p.S)) (going p.S (D6 p.S) (thrI p.S (D6 p.S))) p.K;have g:=going_n p.S (D6 p.S) (thrI p.S (D6 p.S));exact ⟨by rw[<-g.1];exact s.n,by rw[<-g.2];exact s.sched⟩
theorem Turns.le {nk:Mc}:∀ {n:Nat}{p p':PSt},Turns nk n p p'->p.S.n<=p'.S.n
 |_,_,_,.stop _=>Qi _
 |_,_,_,.step h t=>Qk (pturn_n h).1 t.le
theorem turns_run {k:Nat}{X:Nat->Fix mc}{Mm:Keep}{z:Nat->Option Nat}{cont:Addr->Value}{Ch:Nat->Prop}{bc:Frame}{ac:Act}{ops:Array Oper}{q0:Nat}{rest:List Nat}{oc:Oper}{k0:List Item}(hoc:ops[q0]? = some oc) (h8:k<=8):
 ∀ (n:Nat) (p p':PSt),Turns mc n p p'->∀ (l:Nat->Ph) (E:Nat->Nat->Prop) (M:Nat->Nat->Option Obj) (S:TS) (K:List (Nat×Int)) (v:World) (B:Nat) (Mb:Nat->Prop) (Inb:Nat->Option Seat) (T:Trace) (gs:Array Goroutine) (w:World) (q:Nat->Nat) (sl:Option (Nat×Nat)) (u:Nat->Value),
   p.S=nv S->p.K=K->p.l=l->S.sched.length<=4611686018427387904->(∀ x∈S.sched,-9223372036854775808<=x∧x<9223372036854775808)->p'.S.n*40<=140737488355328 ->
   Holds k n X l E M Mm z cont Ch S K v B Mb Inb 0 T gs w q->gs[0]? = some (G (tFr S.wb u) (bc.at ac (.inRegion ops (q0 :: rest) :: k0) :: cs)) ->
   ∃ (N':Nat) (gs':Array Goroutine) (w':World) (sl':Option (Nat×Nat)) (T':Trace) (q':Nat->Nat) (B':Nat) (Mb':Nat->Prop) (Inb':Nat->Option Seat) (S':TS) (v':World) (E':Nat->Nat->Prop) (M':Nat->Nat->Option Obj),
     runNT Tryd.prog N' (crowd gs w sl) T=(.next (crowd gs' w' sl'),T')∧gs'.size=gs.size∧gs'[0]? = some (G (bc.at (ac.put oc.dst (.tuple #[])) (.inRegion ops rest :: k0)) cs)∧nv S'=p'.S ∧
     Holds k 0 X p'.l E' M' Mm z cont Ch S' p'.K v' B' Mb' Inb' 0 T' gs' w' q'∧∀ i,i<k->∃ a,p'.l i=.done a:=by
 intro n p p' ht;induction ht with
 |stop hp =>
  rename_i p;intro l E M S K v B Mb Inb T gs w q sl u hS hK hl hsl hsc hn H hg;unfold Fv at hp;split at hp
  .rename_i h0
   split at hp;cases hp
   .rename_i hw
    rw[hS] at h0 hw;have hw':Di S S.thr.length=false:=Bool.eq_false_iff.2 hw;obtain ⟨N',gs',w',sl',T',q',B',v',r,z1,h1,H1⟩:=round_end hoc H hg h8 h0 hw' sl;rw[hl,hK];exact ⟨N',gs',w',sl',T',q',B',Mb,Inb,S,v',E,M,r,z1,h1,hS.symm,H1,all_done H1 h0 hw'⟩
  cases hp
 |step hp htt ih =>
  rename_i n p p1 p';intro l E M S K v B Mb Inb T gs w q sl u hS hK hl hsl hsc hn H hg;have hp0:=hp;unfold Fv at hp;split at hp
  .rename_i h0
   split at hp
   .rename_i hw
    have hp1:=Qd hp;rw[hS] at h0 hw;have hle:=htt.le;rw[<-hp1,hS] at hle;obtain ⟨N',gs',w',sl',T',q',B',S',v',u',r,z1,h1,hS1,H1⟩:=round_stuck H.fewer hg h8 h0 hw (Qk (Nat.mul_le_mul_right 40 hle) hn) sl;have es:S'.sched=S.sched:=by have:=congrArg TS.sched hS1;exact this
    obtain ⟨N2,gs2,w2,sl2,T2,q2,B2,Mb2,Inb2,S2,v2,E2,M2,r2,z2,h2,hS2,H2,hd⟩:=ih l E M S' K v' B' Mb Inb T' gs' w' q' sl' u' (by rw[<-hp1,hS1,hS]) (by rw[<-hp1];exact hK) (by rw[<-hp1];exact hl) (by rw[es];exact hsl) (by rw[es];exact hsc) hn H1 h1;exact ⟨N'+N2,gs2,w2,sl2,T2,q2,B2,Mb2,Inb2,S2,v2,E2,M2,runNT_then r r2,z2.trans z1,h2,hS2,H2,hd⟩
   cases hp
  .rename_i h0
   have hp1:=Qd hp;rw[hS] at h0;have hlen:0<(Aq S S.thr.length).length:=List.length_pos_iff.2 h0;have hpk:Gf S (Aq S S.thr.length)<(Aq S S.thr.length).length:=pickAt_lt S hlen;obtain ⟨i,hi⟩:∃ i,(Aq S S.thr.length)[Gf S (Aq S S.thr.length)]? = some i:=⟨_,Qf hpk⟩
   have hni:D6 p.S=i:=by rw[hS];show ((Aq S S.thr.length)[Gf S (Aq S S.thr.length)]?).getD 0=i;rw[hi];rfl
   have eR:resume (D6 p.S) mc (p.l (D6 p.S)) (going p.S (D6 p.S) (thrI p.S (D6 p.S))) p.K=resume i mc (l i) (nv (going S i (thrI S i))) K:=by rw[hni,hl,hK,hS,nv_going];rfl
   rw[eR,hni,hl] at hp1;have hle:=htt.le;rw[<-hp1] at hle;obtain ⟨N',gs',w',sl',T',q',B',Mb',Inb',S',v',E',M',u',r,z1,h1,hS1,H1⟩:=round_go H hg h8 hsl hsc hi sl (Qk (Nat.mul_le_mul_right 40 hle) hn);have es:S'.sched=S.sched:=by have e1:=congrArg TS.sched hS1;have e2:=(F9 i mc (l i) (nv (going S i (thrI S i))) K).sched;have e3:=(going_n S i (thrI S i)).2;exact e1.trans (e2.trans e3)
   obtain ⟨N2,gs2,w2,sl2,T2,q2,B2,Mb2,Inb2,S2,v2,E2,M2,r2,z2,h2,hS2,H2,hd⟩:=ih _ E' M' S' _ v' B' Mb' Inb' T' gs' w' q' sl' u' (by rw[<-hp1];exact hS1.symm) (by rw[<-hp1]) (by rw[<-hp1]) (by rw[es];exact hsl) (by rw[es];exact hsc) hn H1 h1;exact ⟨N'+N2,gs2,w2,sl2,T2,q2,B2,Mb2,Inb2,S2,v2,E2,M2,runNT_then r r2,z2.trans z1,h2,hS2,H2,hd⟩
end Go.Proofs.YtbbhahigofeacaaDoor.Gen
