/- Of the proof of CounterLinear. Part 14 of 26. (Joined, by program, and written short, of: CtPk, CtPk2, CtPkg, CtN, CtY, SamA, GPts, CtAw1.) -/
import Derived.Test.YtcfmffmcammbjaaDoorCounterLinear07
import Derived.Test.YtcfmffmcammbjaaDoorCounterLinear09
import Derived.Test.YtcfmffmcammbjaaDoorCounterLinear10
import Derived.Test.YtcfmffmcammbjaaDoorCounterLinear13
import Derived.BigQuiet
import Derived.KernelRfl
set_option linter.unusedSimpArgs false
set_option linter.unusedVariables false
set_option maxHeartbeats 4000000
set_option maxRecDepth 100000
namespace Go.Proofs.YtcfmffmcammbjaaDoor.Gen
open Go Go.Lift Go.Conc Go.RowKit
def nx2 (s:Nat) (l:List Int):Nx:=if l.length<s then .turn 1 l.length (2,l) else .turn 1 0 (3,l)
def nx3 (s:Nat) (d:List Int):Nx:=if d.length<2*s then .turn 1 (d.length - s) (3,d) else if d.take s=d.drop s then .ans 0 (R1.totI (d.drop s)) else .turn 1 0 (2,[])
def mcC (s:Nat):Mc where
 start i c:=if c.po=1 then .turn 1 (i % s) (0,[((i % s:Nat):Int),c.ca.tmod 1000]) else if c.po=2 then .turn 1 0 (2,[]) else .ans 1 0
 turn q x :=
  if q.1=0 then ((x,x),x,.turn 4 (q.2.getD 0 0).toNat (1,[q.2.getD 0 0,q.2.getD 1 0,x]))
  else if q.1=1 then ((Bv (q.2.getD 2 0) (R1.addI (q.2.getD 2 0) (q.2.getD 1 0)) x).1,(Bv (q.2.getD 2 0) (R1.addI (q.2.getD 2 0) (q.2.getD 1 0)) x).2.1,if x=q.2.getD 2 0 then .ans 0 0 else .turn 1 (q.2.getD 0 0).toNat (0,[q.2.getD 0 0,q.2.getD 1 0]))
  else if q.1=2 then ((x,x),x,nx2 s (q.2++[x]))
  else ((x,x),x,nx3 s (q.2++[x]))
 woke _:=.ans 1 0
 stuck _:=(4,0)
 bnd:=true
abbrev box0:Obj:=.cells #[I 0,I 0] 38 (0,0)
def boxO (pb:Nat):Nat->Option Obj:=fun b=>if b=pb then some box0 else none
theorem boxO_at (pb:Nat):boxO pb pb=some box0:=by unfold boxO;rw[if_pos rfl]
theorem boxO_eq {pb b:Nat}(h:boxO pb b≠none):b=pb:=by
 unfold boxO at h
 split at h
 ·assumption
 ·exact absurd rfl h
theorem boxO_row (pb:Nat):∀ b o,boxO pb b=some o->∃ c e f,o=.cells c e f:=fun b o h=>by
 unfold boxO at h
 split at h
 ·cases h;exact ⟨_,_,_,rfl⟩
 ·cases h
def moS (pb nb fb:Nat) (l m:List Int):Nat->Option Obj:=fun b=>if b=pb then some box0 else if b=nb then some (rowI l) else if b=fb then some (rowI m) else none
theorem moS_row (pb nb fb:Nat) (l m:List Int):∀ b o,moS pb nb fb l m b=some o->∃ c e f,o=.cells c e f:=fun b o h=>by
 unfold moS at h
 split at h
 ·cases h;exact ⟨_,_,_,rfl⟩
 ·split at h
  ·cases h;exact ⟨_,_,_,rfl⟩
  ·split at h
   ·cases h;exact ⟨_,_,_,rfl⟩
   ·cases h
theorem moS_in {pb nb fb:Nat}{l m:List Int}{b:Nat}(h:moS pb nb fb l m b≠none):b=pb∨b=nb∨b=fb:=by
 unfold moS at h
 split at h
 ·exact .inl (by assumption)
 ·split at h
  ·exact .inr (.inl (by assumption))
  ·split at h
   ·exact .inr (.inr (by assumption))
   ·exact absurd rfl h
theorem moS_dom {pb nb fb:Nat}{l m l' m':List Int}{b:Nat}(h:moS pb nb fb l m b≠none):moS pb nb fb l' m' b≠none:=by
 unfold moS
 rcases moS_in h with rfl|rfl|rfl
 ·rw[if_pos rfl];simp
 ·split
  ·simp
  ·rw[if_pos rfl];simp
 ·split
  ·simp
  ·split
   ·simp
   ·rw[if_pos rfl];simp
structure Apart3 (pb nb fb:Nat):Prop where
 pn:pb≠nb
 pf:pb≠fb
 nf:nb≠fb
theorem moS_pb (pb nb fb:Nat) (l m:List Int):moS pb nb fb l m pb=some box0:=by unfold moS;rw[if_pos rfl]
theorem Hp {pb nb fb:Nat}(h:Apart3 pb nb fb) (l m:List Int):moS pb nb fb l m nb=some (rowI l):=by unfold moS;rw[if_neg (fun e=>h.pn e.symm),if_pos rfl]
theorem moS_fb {pb nb fb:Nat}(h:Apart3 pb nb fb) (l m:List Int):moS pb nb fb l m fb=some (rowI m):=by unfold moS;rw[if_neg (fun e=>h.pf e.symm),if_neg (fun e=>h.nf e.symm),if_pos rfl]
theorem moS_has {pb nb fb:Nat}(h:Apart3 pb nb fb) {l m:List Int}{v:World}(h1:v.heap[pb]? = some box0) (h2:v.heap[nb]? = some (rowI l)) (h3:v.heap[fb]? = some (rowI m)):Has (moS pb nb fb l m) v:=fun b o hb=>by
 rcases moS_in (by rw[hb];simp) with rfl|rfl|rfl
 ·rw[moS_pb] at hb;cases hb;exact h1
 ·rw[Hp h] at hb;cases hb;exact h2
 ·rw[moS_fb h] at hb;cases hb;exact h3
structure Frs where
 bd:Frame
 ad:Act
 od:Array Oper
 qd:Nat
 rd:List Nat
 oe:Oper
 kd:List Item
 fs:List Frame
namespace Frs
def cu (f:Frs) (r:Value):Goroutine:=G (f.bd.at (f.ad.put f.oe.dst r) (.inRegion f.od f.rd :: f.kd)) f.fs
def top (f:Frs):Frame:=f.bd.at f.ad (.inRegion f.od (f.qd :: f.rd) :: f.kd)
end Frs
section
variable {mc:Mc}{X:Fix mc}{z:Nat->Option Nat}{cont:Addr->Value}{Ch:Nat->Prop}{Stop:Goroutine->World->Prop}{cu:Value->Goroutine}{S0:TS}{K0:List (Nat×Int)}{v0:World}{Mo0 Mo Mo':Nat->Option Obj}{σ:TS}{κ:List (Nat×Int)}{S:TS}{v w v' w':World}{t:Thr}
theorem Now.more (N:Now X z cont Ch S0 K0 v0 Mo0 Mo σ κ S v w t) (g:Grows v v') (r:Rel z v' w') (n:Ak Ch v') (hd:∀ b,Mo' b≠none->Mo b≠none∨v.heap.size≤b) (hm:Has Mo' v') (hr:∀ b o,Mo' b=some o->∃ c e f,o=.cells c e f):Now X z cont Ch S0 K0 v0 Mo0 Mo' σ κ S v' w' t:=by
 have N1:=N.on (N.at_.mem.grows g) r n N.nv N.at_.thr N.at_.tb N.at_.gc rfl
 exact ⟨N1.at_,N1.evo,N1.nv,N1.bk,hm,fun b hb=>(hd b hb).elim (N1.far b) (fun h ho=>by have:=N.at_.mem.lt ho;omega),fun b hb=>(hd b hb).elim (N.new b) (fun h=>.inr (Nat.le_trans N.evo.fr.size h)),hr⟩
theorem Now.write (N:Now X z cont Ch S0 K0 v0 Mo0 Mo σ κ S v w t) {B:Nat}(hB:Mo B≠none) (hpk:X.pk B=none) (r:Rel z v' w') (n:Ak Ch v') (hw:∀ b,b≠B->v'.heap[b]? = v.heap[b]?) (hs:v'.heap.size=v.heap.size) (ho:v'.os=v.os) (hu:v'.output=v.output) (hd:∀ b,Mo' b≠none->Mo b≠none) (hm:Has Mo' v') (hr:∀ b o,Mo' b=some o->∃ c e f,o=.cells c e f):Now X z cont Ch S0 K0 v0 Mo0 Mo' σ κ S v' w' t:=by
 have ev:=N.at_.mem.other (v':=v') (N.far B hB) hw hs ho hu
 refine ⟨⟨r,n,ev.mem,N.at_.thr,N.at_.tb,N.at_.gc,N.at_.kb,N.at_.z,N.at_.cont,fun b o hb=>?_,N.at_.far⟩,N.evo.join ev (fun b hb=>?_),N.nv,N.bk,hm,fun b hb=>N.far b (hd b hb),fun b hb=>N.new b (hd b hb),hr⟩
 ·rw[hw b (fun e=>by subst e;rw[hpk] at hb;cases hb)];exact N.at_.pk b o hb
 ·have e:b=B:=hb
  subst e
  exact N.new b hB
end
structure CMine (s:Nat) (X:Fix (mcC s)) (c sb:Nat):Prop where
 caps:X.caps=#[Pt c 0]
 mem:∀ v,Has X.pk v->Ctr v c sb s X.kb∧R1.Flds v
abbrev FA (c tb cb:Nat) (n:Int) (a:Act):Prop:=Fl 32 [(0,Pt c 0),(1,Pt tb 0),(2,I n),(6,Pt cb 0)] a
abbrev FS (s c tb nb fb:Nat) (a:Act):Prop:=Fl 35 [(0,Pt c 0),(1,Pt tb 0),(5,.slice (some ⟨nb,0,none⟩) s s),(6,.slice (some ⟨fb,0,none⟩) s s)] a
abbrev FK (s c tb nb sb k:Nat) (a:Act):Prop:=Fl 25 [(0,Pt c 0),(1,Pt tb 0),(2,.slice (some ⟨nb,0,none⟩) s s),(11,.slice (some ⟨sb,0,none⟩) s s),(12,I s),(13,I k)] a
abbrev FK2 (s nb k:Nat) (a:Act):Prop:=Fl 25 [(18,.slice (some ⟨nb,0,none⟩) s s),(19,I k)] a
def ctSit (s:Nat) (X:Fix (mcC s)) (x:Nx) (Mo:Nat->Option Obj) (cu:Value->Goroutine) (g:Goroutine):Prop :=
 ∃ (c sb pb:Nat) (f:Frs),CMine s X c sb∧f.od[f.qd]? = some f.oe ∧
   ((CBack (X.h==0) pb (fun _:Unit=>.tuple #[]) (fun _=>(0,0)) f.cu cu∧Mo=boxO pb∧∃ (n:Int) (cb:Nat) (a:Act),X.kb[X.i % s]? = some cb∧FA c X.tb cb n a ∧
      ((x=.turn 1 (X.i % s) (0,[((X.i % s:Nat):Int),n])∧OpBack (X.h==0) X.i (X.i % s) cb X.tb 1 Dr (fun r=>G (aSeen a r) (f.top :: f.fs)) g) ∨
       (∃ y:Int,x=.turn 4 (X.i % s) (1,[((X.i % s:Nat):Int),n,y])∧OpBack (X.h==0) X.i (X.i % s) cb X.tb 4 (Bv y (R1.addI y n)) (fun r=>G (aTried a r) (f.top :: f.fs)) g))) ∨
    (CBack (X.h==0) pb (fun x:Int=>I x) (fun x=>(0,x)) f.cu cu∧∃ (nb fb:Nat) (l m:List Int) (a ak:Act) (k cb:Nat),Mo=moS pb nb fb l m∧Apart3 pb nb fb∧l.length=s∧m.length=s∧k<s∧X.kb[k]? = some cb∧FS s c X.tb nb fb a∧FK s c X.tb nb sb k ak∧FK2 s nb k ak ∧
      ((x=.turn 1 k (2,l.take k)∧OpBack (X.h==0) X.i k cb X.tb 1 Dr (fun r=>G (kSeen ak r) (sOne a :: f.top :: f.fs)) g) ∨
       (x=.turn 1 k (3,m++l.take k)∧OpBack (X.h==0) X.i k cb X.tb 1 Dr (fun r=>G (kSeen ak r) (sTwo a :: f.top :: f.fs)) g))))
section
variable {s:Nat}{X:Fix (mcC s)}{z:Nat->Option Nat}{cont:Addr->Value}{Ch:Nat->Prop}{Stop:Goroutine->World->Prop}{cu:Value->Goroutine}{S0:TS}{K0:List (Nat×Int)}{v0:World}{Mo0 Mo:Nat->Option Obj}{σ:TS}{κ:List (Nat×Int)}{S:TS}{v w:World}{t:Thr}{H:Nx->(Nat->Option Obj)->Goroutine->Prop}{c sb pb nb fb:Nat}{f:Frs}{l m:List Int}
theorem ct_ans {α:Type}{enc:α->Value}{fa:α->Int×Int}(hB:CBack (X.h==0) pb enc fa f.cu cu) (y:α) {x:Nx}(hob:Ob X H z cont Ch Stop cu S0 K0 v0 Mo0 σ κ x) (hx:x=.ans (fa y).1 (fa y).2) (hpb:Mo pb=some box0) (N:Now X z cont Ch S0 K0 v0 Mo0 Mo σ κ S v w t) :
 GoesI Tryd.prog (X.h==0) (DT (ScZ z) Ch) Stop (f.cu (enc y)) w :=
 hB z Ch Stop w v S κ y N.at_.rel N.at_.noRow N.at_.mem (N.mo pb _ hpb) (N.far pb (by rw[hpb];simp)) (fun v' w' r n ev=>hob.ans (fa y) (.inl hx) v' w' S r n N.nv (N.evo.join ev (fun b hb=>by
  have hb':b=pb:=hb
  subst hb'
  exact N.new b (by rw[hpb];simp))))
theorem ct_add (hm:CMine s X c sb) (hoe:f.od[f.qd]? = some f.oe) (hB:CBack (X.h==0) pb (fun _:Unit=>.tuple #[]) (fun _=>(0,0)) f.cu cu) (hH:∀ x Mo' g,Good v0 Mo0 x Mo'->ctSit s X x Mo' cu g->H x Mo' g) {n:Int}{cb:Nat}(hcb:X.kb[X.i % s]? = some cb) {a:Act}(hA:FA c X.tb cb n a)
 (hob:Ob X H z cont Ch Stop cu S0 K0 v0 Mo0 σ κ (.turn 1 (X.i % s) (0,[((X.i % s:Nat):Int),n]))) (N:Now X z cont Ch S0 K0 v0 Mo0 (boxO pb) σ κ S v w t) :
 GoesI Tryd.prog (X.h==0) (DT (ScZ z) Ch) Stop (G (aFr a) (f.top :: f.fs)) w:=by
 have hA':FA c t.tb cb n a:=by rw[N.at_.tb];exact hA
 exact add_loop (h:=X.h) (i:=X.i) (j:=X.i % s) (cb:=cb) _ hA' _ (H (.turn 1 (X.i % s) (0,[((X.i % s:Nat):Int),n])) (boxO pb)) (fun g hg=>by
  obtain ⟨a1,hA1,hg⟩:=hg
  rw[N.at_.tb] at hA1 hg
  exact hH _ _ g (N.good (fun _ _ h=>by cases h)) ⟨c,sb,pb,f,hm,hoe,.inl ⟨hB,rfl,n,cb,a1,hcb,hA1,.inl ⟨rfl,hg⟩⟩⟩) N.at_.rel N.at_.noRow N.at_.mem N.at_.thr (N.cell hcb).1 (by rw[N.at_.tb];exact N.at_.z) (by rw[N.at_.tb,N.at_.gc];exact N.at_.cont) (ob_turn hob N)
theorem ct_aseen (hm:CMine s X c sb) (hoe:f.od[f.qd]? = some f.oe) (hB:CBack (X.h==0) pb (fun _:Unit=>.tuple #[]) (fun _=>(0,0)) f.cu cu) (hH:∀ x Mo' g,Good v0 Mo0 x Mo'->ctSit s X x Mo' cu g->H x Mo' g) {n:Int}{cb:Nat}(hcb:X.kb[X.i % s]? = some cb) {a:Act}(hA:FA c X.tb cb n a) (y:Int)
 (hob:Ob X H z cont Ch Stop cu S0 K0 v0 Mo0 σ κ (.turn 4 (X.i % s) (1,[((X.i % s:Nat):Int),n,y]))) (N:Now X z cont Ch S0 K0 v0 Mo0 (boxO pb) σ κ S v w t) :
 GoesI Tryd.prog (X.h==0) (DT (ScZ z) Ch) Stop (G (aSeen a (I y)) (f.top :: f.fs)) w:=by
 have hA':FA c t.tb cb n a:=by rw[N.at_.tb];exact hA
 exact add_try (h:=X.h) (i:=X.i) (j:=X.i % s) (cb:=cb) y _ (hm.mem v N.at_.pk).2 hA' _ (H (.turn 4 (X.i % s) (1,[((X.i % s:Nat):Int),n,y])) (boxO pb)) (fun g hg=>by
  obtain ⟨a1,hA1,hg⟩:=hg
  rw[N.at_.tb] at hA1 hg
  exact hH _ _ g (N.good (fun _ _ h=>by cases h)) ⟨c,sb,pb,f,hm,hoe,.inl ⟨hB,rfl,n,cb,a1,hcb,hA1,.inr ⟨y,rfl,hg⟩⟩⟩) N.at_.rel N.at_.noRow N.at_.mem N.at_.thr (N.cell hcb).1 (by rw[N.at_.tb];exact N.at_.z) (by rw[N.at_.tb,N.at_.gc];exact N.at_.cont) (ob_turn hob N)
end
end Go.Proofs.YtcfmffmcammbjaaDoor.Gen
namespace Go.Proofs.YtcfmffmcammbjaaDoor.Gen
open Go Go.Lift Go.Conc Go.RowKit
section
variable {s:Nat}{X:Fix (mcC s)}{z:Nat->Option Nat}{cont:Addr->Value}{Ch:Nat->Prop}{Stop:Goroutine->World->Prop}{cu:Value->Goroutine}{S0:TS}{K0:List (Nat×Int)}{v0:World}{Mo0 Mo:Nat->Option Obj}{σ:TS}{κ:List (Nat×Int)}{S:TS}{v w:World}{t:Thr}{H:Nx->(Nat->Option Obj)->Goroutine->Prop}{c sb pb nb fb:Nat}{f:Frs}{l m:List Int}
theorem nx2_lt {l:List Int}{k:Nat}(hl:l.length=s) (hk:k<s):nx2 s (l.take k)=.turn 1 k (2,l.take k):=by
 have:(l.take k).length=k:=by rw[List.length_take];omega
 unfold nx2;rw[this,if_pos hk]
theorem nx2_eq {l:List Int}(hl:l.length=s):nx2 s (l.take s)=.turn 1 0 (3,l):=by
 unfold nx2;rw[List.take_of_length_le (by omega),if_neg (by omega)]
theorem nx3_lt {l m:List Int}{k:Nat}(hl:l.length=s) (hm:m.length=s) (hk:k<s):nx3 s (m++l.take k)=.turn 1 k (3,m++l.take k):=by
 have:(m++l.take k).length=s+k:=by rw[List.length_append,List.length_take];omega
 unfold nx3;rw[this,if_pos (by omega),Nat.add_sub_cancel_left]
theorem nx3_eq {l m:List Int}(hl:l.length=s) (hm:m.length=s):nx3 s (m++l.take s)=if m=l then .ans 0 (R1.totI l) else .turn 1 0 (2,[]):=by
 have:(m++l).length=2*s:=by rw[List.length_append];omega
 unfold nx3;rw[List.take_of_length_le (l:=l) (by omega),this,if_neg (by omega),List.take_left' hm,List.drop_left' hm]
theorem ct_look2 (hm:CMine s X c sb) (hoe:f.od[f.qd]? = some f.oe) (hB:CBack (X.h==0) pb (fun x:Int=>I x) (fun x=>(0,x)) f.cu cu) (hH:∀ x Mo' g,Good v0 Mo0 x Mo'->ctSit s X x Mo' cu g->H x Mo' g) (h3:Apart3 pb nb fb) (hl:l.length=s) (hml:m.length=s) {k:Nat}(hk:k<s) {a ak:Act}(hA:FS s c X.tb nb fb a) (hK:FK s c X.tb nb sb k ak)
 (hob:Ob X H z cont Ch Stop cu S0 K0 v0 Mo0 σ κ (.turn 1 k (2,l.take k))) (N:Now X z cont Ch S0 K0 v0 Mo0 (moS pb nb fb l m) σ κ S v w t) :
 GoesI Tryd.prog (X.h==0) (DT (ScZ z) Ch) Stop (G (kFr ak) (sOne a :: f.top :: f.fs)) w:=by
 obtain ⟨cb,hcb,hcc⟩:=(hm.mem v N.at_.pk).1.cel k hk
 have hK':FK s c t.tb nb sb k ak:=by rw[N.at_.tb];exact hK
 exact coll_look (h:=X.h) (i:=X.i) (k:=k) (cb:=cb) _ hk hcc hK' _ (H (.turn 1 k (2,l.take k)) (moS pb nb fb l m)) (fun g hg=>by
  obtain ⟨a1,hA1,hA2,hg⟩:=hg
  rw[N.at_.tb] at hA1 hg
  exact hH _ _ g (N.good (fun _ _ h=>by cases h)) ⟨c,sb,pb,f,hm,hoe,.inr ⟨hB,nb,fb,l,m,a,a1,k,cb,rfl,h3,hl,hml,hk,hcb,hA,hA1,hA2,.inl ⟨rfl,hg⟩⟩⟩) N.at_.rel N.at_.noRow N.at_.mem N.at_.thr (N.cell hcb).1 (by rw[N.at_.tb];exact N.at_.z) (by rw[N.at_.tb,N.at_.gc];exact N.at_.cont) (ob_turn hob N)
theorem ct_look3 (hm:CMine s X c sb) (hoe:f.od[f.qd]? = some f.oe) (hB:CBack (X.h==0) pb (fun x:Int=>I x) (fun x=>(0,x)) f.cu cu) (hH:∀ x Mo' g,Good v0 Mo0 x Mo'->ctSit s X x Mo' cu g->H x Mo' g) (h3:Apart3 pb nb fb) (hl:l.length=s) (hml:m.length=s) {k:Nat}(hk:k<s) {a ak:Act}(hA:FS s c X.tb nb fb a) (hK:FK s c X.tb nb sb k ak)
 (hob:Ob X H z cont Ch Stop cu S0 K0 v0 Mo0 σ κ (.turn 1 k (3,m++l.take k))) (N:Now X z cont Ch S0 K0 v0 Mo0 (moS pb nb fb l m) σ κ S v w t) :
 GoesI Tryd.prog (X.h==0) (DT (ScZ z) Ch) Stop (G (kFr ak) (sTwo a :: f.top :: f.fs)) w:=by
 obtain ⟨cb,hcb,hcc⟩:=(hm.mem v N.at_.pk).1.cel k hk
 have hK':FK s c t.tb nb sb k ak:=by rw[N.at_.tb];exact hK
 exact coll_look (h:=X.h) (i:=X.i) (k:=k) (cb:=cb) _ hk hcc hK' _ (H (.turn 1 k (3,m++l.take k)) (moS pb nb fb l m)) (fun g hg=>by
  obtain ⟨a1,hA1,hA2,hg⟩:=hg
  rw[N.at_.tb] at hA1 hg
  exact hH _ _ g (N.good (fun _ _ h=>by cases h)) ⟨c,sb,pb,f,hm,hoe,.inr ⟨hB,nb,fb,l,m,a,a1,k,cb,rfl,h3,hl,hml,hk,hcb,hA,hA1,hA2,.inr ⟨rfl,hg⟩⟩⟩) N.at_.rel N.at_.noRow N.at_.mem N.at_.thr (N.cell hcb).1 (by rw[N.at_.tb];exact N.at_.z) (by rw[N.at_.tb,N.at_.gc];exact N.at_.cont) (ob_turn hob N)
theorem ct_begin (hm:CMine s X c sb) (hoe:f.od[f.qd]? = some f.oe) (hB:CBack (X.h==0) pb (fun x:Int=>I x) (fun x=>(0,x)) f.cu cu) (hH:∀ x Mo' g,Good v0 Mo0 x Mo'->ctSit s X x Mo' cu g->H x Mo' g) (h3:Apart3 pb nb fb) (hl:l.length=s) (hml:m.length=s) {a:Act}(h0:0<s) (hA:FS s c X.tb nb fb a) (hob:Ob X H z cont Ch Stop cu S0 K0 v0 Mo0 σ κ (.turn 1 0 (2,[]))) (N:Now X z cont Ch S0 K0 v0 Mo0 (moS pb nb fb l m) σ κ S v w t) :
 GoesI Tryd.prog (X.h==0) (DT (ScZ z) Ch) Stop (G (sFr a) (f.top :: f.fs)) w :=
 sum_first (sb:=sb) (v:=v) hA _ (fun a1 hA1 code hcode=>coll_in (hm.mem v N.at_.pk).1.row _ N.at_.rel N.at_.noRow (fun ak v' w' hK r n e1 e2 e3=>ct_look2 (k:=0) hm hoe hB hH h3 hl hml h0 hA1 hK hob (N.same r n e1 e2 e3)) code hcode)
theorem ct_all3 (hm:CMine s X c sb) (hoe:f.od[f.qd]? = some f.oe) (hB:CBack (X.h==0) pb (fun x:Int=>I x) (fun x=>(0,x)) f.cu cu) (hH:∀ x Mo' g,Good v0 Mo0 x Mo'->ctSit s X x Mo' cu g->H x Mo' g) (h3:Apart3 pb nb fb) (hl:l.length=s) (hml:m.length=s) {k:Nat}(hk:k≤s) {a ak:Act}(hA:FS s c X.tb nb fb a) (hK:FK s c X.tb nb sb k ak)
 (hob:Ob X H z cont Ch Stop cu S0 K0 v0 Mo0 σ κ (nx3 s (m++l.take k))) (N:Now X z cont Ch S0 K0 v0 Mo0 (moS pb nb fb l m) σ κ S v w t) :
 GoesI Tryd.prog (X.h==0) (DT (ScZ z) Ch) Stop (G (kFr ak) (sTwo a :: f.top :: f.fs)) w:=by
 have hC:=(hm.mem v N.at_.pk).1
 by_cases hlt:k<s
 ·rw[nx3_lt hl hml hlt] at hob
  exact ct_look3 hm hoe hB hH h3 hl hml hlt hA hK hob N
 ·have e:k=s:=by omega
  subst e
  rw[nx3_eq hl hml] at hob
  refine coll_done (v:=v) rfl hK _ (bc:=base 57) (ac:=a) (ops:=ops574) (q:=3) (rest:=[]) (oc:=ops574.getD 3 default) (kk:=[.code (seq2 (seq2 (seq2 B57))),.inBlock 1,.inLoop L57,.inBlock 0]) (by rfl) N.at_.rel N.at_.noRow (fun w1 r1=>?_)
  have N1:=N.same r1 N.at_.noRow rfl rfl rfl
  refine sum_end (sb:=sb) (bc:=f.bd) (ac:=f.ad) (ops:=f.od) (q:=f.qd) (rest:=f.rd) (oc:=f.oe) (k:=f.kd) (nb:=nb) (fb:=fb) (v:=v) hA l m hC.s1 hl hml (hm.mem v N.at_.pk).2 (N.mo nb _ (Hp h3 l m)) (N.mo fb _ (moS_fb h3 l m)) f.fs hoe r1 N.at_.noRow (fun hml' v2 w2 r2 n2 g2=>?_) (fun hne a2 v2 w2 hA2 r2 n2 g2=>?_)
  ·rw[if_pos hml'] at hob
   exact ct_ans hB (R1.totI l) hob rfl (moS_pb _ _ _ _ _) (N1.on (N1.at_.mem.grows g2) r2 n2 N1.nv N1.at_.thr N1.at_.tb N1.at_.gc rfl)
  ·rw[if_neg hne] at hob
   exact ct_begin hm hoe hB hH h3 hl hml hC.s0 hA2 hob (N1.on (N1.at_.mem.grows g2) r2 n2 N1.nv N1.at_.thr N1.at_.tb N1.at_.gc rfl)
theorem ct_all2 (hm:CMine s X c sb) (hoe:f.od[f.qd]? = some f.oe) (hB:CBack (X.h==0) pb (fun x:Int=>I x) (fun x=>(0,x)) f.cu cu) (hH:∀ x Mo' g,Good v0 Mo0 x Mo'->ctSit s X x Mo' cu g->H x Mo' g) (h3:Apart3 pb nb fb) (hl:l.length=s) (hml:m.length=s) (hpk:X.pk fb=none) {k:Nat}(hk:k≤s) {a ak:Act}(hA:FS s c X.tb nb fb a) (hK:FK s c X.tb nb sb k ak)
 (hob:Ob X H z cont Ch Stop cu S0 K0 v0 Mo0 σ κ (nx2 s (l.take k))) (N:Now X z cont Ch S0 K0 v0 Mo0 (moS pb nb fb l m) σ κ S v w t) :
 GoesI Tryd.prog (X.h==0) (DT (ScZ z) Ch) Stop (G (kFr ak) (sOne a :: f.top :: f.fs)) w:=by
 have hC:=(hm.mem v N.at_.pk).1
 by_cases hlt:k<s
 ·rw[nx2_lt hl hlt] at hob
  exact ct_look2 hm hoe hB hH h3 hl hml hlt hA hK hob N
 ·have e:k=s:=by omega
  subst e
  rw[nx2_eq hl] at hob
  refine coll_done (v:=v) rfl hK _ (bc:=base 57) (ac:=a) (ops:=ops572) (q:=3) (rest:=[]) (oc:=ops572.getD 3 default) (kk:=[.code (seq2 B57),.inBlock 1,.inLoop L57,.inBlock 0]) (by rfl) N.at_.rel N.at_.noRow (fun w1 r1=>?_)
  have N1:=N.same r1 N.at_.noRow rfl rfl rfl
  refine sum_mid (sb:=sb) (nb:=nb) (fb:=fb) (v:=v) hA l m hl hml (N.mo nb _ (Hp h3 l m)) (N.mo fb _ (moS_fb h3 l m)) _ r1 N.at_.noRow (fun a2 w2 hA2 r2 n2 code hcode=>?_)
  have hfb:=N.mo fb _ (moS_fb h3 l m)
  have oth:∀ b,b≠fb->(v.setRow fb (l.map I).toArray).heap[b]? = v.heap[b]?:=fun b hb=>setRow_other v fb b _ hb
  have N2:Now X z cont Ch S0 K0 v0 Mo0 (moS pb nb fb l l) σ κ S (v.setRow fb (l.map I).toArray) w2 t :=
   N1.write (B:=fb) (by rw[moS_fb h3];simp) hpk r2 n2 oth (by simp[World.setRow]) rfl rfl (fun b hb=>moS_dom hb) (moS_has h3 (by rw[oth pb h3.pf];exact N.mo pb _ (moS_pb _ _ _ _ _)) (by rw[oth nb h3.nf];exact N.mo nb _ (Hp h3 l m)) (setRow_rowI hfb l)) (moS_row _ _ _ _ _)
  exact coll_in (hm.mem _ N2.at_.pk).1.row _ N2.at_.rel N2.at_.noRow (fun ak v' w' hK r n e1 e2 e3=>ct_look3 (k:=0) hm hoe hB hH h3 hl hl hC.s0 hA2 hK (by rw[List.take_zero,List.append_nil];exact hob) (N2.same r n e1 e2 e3)) code hcode
end
section
variable {s:Nat}{X:Fix (mcC s)}{z:Nat->Option Nat}{cont:Addr->Value}{Ch:Nat->Prop}{K:List (Nat×Int)}{S:TS}{v w v' w':World}{t:Thr}
theorem now_box (A:At X z cont Ch S K v w t) (hr:Rel z v' w') (hn:Ak Ch v') (hg:Grows v v') (hbox:v'.heap[v.heap.size+1]? = some (.cells #[I 0,I 0] 38 (0,0))):Now X z cont Ch S K v (fun _=>none) (boxO (v.heap.size+1)) (Gen.nv S) K S v' w' t:=by
 have hlt:v.heap.size+1<v'.heap.size:=(Array.getElem?_eq_some_iff.1 hbox).1
 refine ⟨⟨hr,hn,(A.mem.grows hg).mem,A.thr,A.tb,A.gc,A.kb,A.z,A.cont,fun b o hb=>?_,A.far⟩,Evo.toP (A.mem.grows hg),rfl,rfl,fun b o hb=>?_,fun b hb ho=>?_,fun b hb=>?_,boxO_row _⟩
 ·have h1:=A.pk b o hb
  rw[hg.old b (Array.getElem?_eq_some_iff.1 h1).1];exact h1
 ·have e:=boxO_eq (pb:=v.heap.size+1) (b:=b) (by rw[hb];simp)
  subst e
  rw[boxO_at] at hb
  cases hb
  exact hbox
 ·have e:=boxO_eq hb
  have:=A.mem.lt ho
  omega
 ·have e:=boxO_eq hb
  exact .inr (by omega)
end
theorem rowI_len {v:World}{b:Nat}{l:List Int}(h:v.heap[b]? = some (rowI l)) {k:Nat}(hk:k<l.length):∃ y,v.cell? ⟨b,k,none⟩=some (I y):=⟨_,Hw h (List.getElem?_eq_getElem hk)⟩
theorem take_set {l:List Int}{k:Nat}(x:Int) (hk:k<l.length):(l.set k x).take (k+1)=l.take k++[x]:=by
 rw[List.take_add_one,List.take_set_of_le (Nat.le_refl _),List.getElem?_set_self hk]
 rfl
noncomputable def pkgC (s:Nat):Pkg (mcC s) 86 where
 fn:=Tryd.f86
 code:=Tryd.f86.body.getD .skip
 hf:=Tryd.func86
 hname:=by kernel_rfl
 hcode:=rfl
 Mine X:=∃ c sb,CMine s X c sb
 Sit:=ctSit s
 start:=by
  rintro X ok ⟨c,sb,hm⟩ hfid c' hc cs bc ac ops q rest oc k hoc H z cont Ch Stop S K v w t A hH hob
  rw[hm.caps]
  show GoesI Tryd.prog (X.h==0) (DT (ScZ z) Ch) Stop (G ((base 86).at { tmps:=#[Pt c 0,Pt X.tb 0,.agg #[I c'.po,I c'.ca,I c'.cb,I c'.cc]]++Array.replicate 22 undef,defers:=[] } [.code (Tryd.f86.body.getD .skip)]) (bc.at ac (.inRegion ops (q :: rest) :: k) :: cs)) w
  by_cases h1:c'.po=1
  ·have es:(mcC s).start X.i c'=.turn 1 (X.i % s) (0,[((X.i % s:Nat):Int),c'.ca.tmod 1000]):=by simp[mcC,h1]
   rw[es] at hob
   rw[h1]
   refine call_add c'.ca c'.cb c'.cc cs hoc A.rel A.noRow (fun v' w' bd ad od qd rd oe kd r n g hbox hoe hB code hcode=>?_) _ rfl
   have N:=now_box A r n g hbox
   have hC:=(hm.mem v' N.at_.pk).1
   obtain ⟨cb,hcb,_⟩:=hC.cel (X.i % s) (Nat.mod_lt _ hC.s0)
   refine add_in (kb:=X.kb) (i:=X.i) (cb:=cb) _ hC (by rw[←N.at_.tb];exact (N.at_.mem.rep.cell N.at_.thr).2.1) hcb _ r n (fun a v2 w2 hA r2 n2 e1 e2 e3=>?_) code hcode
   exact ct_add (f:=⟨bd,ad,od,qd,rd,oe,kd,bc.at ac (.inRegion ops (q :: rest) :: k) :: cs⟩) hm hoe hB hH hcb hA hob (N.same r2 n2 e1 e2 e3)
  ·by_cases h2:c'.po=2
   ·have es:(mcC s).start X.i c'=.turn 1 0 (2,[]):=by simp[mcC,h2]
    rw[es] at hob
    rw[h2]
    refine call_sum c'.ca c'.cb c'.cc cs hoc A.rel A.noRow (fun v' w' bd ad od qd rd oe kd r n g hbox hoe hB code hcode=>?_) _ rfl
    have N:=now_box A r n g hbox
    have hC:=(hm.mem v' N.at_.pk).1
    have hlt:v.heap.size+1<v'.heap.size:=(Array.getElem?_eq_some_iff.1 hbox).1
    refine sum_in hC.s1 hC.row _ r n (fun a v2 w2 nb fb hA hb r2 n2 e1 e2 e3=>?_) code hcode
    have hg2:Grows v' v2:=⟨by rw[e1];simp;omega,fun b hb=>by rw[e1,Array.getElem?_push,if_neg (by simp;omega),Array.getElem?_push,if_neg (by omega)],e2,e3⟩
    have h3:Apart3 (v.heap.size+1) nb fb:=by rcases hb with ⟨rfl,rfl⟩|⟨rfl,rfl⟩<;>exact ⟨by omega,by omega,by omega⟩
    have r0:v2.heap[v'.heap.size]? = some (rowI (List.replicate s 0)):=by rw[e1,Array.getElem?_push,if_neg (by simp)];exact Array.getElem?_push_size
    have r1:v2.heap[v'.heap.size+1]? = some (rowI (List.replicate s 0)):=by rw[e1,Array.getElem?_push,if_pos (by simp)]
    have hnb:v2.heap[nb]? = some (rowI (List.replicate s 0)):=by rcases hb with ⟨rfl,rfl⟩|⟨rfl,rfl⟩<;>assumption
    have hfb:v2.heap[fb]? = some (rowI (List.replicate s 0)):=by rcases hb with ⟨rfl,rfl⟩|⟨rfl,rfl⟩<;>assumption
    have N2:Now X z cont Ch S K v (fun _=>none) (moS (v.heap.size+1) nb fb (List.replicate s 0) (List.replicate s 0)) (Gen.nv S) K S v2 w2 t :=
     N.more hg2 r2 n2 (fun b hb'=>by
      rcases moS_in hb' with rfl|rfl|rfl
      ·left;rw[boxO_at];simp
      ·right;rcases hb with ⟨rfl,rfl⟩|⟨rfl,rfl⟩<;>omega
      ·right;rcases hb with ⟨rfl,rfl⟩|⟨rfl,rfl⟩<;>omega) (moS_has h3 (by rw[hg2.old _ hlt];exact hbox) hnb hfb) (moS_row _ _ _ _ _)
    exact ct_begin (f:=⟨bd,ad,od,qd,rd,oe,kd,bc.at ac (.inRegion ops (q :: rest) :: k) :: cs⟩) hm hoe hB hH h3 (by simp) (by simp) hC.s0 hA hob N2
   ·have es:(mcC s).start X.i c'=.ans 1 0:=by simp[mcC,h1,h2]
    rw[es] at hob
    exact call_none c'.ca c'.cb c'.cc cs hoc A.rel A.noRow c'.po h1 h2 (fun v' w' r n g _=>hob.ans (1,0) (.inl rfl) v' w' S r n rfl (Evo.toP (A.mem.grows g))) _ rfl
 turn:=by
  rintro X ok - hfid op j q Mo cu g ⟨c,sb,pb,f,hm,hoe,hsit⟩ H z cont Ch Stop y S K v w t A hH hop hce hl hMo hMf hMp hob
  rcases hsit with ⟨hB,rfl,n,cb,a,hcb,hA,⟨hx,hg⟩|⟨y0,hx,hg⟩⟩|⟨hB,nb,fb,l,m,a,ak,k,cb,rfl,h3,hll,hml,hk,hcb,hA,hK,hK2,⟨hx,hg⟩|⟨hx,hg⟩⟩
  ·cases hx
   have N0:=Now.here A hMo hMf (boxO_row pb)
   have hc:=N0.cell hcb
   refine hg z Ch Stop y w v S K t (cellAt K (X.i % s)).2 A.rel A.noRow A.mem A.thr A.tb hop hce hc.1 hl (fun v1 w1 tv r1 n1 e1=>?_)
   have sd:=sta_did (i:=X.i) S tv t (cellAt K (X.i % s)).2 (cellAt K (X.i % s)).2
   have N1:=N0.on e1 r1 n1 (nv_did tv t _ _) (Gh A.thr) A.tb A.gc sd.bk
   have e2:(cellAt K (X.i % s)).1=cb:=by rw[hc.2]
   rw[e2] at hob
   exact ct_aseen hm hoe hB hH hcb hA (cellAt K (X.i % s)).2 hob N1
  ·cases hx
   have N0:=Now.here A hMo hMf (boxO_row pb)
   have hc:=N0.cell hcb
   refine hg z Ch Stop y w v S K t (cellAt K (X.i % s)).2 A.rel A.noRow A.mem A.thr A.tb hop hce hc.1 hl (fun v1 w1 tv r1 n1 e1=>?_)
   have sd:=sta_did (i:=X.i) S tv t (Bv y0 (R1.addI y0 n) (cellAt K (X.i % s)).2).1.1 (Bv y0 (R1.addI y0 n) (cellAt K (X.i % s)).2).1.2
   have N1:=N0.on e1 r1 n1 (nv_did tv t _ _) (Gh A.thr) A.tb A.gc sd.bk
   have e2:(cellAt K (X.i % s)).1=cb:=by rw[hc.2]
   rw[e2] at hob
   have hob:Ob X H z cont Ch Stop cu S K v (boxO pb) (didS (Gen.nv S) undef X.i t (Bv y0 (R1.addI y0 n) (cellAt K (X.i % s)).2).1.1 (Bv y0 (R1.addI y0 n) (cellAt K (X.i % s)).2).1.2) (K.set (X.i % s) (cb,(Bv y0 (R1.addI y0 n) (cellAt K (X.i % s)).2).2.1)) (if (cellAt K (X.i % s)).2=y0 then .ans 0 0 else .turn 1 (X.i % s) (0,[((X.i % s:Nat):Int),n])):=hob
   by_cases hx:(cellAt K (X.i % s)).2=y0
   ·rw[if_pos hx] at hob
    rw[show (Bv y0 (R1.addI y0 n) (cellAt K (X.i % s)).2).2.2=.bool true by unfold Bv;rw[if_pos hx]]
    exact add_won (bc:=f.bd) (ac:=f.ad) (ops:=f.od) (q:=f.qd) (rest:=f.rd) (oc:=f.oe) (k:=f.kd) hA f.fs hoe r1 n1 (fun w2 r2=>ct_ans hB () hob rfl (boxO_at pb) (N1.same r2 n1 rfl rfl rfl))
   ·rw[if_neg hx] at hob
    rw[show (Bv y0 (R1.addI y0 n) (cellAt K (X.i % s)).2).2.2=.bool false by unfold Bv;rw[if_neg hx]]
    exact add_again hA _ (fun a hA=>ct_add hm hoe hB hH hcb hA hob N1)
  ·cases hx
   have N0:=Now.here A hMo hMf (moS_row pb nb fb l m)
   have hc:=N0.cell hcb
   refine hg z Ch Stop y w v S K t (cellAt K j).2 A.rel A.noRow A.mem A.thr A.tb hop hce hc.1 hl (fun v1 w1 tv r1 n1 e1=>?_)
   have sd:=sta_did (i:=X.i) S tv t (cellAt K j).2 (cellAt K j).2
   have N1:=N0.on e1 r1 n1 (nv_did tv t _ _) (Gh A.thr) A.tb A.gc sd.bk
   have e2:(cellAt K j).1=cb:=by rw[hc.2]
   rw[e2] at hob
   have hpk:∀ b,moS pb nb fb l m b≠none->X.pk b=none:=fun b hb=>Classical.byContradiction fun h=>hMp b hb (.inr (.inr (.inr h)))
   have hnb:=N1.mo nb _ (Hp h3 l m)
   obtain ⟨y1,hy1⟩:=rowI_len hnb (k:=j) (by omega)
   refine coll_put (cellAt K j).2 y1 hk (hm.mem v1 N1.at_.pk).1.s1 hy1 (rowI_froz hnb j) hK hK2 _ r1 n1 (fun a2 w2 hK' r2 n2=>?_)
   have oth:∀ b,b≠nb->(v1.setCell ⟨nb,j,none⟩ (I (cellAt K j).2)).heap[b]? = v1.heap[b]?:=fun b hb=>Below.heap_setCell _ _ _ _ hb
   have N2:Now X z cont Ch S K v (moS pb nb fb l m) (moS pb nb fb (l.set j (cellAt K j).2) m) _ _ _ (v1.setCell ⟨nb,j,none⟩ (I (cellAt K j).2)) w2 _ :=
    N1.write (B:=nb) (by rw[Hp h3];simp) (hpk nb (by rw[Hp h3];simp)) r2 n2 oth (by simp[World.setCell]) rfl rfl (fun b hb=>moS_dom hb) (moS_has h3 (by rw[oth pb h3.pn];exact N1.mo pb _ (moS_pb _ _ _ _ _)) (rowI_set hnb j _) (by rw[oth fb (fun e=>h3.nf e.symm)];exact N1.mo fb _ (moS_fb h3 l m))) (moS_row _ _ _ _ _)
   refine ct_all2 hm hoe hB hH h3 (by rw[List.length_set];exact hll) hml (hpk fb (by rw[moS_fb h3];simp)) (k:=j+1) (by omega) hA hK' ?_ N2
   rw[take_set _ (by omega)]
   exact hob
  ·cases hx
   have N0:=Now.here A hMo hMf (moS_row pb nb fb l m)
   have hc:=N0.cell hcb
   refine hg z Ch Stop y w v S K t (cellAt K j).2 A.rel A.noRow A.mem A.thr A.tb hop hce hc.1 hl (fun v1 w1 tv r1 n1 e1=>?_)
   have sd:=sta_did (i:=X.i) S tv t (cellAt K j).2 (cellAt K j).2
   have N1:=N0.on e1 r1 n1 (nv_did tv t _ _) (Gh A.thr) A.tb A.gc sd.bk
   have e2:(cellAt K j).1=cb:=by rw[hc.2]
   rw[e2] at hob
   have hpk:∀ b,moS pb nb fb l m b≠none->X.pk b=none:=fun b hb=>Classical.byContradiction fun h=>hMp b hb (.inr (.inr (.inr h)))
   have hnb:=N1.mo nb _ (Hp h3 l m)
   obtain ⟨y1,hy1⟩:=rowI_len hnb (k:=j) (by omega)
   refine coll_put (cellAt K j).2 y1 hk (hm.mem v1 N1.at_.pk).1.s1 hy1 (rowI_froz hnb j) hK hK2 _ r1 n1 (fun a2 w2 hK' r2 n2=>?_)
   have oth:∀ b,b≠nb->(v1.setCell ⟨nb,j,none⟩ (I (cellAt K j).2)).heap[b]? = v1.heap[b]?:=fun b hb=>Below.heap_setCell _ _ _ _ hb
   have N2:Now X z cont Ch S K v (moS pb nb fb l m) (moS pb nb fb (l.set j (cellAt K j).2) m) _ _ _ (v1.setCell ⟨nb,j,none⟩ (I (cellAt K j).2)) w2 _ :=
    N1.write (B:=nb) (by rw[Hp h3];simp) (hpk nb (by rw[Hp h3];simp)) r2 n2 oth (by simp[World.setCell]) rfl rfl (fun b hb=>moS_dom hb) (moS_has h3 (by rw[oth pb h3.pn];exact N1.mo pb _ (moS_pb _ _ _ _ _)) (rowI_set hnb j _) (by rw[oth fb (fun e=>h3.nf e.symm)];exact N1.mo fb _ (moS_fb h3 l m))) (moS_row _ _ _ _ _)
   refine ct_all3 hm hoe hB hH h3 (by rw[List.length_set];exact hll) hml (k:=j+1) (by omega) hA hK' ?_ N2
   rw[take_set _ (by omega),←List.append_assoc]
   exact hob
 wake:=by
  rintro X ok - hfid j q Mo cu g ⟨c,sb,pb,f,hm,hoe,hsit⟩
  rcases hsit with ⟨hB,rfl,n,cb,a,hcb,hA,⟨hx,hg⟩|⟨y0,hx,hg⟩⟩|⟨hB,nb,fb,l,m,a,ak,k,cb,rfl,h3,hll,hml,hk,hcb,hA,hK,hK2,⟨hx,hg⟩|⟨hx,hg⟩⟩<;>cases hx
section
variable {v u u':World}{S S1:TS}{K:List (Nat×Int)}{xs:List Int}{pk:Nat->Option Obj}
theorem Objs.set (h:Objs v S xs pk S1 K u) {b:Nat}{o o':Obj}(hb:pk b=some o) (hvb:v.heap.size≤b) (hw:∀ x,x≠b->u'.heap[x]? = u.heap[x]?) (hn:u'.heap[b]? = some o') (hs:u'.heap.size=u.heap.size) (e1:u'.os=u.os) (e2:u'.output=u.output) (hr:∃ c e f,o'=.cells c e f):Objs v S xs (padd pk b o') S1 K u':=by
 have ho:=(h.new b (by rw[hb];simp)).2
 have em:=h.cel.mem.other (v':=u') ho hw hs e1 e2
 refine ⟨⟨em.mem,⟨e1.trans h.cel.fr.os,e2.trans h.cel.fr.output,by rw[hs];exact h.cel.fr.size,fun x hx hn=>by rw[hw x (by omega)];exact h.cel.fr.block x hx hn⟩,h.cel.own⟩,h.vals,h.st,fun x y hx=>?_,fun x hx=>?_,fun x y hx=>?_⟩
 ·by_cases e:x=b
  ·subst e;rw[Ey] at hx;cases hx;exact hn
  ·rw[D2 e] at hx;rw[hw x e];exact h.has x y hx
 ·by_cases e:x=b
  ·subst e;exact h.new x (by rw[hb];simp)
  ·rw[D2 e] at hx;exact h.new x hx
 ·by_cases e:x=b
  ·subst e;rw[Ey] at hx;cases hx;exact hr
  ·rw[D2 e] at hx;exact h.row x y hx
end
theorem padd_padd (pk:Nat->Option Obj) (b:Nat) (o o':Obj):padd (padd pk b o) b o'=padd pk b o':=by
 funext x;unfold padd;split<;>rfl
theorem padd_comm {pk:Nat->Option Obj}{b c:Nat}(h:b≠c) (o o':Obj):padd (padd pk b o) c o'=padd (padd pk c o') b o:=by
 funext x
 unfold padd
 by_cases h1:x=c
 ·subst h1
  rw[if_pos rfl,if_neg (fun e=>h e.symm),if_pos rfl]
 ·by_cases h2:x=b
  ·subst h2
   rw[if_neg h1,if_pos rfl,if_pos rfl]
  ·rw[if_neg h1,if_neg h2,if_neg h2,if_neg h1]
theorem info102:(Tryd.prog.info? 102).map (fun i=>(i.zero,i.size,i.bytes))=some (some (.pointer none),1,8):=by kernel_rfl
theorem make_ptrs (n:Nat) (hn:n≤1048576) (w:World) :
 (Instr.makeSlice 134 (.int .i64 (n:Int)) (.int .i64 (n:Int))).run Tryd.prog w=.ok (.slice (some ⟨w.heap.size,0,none⟩) n n) (w.alloc (.cells (madeCells #[.pointer none] n) 102)):=by
 cases hq:Tryd.prog.info? 102 with
 |none=>have:=info102;rw[hq] at this;cases this
 |some i =>
  have hi:=info102
  rw[hq] at hi
  simp only[Option.map_some,Option.some.injEq,Prod.mk.injEq] at hi
  obtain ⟨hz,hs,hb⟩:=hi
  have:=run_make (P:=Tryd.prog) w 134 102 i _ Tryd.underlying134 hq hz .i64 .i64 (n:Int) (n:Int) (by omega) (by omega) (by rw[hb];omega) (by omega)
  rw[hs] at this
  rw[this]
  simp[Value.cells]
def rowP (s:Nat) (K:List (Nat×Int)):List Value:=(List.range s).map fun j=>match K[j]? with|some c=>Pt c.1 0|none=>.pointer none
def objP (s:Nat) (K:List (Nat×Int)):Obj:=.cells (rowP s K).toArray 102 (0,0)
theorem made_rowP (s:Nat):(.cells (madeCells #[.pointer none] s) 102:Obj)=objP s []:=by
 unfold objP rowP
 congr 1
 apply Array.ext_getElem?
 intro i
 by_cases h:i<s
 ·simp[madeCells,h,Nat.mod_one]
 ·simp[madeCells,h]
theorem rowP_next {s:Nat}{K:List (Nat×Int)}(c:Nat×Int) (hK:K.length<s):(rowP s K).toArray.setIfInBounds K.length (Pt c.1 0)=(rowP s (K++[c])).toArray:=by
 apply Array.ext_getElem?
 intro i
 unfold rowP
 rw[Array.getElem?_setIfInBounds]
 by_cases h:K.length=i
 ·subst h
  simp[hK]
 ·rw[if_neg h]
  by_cases hi:i<s
  ·by_cases hlt:i<K.length
   ·have e2:(K++[c])[i]? = K[i]?:=List.getElem?_append_left hlt
    simp[hi,e2]
   ·have h1:K[i]? = none:=List.getElem?_eq_none (by omega)
    have h2:(K++[c])[i]? = none:=List.getElem?_eq_none (by simp;omega)
    simp[hi,h1,h2]
  ·simp[hi]
theorem objP_at {s k:Nat}{K:List (Nat×Int)}{w:World}{N:Nat}(h:w.heap[N]? = some (objP s K)) (hK:K.length=k) (hk:k<s):w.cell? ⟨N,k,none⟩=some (.pointer none)∧w.frozen? ⟨N,k,none⟩=false:=by
 constructor
 ·refine cell_of h ?_
  unfold rowP
  have:K[k]? = none:=List.getElem?_eq_none (by omega)
  simp[hk,this]
 ·simp only[World.frozen?,h,objP]
  simp
noncomputable def pkN (pk0:Nat->Option Obj) (s N:Nat) (K:List (Nat×Int)):Nat->Option Obj:=padd (padd pk0 (N+1) (.cells #[.slice (some ⟨N,0,none⟩) s s] 136 (0,0))) N (objP s K)
theorem body54 {v:World}{S:TS}{pk0:Nat->Option Obj}(hO:Objs v S [] pk0 S [] v) (hlt:∀ b,pk0 b≠none->b<v.heap.size) (s:Nat) (h0:0<s) (h1:s≤16):Body Tryd.f54 #[Pt S.wb 0,I s] v (fun r v'=>r=Pt (v.heap.size+1) 0∧∃ S1 K,K.length=s∧Objs v S (List.replicate s 0) (pkN pk0 s v.heap.size K) S1 K v'):=by
 intro code hb
 obtain rfl:=Option.some.inj hb
 clear hb
 have hmk:=make_ptrs s (by omega)
 rw[made_rowP] at hmk
 have hmx:(Builtin.max_ #[3,3] 3 #[I s,I 1])=pure (I s):=by
  show (pure (Value.int .i64 (if (1:Int) > s then 1 else s)):Sem Value)=_
  rw[if_neg (by omega)]
 have hmn:(Builtin.min_ #[3,3] 3 #[I s,I 16])=pure (I s):=by
  show (pure (Value.int .i64 (if (16:Int)<s then 16 else s)):Sem Value)=_
  rw[if_neg (by omega)]
 have HO:Hid (Objs v S [] pk0 S [] v):=⟨hO⟩
 have HL:Hid (∀ b,pk0 b≠none->b<v.heap.size):=⟨hlt⟩
 clear hO hlt
 simp only[Tryd.ntmps54,List.size_toArray,List.length_cons,List.length_nil,Nat.reduceAdd,Nat.reduceSub,Array.replicate_succ,Array.replicate_zero,List.push_toArray,List.append_toArray,List.nil_append,List.cons_append]
 go_wp2_with fail
 go_loopw [18] (fun i u=>∃ (k:Nat) (K:List (Nat×Int)) (S1:TS),k≤s∧i=.int .i64 k∧K.length=k∧Objs v S (List.replicate k 0) (pkN pk0 s v.heap.size K) S1 K u) (fun i _=>s - (intOf i).toNat)
 case atStart =>
  refine ⟨0,[],S,Nat.zero_le _,rfl,rfl,?_⟩
  have o1:=HO.out.push (u':=v.alloc (objP s [])) (c:=(rowP s []).toArray) (t:=102) rfl rfl rfl
  have o2:=o1.push (u':=(v.alloc (objP s [])).alloc (.cells #[.slice (some ⟨v.heap.size,0,none⟩) s s] 136)) (c:=#[.slice (some ⟨v.heap.size,0,none⟩) s s]) (t:=136) rfl rfl rfl
  have hsz:(v.alloc (objP s [])).heap.size=v.heap.size+1:=by simp
  rw[hsz,padd_comm (by omega)] at o2
  exact o2
 case round =>
  obtain ⟨k,K,S1,hk,rfl,hK,hO⟩:=hrel
  have HOB:Hid (Objs v S (List.replicate k 0) (pkN pk0 s v.heap.size K) S1 K wr):=⟨hO⟩
  by_cases hlt:k<s
  ·have hN:=hO.has v.heap.size (objP s K) (by unfold pkN;rw[Ey])
   have hN1:=hO.has (v.heap.size+1) (.cells #[.slice (some ⟨v.heap.size,0,none⟩) s s] 136 (0,0)) (by unfold pkN;rw[D2 (by omega),Ey])
   have c1:wr.cell? ⟨v.heap.size+1,0,none⟩=some (.slice (some ⟨v.heap.size,0,none⟩) s s):=cell_of hN1 rfl
   have hks:(k:Int)<(s:Int):=by omega
   clear hO hN hN1
   generalize hNN:v.heap.size=N at HOB c1
   go_wp2_with fail
   go_region_held3 (fun u=>u.cell? ⟨N+1,0,none⟩=some (.slice (some ⟨N,0,none⟩) s s))
    (first|assumption|(simp[go_sem, *];done))
    (first
      |(go_at_call 63;refine ((HOB.out.same (u':=wr.drew) rfl rfl rfl).cell 0 (by rw[List.length_replicate];omega)).mono ?_;rintro e w1 ⟨cb,rfl,hs1,S2,o2⟩
        have HO2:Hid (Objs v S (List.replicate k 0++[0]) (pkN pk0 s N K) S2 (K++[(cb,0)]) w1):=⟨o2⟩
        have hN:=o2.has N (objP s K) (by unfold pkN;rw[Ey])
        have hN1:=o2.has (N+1) (.cells #[.slice (some ⟨N,0,none⟩) s s] 136 (0,0)) (by unfold pkN;rw[D2 (by omega),Ey])
        have c2:w1.cell? ⟨N+1,0,none⟩=some (.slice (some ⟨N,0,none⟩) s s):=cell_of hN1 rfl
        obtain ⟨c3,c4⟩:=objP_at hN hK hlt
        have HN:Hid (w1.heap[N]? = some (objP s K)):=⟨hN⟩
        clear o2 hN hN1))
   go_wp2_with fail
   go_roundw
   case rel =>
    refine ⟨k+1,K++[(cb,0)],S2,by omega,by go_num,by rw[List.length_append,hK];rfl,?_⟩
    have oth:∀ b,b≠N->(w1.setCell ⟨N,k,none⟩ (.pointer (some ⟨cb,0,none⟩))).heap[b]? = w1.heap[b]?:=fun b hb=>Below.heap_setCell _ _ _ _ hb
    have hrow:(w1.setCell ⟨N,k,none⟩ (.pointer (some ⟨cb,0,none⟩))).heap[N]? = some (objP s (K++[(cb,0)])):=by
     have:=heap_setCell_same (o:=k) (show w1.heap[N]? = some (.cells (rowP s K).toArray 102 (0,0)) from HN.out) (Pt cb 0)
     rw[←hK,rowP_next (cb,0) (by omega)] at this
     rw[←hK]
     exact this
    have o3:=HO2.out.set (b:=N) (o:=objP s K) (o':=objP s (K++[(cb,0)])) (by unfold pkN;rw[Ey]) (by omega) oth hrow (by simp[World.setCell]) rfl rfl ⟨_,_,_,rfl⟩
    rw[List.replicate_succ']
    unfold pkN at o3 ⊢
    rw[padd_padd] at o3
    exact o3
   case measure=>simp[intOf];omega
  ·have:k=s:=by omega
   subst this
   go_wp2_with fail
   go_ret
   exact ⟨_,rfl,rfl,S1,K,hK,HOB.out⟩
noncomputable def B52:Code:=Tryd.f52.body.getD .skip
noncomputable def k520:Code:=seq1 B52
noncomputable def k521:Code:=seq1 (seq2 B52)
noncomputable def k522:Code:=seq1 (seq2 (seq2 B52))
noncomputable def R52:Code:=seq2 (seq2 (seq2 B52))
theorem eB52:B52=.seq k520 (.seq k521 (.seq k522 R52)):=by kernel_rfl
theorem fine_k520:Av Tryd.prog true LV k520:=Bu A7 extT (by kernel_rfl)
theorem fine_k521:Av Tryd.prog true LV k521:=Bu A7 extT (by kernel_rfl)
theorem fine_k522:Av Tryd.prog true LV k522:=Bu A7 extT (by kernel_rfl)
section
variable {S:TS}{v:World}{a:Act}{n cap:Nat}{p:Option Addr}{m:Int}
theorem k520_wp (hA:Fl 28 [(0,Pt S.wb 0),(1,I m),(2,.slice p n cap)] a):k520.wp Tryd.prog (fun e a w'=>e=.normal∧Fl 28 [(0,Pt S.wb 0),(1,I m),(2,.slice p n cap),(6,.slice none 0 0),(7,I 0)] a∧w'.heap=v.heap∧w'.os=v.os∧w'.output=v.output) a v:=by
 obtain ⟨hsz,hd,hpp⟩:=hA
 obtain ⟨u,rfl,hg⟩:=litN hsz hd
 have u0:=(hg 0).symm.trans (hpp (0,Pt S.wb 0) (by simp))
 have u1:=(hg 1).symm.trans (hpp (1,I m) (by simp))
 have u2:=(hg 2).symm.trans (hpp (2,.slice p n cap) (by simp))
 clear hg hpp hsz hd
 unfold k520 B52 Tryd.f52 seq1
 simp only[Option.getD_some,lits,Nat.reduceAdd,u0,u1,u2]
 clear u0 u1 u2
 go_wp2_with fail
 first
  |exact ⟨rfl,⟨rfl,rfl,by
    intro p hp
    simp only[List.mem_cons,List.not_mem_nil,or_false] at hp
    rcases hp with rfl|rfl|rfl|rfl|rfl<;>rfl⟩,rfl,rfl,rfl⟩
  |exact ⟨⟨rfl,rfl,by
    intro p hp
    simp only[List.mem_cons,List.not_mem_nil,or_false] at hp
    rcases hp with rfl|rfl|rfl|rfl|rfl<;>rfl⟩,rfl,rfl,rfl⟩
  |exact ⟨rfl,rfl,by
    intro p hp
    simp only[List.mem_cons,List.not_mem_nil,or_false] at hp
    rcases hp with rfl|rfl|rfl|rfl|rfl<;>rfl⟩
theorem k521_no (h:Rep zn S v) (pc:Nat->Option Addr) (ln cp:Nat->Nat) (hs:∀ k,k<n->∃ sb so,p=some ⟨sb,so,none⟩∧v.cell? ⟨sb,so+k,none⟩=some (.slice (pc k) (ln k) (cp k))) (hn:n≤17592186043904) (hr:S.ran=false) {E:Int}(hE:Refused n ln E) (hA:Fl 28 [(0,Pt S.wb 0),(1,I m),(2,.slice p n cap),(6,.slice none 0 0),(7,I 0)] a) :
 k521.wp Tryd.prog (fun e a w'=>e=.ret∧∃ x,(results Tryd.f52 a.tmps).run Tryd.prog w'=.ok x w'∧x=.tuple #[.slice none 0 0,I E]∧w'.heap=v.heap∧w'.os=v.os∧w'.output=v.output) a v:=by
 have h19:=(body19 h p n cap hn pc ln cp hs).calls Tryd.func59 rfl
 have H19:Hid (Calls Tryd.prog 59 #[Pt S.wb 0,.slice p n cap] v (fun e w'=>e=.returned (I E)∧w'=v)):=⟨h19.mono (by
  rintro e w' ⟨r,rfl,rfl,⟨hk,rfl⟩|⟨hk,rfl⟩⟩
  ·rcases hE with ⟨_,rfl⟩|⟨h1,_⟩
   ·exact ⟨rfl,rfl⟩
   ·obtain ⟨k,k1,k2⟩:=hk
    exact absurd (h1 k k1) (by omega)
  ·rcases hE with ⟨⟨k,k1,k2⟩,_⟩|⟨_,h1,rfl⟩
   ·exact absurd (hk k k1) (by omega)
   ·refine ⟨?_,rfl⟩
    unfold checkE
    rw[if_pos (h1.imp_right .inl)])⟩
 have hE0:¬ E=0:=by rcases hE with ⟨_,rfl⟩|⟨_,_,rfl⟩<;>decide
 clear h19 h hs hn hr hE
 obtain ⟨hsz,hd,hpp⟩:=hA
 obtain ⟨u,rfl,hg⟩:=litN hsz hd
 have u0:=(hg 0).symm.trans (hpp (0,Pt S.wb 0) (by simp))
 have u1:=(hg 1).symm.trans (hpp (1,I m) (by simp))
 have u2:=(hg 2).symm.trans (hpp (2,.slice p n cap) (by simp))
 have u6:=(hg 6).symm.trans (hpp (6,.slice none 0 0) (by simp))
 have u7:=(hg 7).symm.trans (hpp (7,I 0) (by simp))
 clear hg hpp hsz hd
 unfold k521 B52 Tryd.f52 seq1 seq2
 simp only[Option.getD_some,lits,Nat.reduceAdd,u0,u1,u2,u6,u7]
 clear u0 u1 u2 u6 u7
 go_wp2_with (first
  |(go_at_call 59;refine H19.out.mono ?_;rintro e w1 ⟨rfl,rfl⟩))
 exact results_tmp2 (t:=6) (u:=7) rfl _ _ _
theorem k521_yes (h:Rep zn S v) (pc:Nat->Option Addr) (ln cp:Nat->Nat) (hs:∀ k,k<n->∃ sb so,p=some ⟨sb,so,none⟩∧v.cell? ⟨sb,so+k,none⟩=some (.slice (pc k) (ln k) (cp k))) (hln:∀ k,k<n->ln k≤64) (hn:0<n∧n≤8) (hr:S.ran=false) (hA:Fl 28 [(0,Pt S.wb 0),(1,I m),(2,.slice p n cap),(6,.slice none 0 0),(7,I 0)] a) :
 k521.wp Tryd.prog (fun e a w'=>e=.normal∧Fl 28 [(0,Pt S.wb 0),(1,I m),(2,.slice p n cap),(6,.slice none 0 0),(7,I 0)] a∧w'.heap=v.heap∧w'.os=v.os∧w'.output=v.output) a v:=by
 have h19:=(body19 h p n cap (by omega) pc ln cp hs).calls Tryd.func59 rfl
 have he:checkE n S.ran=0:=by unfold checkE;rw[if_neg (by rw[hr];rintro (h|h|h)<;>first|omega|cases h)]
 have H19:Hid (Calls Tryd.prog 59 #[Pt S.wb 0,.slice p n cap] v (fun e w'=>e=.returned (I 0)∧w'=v)):=⟨h19.mono (by
  rintro e w' ⟨r,rfl,rfl,⟨⟨k,hk,h1⟩,_⟩|⟨_,rfl⟩⟩
  ·exact absurd (hln k hk) (by omega)
  ·rw[he];exact ⟨rfl,rfl⟩)⟩
 clear h19 h hs hln hn hr he
 obtain ⟨hsz,hd,hpp⟩:=hA
 obtain ⟨u,rfl,hg⟩:=litN hsz hd
 have u0:=(hg 0).symm.trans (hpp (0,Pt S.wb 0) (by simp))
 have u1:=(hg 1).symm.trans (hpp (1,I m) (by simp))
 have u2:=(hg 2).symm.trans (hpp (2,.slice p n cap) (by simp))
 have u6:=(hg 6).symm.trans (hpp (6,.slice none 0 0) (by simp))
 have u7:=(hg 7).symm.trans (hpp (7,I 0) (by simp))
 clear hg hpp hsz hd
 unfold k521 B52 Tryd.f52 seq1 seq2
 simp only[Option.getD_some,lits,Nat.reduceAdd,u0,u1,u2,u6,u7]
 clear u0 u1 u2 u6 u7
 go_wp2_with (first
  |(go_at_call 59;refine H19.out.mono ?_;rintro e w1 ⟨rfl,rfl⟩))
 first
  |exact ⟨rfl,⟨rfl,rfl,by
    intro p hp
    simp only[List.mem_cons,List.not_mem_nil,or_false] at hp
    rcases hp with rfl|rfl|rfl|rfl|rfl<;>rfl⟩,rfl,rfl,rfl⟩
  |exact ⟨⟨rfl,rfl,by
    intro p hp
    simp only[List.mem_cons,List.not_mem_nil,or_false] at hp
    rcases hp with rfl|rfl|rfl|rfl|rfl<;>rfl⟩,rfl,rfl,rfl⟩
  |exact ⟨rfl,rfl,by
    intro p hp
    simp only[List.mem_cons,List.not_mem_nil,or_false] at hp
    rcases hp with rfl|rfl|rfl|rfl|rfl<;>rfl⟩
theorem k522_yes (h1:1≤m) (h2:m≤16) (hA:Fl 28 [(0,Pt S.wb 0),(1,I m),(2,.slice p n cap),(6,.slice none 0 0),(7,I 0)] a):k522.wp Tryd.prog (fun e a w'=>e=.normal∧Fl 28 [(0,Pt S.wb 0),(1,I m),(2,.slice p n cap),(6,.slice none 0 0),(7,I 0)] a∧w'.heap=v.heap∧w'.os=v.os∧w'.output=v.output) a v:=by
 have g1:decide (m<1)=false:=decide_eq_false (by omega)
 have g2:decide (m > 16)=false:=decide_eq_false (by omega)
 have g3:¬ m<1:=by omega
 have g4:¬ m > 16:=by omega
 obtain ⟨hsz,hd,hpp⟩:=hA
 obtain ⟨u,rfl,hg⟩:=litN hsz hd
 have u0:=(hg 0).symm.trans (hpp (0,Pt S.wb 0) (by simp))
 have u1:=(hg 1).symm.trans (hpp (1,I m) (by simp))
 have u2:=(hg 2).symm.trans (hpp (2,.slice p n cap) (by simp))
 have u6:=(hg 6).symm.trans (hpp (6,.slice none 0 0) (by simp))
 have u7:=(hg 7).symm.trans (hpp (7,I 0) (by simp))
 clear hg hpp hsz hd
 unfold k522 B52 Tryd.f52 seq1 seq2
 simp only[Option.getD_some,lits,Nat.reduceAdd,u0,u1,u2,u6,u7]
 clear u0 u1 u2 u6 u7
 go_wp2_with fail
 first
  |exact ⟨rfl,⟨rfl,rfl,by
    intro p hp
    simp only[List.mem_cons,List.not_mem_nil,or_false] at hp
    rcases hp with rfl|rfl|rfl|rfl|rfl<;>rfl⟩,rfl,rfl,rfl⟩
  |exact ⟨⟨rfl,rfl,by
    intro p hp
    simp only[List.mem_cons,List.not_mem_nil,or_false] at hp
    rcases hp with rfl|rfl|rfl|rfl|rfl<;>rfl⟩,rfl,rfl,rfl⟩
  |exact ⟨rfl,rfl,by
    intro p hp
    simp only[List.mem_cons,List.not_mem_nil,or_false] at hp
    rcases hp with rfl|rfl|rfl|rfl|rfl<;>rfl⟩
theorem k522_no1 (h1:m<1) (hA:Fl 28 [(0,Pt S.wb 0),(1,I m),(2,.slice p n cap),(6,.slice none 0 0),(7,I 0)] a):k522.wp Tryd.prog (fun e a w'=>e=.ret∧∃ x,(results Tryd.f52 a.tmps).run Tryd.prog w'=.ok x w'∧x=.tuple #[.slice none 0 0,I 1]∧w'.heap=v.heap∧w'.os=v.os∧w'.output=v.output) a v:=by
 have g1:decide (m<1)=true:=decide_eq_true h1
 obtain ⟨hsz,hd,hpp⟩:=hA
 obtain ⟨u,rfl,hg⟩:=litN hsz hd
 have u0:=(hg 0).symm.trans (hpp (0,Pt S.wb 0) (by simp))
 have u1:=(hg 1).symm.trans (hpp (1,I m) (by simp))
 have u2:=(hg 2).symm.trans (hpp (2,.slice p n cap) (by simp))
 have u6:=(hg 6).symm.trans (hpp (6,.slice none 0 0) (by simp))
 have u7:=(hg 7).symm.trans (hpp (7,I 0) (by simp))
 clear hg hpp hsz hd
 unfold k522 B52 Tryd.f52 seq1 seq2
 simp only[Option.getD_some,lits,Nat.reduceAdd,u0,u1,u2,u6,u7]
 clear u0 u1 u2 u6 u7
 go_wp2_with fail
 exact results_tmp2 (t:=6) (u:=7) rfl _ _ _
theorem k522_no2 (h1:16<m) (hA:Fl 28 [(0,Pt S.wb 0),(1,I m),(2,.slice p n cap),(6,.slice none 0 0),(7,I 0)] a):k522.wp Tryd.prog (fun e a w'=>e=.ret∧∃ x,(results Tryd.f52 a.tmps).run Tryd.prog w'=.ok x w'∧x=.tuple #[.slice none 0 0,I 1]∧w'.heap=v.heap∧w'.os=v.os∧w'.output=v.output) a v:=by
 have g1:decide (m<1)=false:=decide_eq_false (by omega)
 have g2:decide (m > 16)=true:=decide_eq_true h1
 have g3:¬ m<1:=by omega
 obtain ⟨hsz,hd,hpp⟩:=hA
 obtain ⟨u,rfl,hg⟩:=litN hsz hd
 have u0:=(hg 0).symm.trans (hpp (0,Pt S.wb 0) (by simp))
 have u1:=(hg 1).symm.trans (hpp (1,I m) (by simp))
 have u2:=(hg 2).symm.trans (hpp (2,.slice p n cap) (by simp))
 have u6:=(hg 6).symm.trans (hpp (6,.slice none 0 0) (by simp))
 have u7:=(hg 7).symm.trans (hpp (7,I 0) (by simp))
 clear hg hpp hsz hd
 unfold k522 B52 Tryd.f52 seq1 seq2
 simp only[Option.getD_some,lits,Nat.reduceAdd,u0,u1,u2,u6,u7]
 clear u0 u1 u2 u6 u7
 go_wp2_with fail
 exact results_tmp2 (t:=6) (u:=7) rfl _ _ _
end
structure GF (pk0:Nat->Option Obj):Prop where
 a:∃ c t f,pk0 6=some (.cells c t f)∧c[0]? = some (I 0)∧c[1]? = some (I 32)
 b:∃ c t f,pk0 7=some (.cells c t f)∧c[0]? = some (I 32)∧c[1]? = some (I 30)
def QCtr (s:Nat) (caps:Array Value) (pk:Nat->Option Obj) (K:List (Nat×Int)):Prop :=
 0<s∧s≤16∧∃ pk0 N,7<N∧GF pk0∧caps=#[Pt (N+1) 0]∧pk=pkN pk0 s N K∧K.length=s
theorem mineCtr (s:Nat) (caps:Array Value) (pk:Nat->Option Obj) (K:List (Nat×Int)) (h:QCtr s caps pk K) (X:Fix (mcC s)) (hf:X.fid=86) (hc:X.caps=caps) (hp:X.pk=pk) (hk:X.kb=K.map (·.1)):(pkgC s).Mine X:=by
 obtain ⟨h0,h1,pk0,N,hN,hG,rfl,rfl,hK⟩:=h
 refine ⟨N+1,N,hc,fun v hv=>?_⟩
 rw[hp] at hv
 have e0:=hv (N+1) (.cells #[.slice (some ⟨N,0,none⟩) s s] 136 (0,0)) (by unfold pkN;rw[D2 (by omega),Ey])
 have e1:=hv N (objP s K) (by unfold pkN;rw[Ey])
 refine ⟨⟨cell_of e0 rfl,fun j hj=>?_,h0,h1⟩,?_⟩
 ·obtain ⟨c,hcj⟩:∃ c,K[j]? = some c:=⟨_,List.getElem?_eq_getElem (by omega)⟩
  refine ⟨c.1,by rw[hk,List.getElem?_map,hcj];rfl,cell_of e1 ?_⟩
  unfold rowP
  simp[hj,hcj]
 ·obtain ⟨c6,t6,f6,g6,a0,a1⟩:=hG.a
  obtain ⟨c7,t7,f7,g7,b0,b1⟩:=hG.b
  have q6:=hv 6 _ (by unfold pkN;rw[D2 (by omega),D2 (by omega)];exact g6)
  have q7:=hv 7 _ (by unfold pkN;rw[D2 (by omega),D2 (by omega)];exact g7)
  exact ⟨cell_of q6 a0,cell_of q6 a1,cell_of q7 b0,cell_of q7 b1⟩
theorem cplay_in {Ch:Nat->Prop}{Stop:Goroutine->World->Prop}{main:Bool}{S:TS}{v w:World}(s:Nat) (h0:0<s) (h1:s≤16) {pk0:Nat->Option Obj}(hG:GF pk0) (hO:Objs v S [] pk0 S [] v) (hlt:∀ b,pk0 b≠none->b<v.heap.size) (p:Option Addr) (n cap:Nat) (hn8:0<n∧n≤8) (hran:S.ran=false) (pc:Nat->Option Addr) (ln cp:Nat->Nat) (hs:∀ k,k<n->∃ sb so,p=some ⟨sb,so,none⟩∧v.cell? ⟨sb,so+k,none⟩=some (.slice (pc k) (ln k) (cp k))) (hln:∀ k,k<n->ln k≤64)
 (cs:List Frame) {bc:Frame} {ac:Act} {ops:Array Oper} {q:Nat} {rest:List Nat} {oc:Oper} {k:List Item} (hoc:ops[q]? = some oc)
 (hvw:Rel zn v w) (hn:Ak Ch v)
 (hk:∀ v' w' (bd:Frame) (ad:Act) (od:Array Oper) (qd:Nat) (rd:List Nat) (oe:Oper) (kd:List Item) (caps:Array Value) (pk:Nat->Option Obj) (S1:TS) (K:List (Nat×Int)),Rel zn v' w'->Ak Ch v'->Objs v S (List.replicate s 0) pk S1 K v'->QCtr s caps pk K->od[qd]? = some oe ->
   (∀ (Ch:Nat->Prop) (Stop:Goroutine->World->Prop) (w:World) (x:Value),(∀ d,GoesI Tryd.prog main (DT (ScZ zn) Ch) Stop (G (bc.at (ac.put oc.dst (.tuple #[x,I 0])) (.inRegion ops rest :: k)) cs) (w.at d))->GoesI Tryd.prog main (DT (ScZ zn) Ch) Stop (G (bd.at (ad.put oe.dst x) (.inRegion od rd :: kd)) (bc.at ac (.inRegion ops (q :: rest) :: k) :: cs)) w) ->
   GoesI Tryd.prog main (DT (ScZ zn) Ch) Stop (G ((base 60).at { tmps:=#[Pt S.wb 0,.slice p n cap,.func (.func 86) ((mcC s).bn caps) ((mcC s).fr caps)]++Array.replicate 36 undef,defers:=[] } [.code B20]) (bd.at ad (.inRegion od (qd :: rd) :: kd) :: bc.at ac (.inRegion ops (q :: rest) :: k) :: cs)) w') :
 GoesI Tryd.prog main (DT (ScZ zn) Ch) Stop (G ((base 52).at { tmps:=#[Pt S.wb 0,I s,.slice p n cap]++Array.replicate 25 undef,defers:=[] } [.code B52]) (bc.at ac (.inRegion ops (q :: rest) :: k) :: cs)) w:=by
 rw[eB52]
 have hA0:Fl 28 [(0,Pt S.wb 0),(1,I s),(2,.slice p n cap)] { tmps:=#[Pt S.wb 0,I s,.slice p n cap]++Array.replicate 25 undef,defers:=[] }:=by
  simp only[Array.replicate_succ,Array.replicate_zero,List.push_toArray,List.append_toArray,List.nil_append,List.cons_append]
  exact ⟨rfl,rfl,by
   intro p hp
   simp only[List.mem_cons,List.not_mem_nil,or_false] at hp
   rcases hp with rfl|rfl|rfl<;>rfl⟩
 refine Ad (Aa _ _) ?_
 refine Ax (z:=zn) (wr:=true) (L:=LV) (I:=Ak Ch) hE Gc Ap (fun v v' w w' es hi hr ho he=>Be v v' w w' es hi hr ho he) hvw fine_k520 hA0.2.1 (by simp[base]) hn (Q:=fun a w'=>Fl 28 [(0,Pt S.wb 0),(1,I s),(2,.slice p n cap),(6,.slice none 0 0),(7,I 0)] a∧w'.heap=v.heap∧w'.os=v.os∧w'.output=v.output) (fun τ=>k520_wp (v:=Ao v τ 0) hA0) ?_
 rintro a0 v0 w0 ⟨hB0,e0,o0,u0⟩ hr0 hn0 -
 have m0:Mem zn S [] v0:=(hO.cel.mem.grows (v':=v0) ⟨by rw[e0];exact Nat.le_refl _,fun b _=>by rw[e0],o0,u0⟩).mem
 have hs0:∀ τ,∀ k,k<n->∃ sb so,p=some ⟨sb,so,none⟩∧(Ao v0 τ 0).cell? ⟨sb,so+k,none⟩=some (.slice (pc k) (ln k) (cp k)):=fun τ k hk=>by
  obtain ⟨sb,so,h1,h2⟩:=hs k hk
  exact ⟨sb,so,h1,by rw[World.cell?_of_block (w:=v) (w':=Ao v0 τ 0) (by show v0.heap[_]? = _;rw[e0])];exact h2⟩
 refine Ad (Aa _ _) ?_
 refine Ax (z:=zn) (wr:=true) (L:=LV) (I:=Ak Ch) hE Gc Ap (fun v v' w w' es hi hr ho he=>Be v v' w w' es hi hr ho he) hr0 fine_k521 hB0.2.1 (by simp[base]) hn0 (Q:=fun a w'=>Fl 28 [(0,Pt S.wb 0),(1,I s),(2,.slice p n cap),(6,.slice none 0 0),(7,I 0)] a∧w'.heap=v0.heap∧w'.os=v0.os∧w'.output=v0.output) (fun τ=>k521_yes (v:=Ao v0 τ 0) (m0.grows (v':=Ao v0 τ 0) ⟨Nat.le_refl _,fun _ _=>rfl,rfl,rfl⟩).mem.rep pc ln cp (hs0 τ) hln hn8 hran hB0) ?_
 rintro a1 v1 w1 ⟨hB1,e1,o1,u1⟩ hr1 hn1 -
 refine Ad (Aa _ _) ?_
 refine Ax (z:=zn) (wr:=true) (L:=LV) (I:=Ak Ch) hE Gc Ap (fun v v' w w' es hi hr ho he=>Be v v' w w' es hi hr ho he) hr1 fine_k522 hB1.2.1 (by simp[base]) hn1 (Q:=fun a w'=>Fl 28 [(0,Pt S.wb 0),(1,I s),(2,.slice p n cap),(6,.slice none 0 0),(7,I 0)] a∧w'.heap=v1.heap∧w'.os=v1.os∧w'.output=v1.output) (fun τ=>k522_yes (v:=Ao v1 τ 0) (by omega) (by omega) hB1) ?_
 rintro a2 v2 w2 ⟨hB2,e2,o2,u2⟩ hr2 hn2 -
 have e20:v2.heap=v.heap:=e2.trans (e1.trans e0)
 have O2:Objs v2 S [] pk0 S [] v2:=⟨Cel.refl (hO.cel.mem.grows (v':=v2) ⟨by rw[e20];exact Nat.le_refl _,fun b _=>by rw[e20],o2.trans (o1.trans o0),u2.trans (u1.trans u0)⟩).mem,rfl,hO.st,fun b o hb=>by rw[e20];exact hO.has b o hb,fun b hb=>by have:=hO.new b hb;rw[e20];exact this,hO.row⟩
 have hlt2:∀ b,pk0 b≠none->b<v2.heap.size:=fun b hb=>by rw[e20];exact hlt b hb
 obtain ⟨hsz,hd,hpp⟩:=hB2
 obtain ⟨u,rfl,hg⟩:=litN hsz hd
 have u0:=(hg 0).symm.trans (hpp (0,Pt S.wb 0) (by simp))
 have u1:=(hg 1).symm.trans (hpp (1,I s) (by simp))
 have u2:=(hg 2).symm.trans (hpp (2,.slice p n cap) (by simp))
 have u6:=(hg 6).symm.trans (hpp (6,.slice none 0 0) (by simp))
 have u7:=(hg 7).symm.trans (hpp (7,I 0) (by simp))
 clear hg hpp hsz hd
 unfold R52 B52 Tryd.f52 seq2
 simp only[Option.getD_some,lits,Nat.reduceAdd,u0,u1,u2,u6,u7]
 clear u0 u1 u2 u6 u7
 refine Ad (Aa _ _) ?_
 refine Ag (Aa _ _) ?_
 simp only[List.size_toArray,List.length_cons,List.length_nil,Nat.reduceAdd,Nat.zero_add,List.range,List.range.loop]
 iterate 4
  (refine Ah rfl rfl (by decide) (fun d K hK=>?_)
   go_simp
   refine hK _ _ ⟨Aj (fun e he=>?_),GoesI.at ?_ d⟩
   ·have hm:=mem_listed he
    simp[go_sem, *] at hm
    try exact ⟨_,_,hm⟩
   clear hK K)
 refine G1 (L:=LV) (f:=54) (fn:=Tryd.f54) (args:=#[Pt S.wb 0,I s]) hE Gc rfl rfl (by decide) rfl (by simp[Act.eval]) Tryd.func54 (by kernel_rfl) rfl (F0 Gc (by simp[LV,plainV]) Tryd.func54 rfl) (fun tmps=>⟨_,fun w=>results_tmp rfl _ _ _,fun w=>by simp[results,go_sem,Tryd.f54]⟩) hr2 hn2
  (R:=fun r v4=>r=Pt (v2.heap.size+1) 0∧∃ S1 K,K.length=s∧Objs v2 S (List.replicate s 0) (pkN pk0 s v2.heap.size K) S1 K v4) (fun τ=>?_) (fun r v4 w4 hR hr4 hn4=>?_)
 ·have Oτ:Objs (Ao v2 τ 0) S [] pk0 S [] (Ao v2 τ 0):=⟨Cel.refl (O2.cel.mem.grows (v':=Ao v2 τ 0) ⟨Nat.le_refl _,fun _ _=>rfl,rfl,rfl⟩).mem,rfl,O2.st,O2.has,O2.new,O2.row⟩
  refine wp_mono (body54 Oτ hlt2 s h0 h1 _ rfl) (Gn fun r u hq=>⟨hq.1,?_⟩)
  obtain ⟨_,S1,K,h2,o⟩:=hq
  exact ⟨S1,K,h2,⟨o.cel.from rfl rfl rfl,o.vals,o.st,o.has,o.new,o.row⟩⟩
 obtain ⟨rfl,S1,K,hKl,ob4⟩:=hR
 have hset:Objs v S (List.replicate s 0) (pkN pk0 s v2.heap.size K) S1 K v4 :=
  ⟨ob4.cel.from e20 (o2.trans (o1.trans o0)) (u2.trans (u1.trans u0)),ob4.vals,ob4.st,ob4.has,fun b hb=>by rw[←e20];exact ob4.new b hb,ob4.row⟩
 have h7:7<v2.heap.size:=by
  obtain ⟨c,t,f,hg,_⟩:=hG.b
  exact hlt2 7 (by rw[hg];simp)
 have hql:QCtr s #[Pt (v2.heap.size+1) 0] (pkN pk0 s v2.heap.size K) K:=⟨h0,h1,pk0,v2.heap.size,h7,hG,rfl,rfl,hKl⟩
 clear ob4 hr0 hr1 hr2 hn0 hn1 hn2 e0 e1 e2 e20 o0 o1 o2 u0 u1 u2 hvw hn hs hs0 hln m0 O2 hlt2 hO hlt
 walk_nrm
 iterate 1
  (refine Ah rfl rfl (by decide) (fun d K hK=>?_)
   go_simp
   refine hK _ _ ⟨Aj (fun e he=>?_),GoesI.at ?_ d⟩
   ·have hm:=mem_listed he
    simp[go_sem, *] at hm
    try exact ⟨_,_,hm⟩
   clear hK K)
 refine Bo (f:=60) (fn:=Tryd.f60) (args:=#[Pt S.wb 0,.slice p n cap,.func (.func 86) #[Pt (v2.heap.size+1) 0] #[]]) (Aa _ _) rfl rfl (by decide) rfl (by simp[Act.eval]) Tryd.func60 (by decide) rfl ?_
 refine hk v4 w4 _ _ _ _ _ _ _ _ _ _ _ hr4 hn4 hset hql rfl (fun Ch Stop w x hg=>?_)
 clear hk hset hr4 hn4 hql
 iterate 2
  (refine Ah rfl rfl (by decide) (fun d K hK=>?_)
   go_simp
   refine hK _ _ ⟨Aj (fun e he=>?_),GoesI.at ?_ d⟩
   ·have hm:=mem_listed he
    simp[go_sem, *] at hm
    try exact ⟨_,_,hm⟩
   clear hK K)
 refine Ac (Aa _ _) ?_
 refine GoesI.ctl rfl (fun _=>stepG_ret') (Aa _ _) ?_
 refine Bw (b:=base 52) (fn:=Tryd.f52) (v:=.tuple #[x,I 0]) rfl rfl Tryd.func52 (fun w=>?_) (fun w=>by simp[results,go_sem,Tryd.f52]) hoc (Aa _ _) ?_
 ·rw[results_tmp2 (t:=6) (u:=7) rfl]
  simp
 ·have:=hg w.drawn
  exact this
theorem cplay_no {Ch:Nat->Prop}{Stop:Goroutine->World->Prop}{main:Bool}{S:TS}{v w:World}(m:Int) (p:Option Addr) (n cap:Nat) (pc:Nat->Option Addr) (ln cp:Nat->Nat) (hs:∀ k,k<n->∃ sb so,p=some ⟨sb,so,none⟩∧v.cell? ⟨sb,so+k,none⟩=some (.slice (pc k) (ln k) (cp k))) (hn1:n≤17592186043904) (hran:S.ran=false) (hm:Mem zn S [] v)
 {E:Int} (hRe:Refused n ln E∨((∀ k,k<n->ln k≤64)∧(0<n∧n≤8)∧(m<1∨16<m)∧E=1)) (cs:List Frame) {bc:Frame} {ac:Act} {ops:Array Oper} {q:Nat} {rest:List Nat} {oc:Oper} {k:List Item} (hoc:ops[q]? = some oc)
 (hvw:Rel zn v w) (hn:Ak Ch v)
 (hk:∀ v' w',Rel zn v' w'->Ak Ch v'->v'.heap=v.heap->v'.os=v.os->v'.output=v.output->GoesI Tryd.prog main (DT (ScZ zn) Ch) Stop (G (bc.at (ac.put oc.dst (.tuple #[.slice none 0 0,I E])) (.inRegion ops rest :: k)) cs) w') :
 GoesI Tryd.prog main (DT (ScZ zn) Ch) Stop (G ((base 52).at { tmps:=#[Pt S.wb 0,I m,.slice p n cap]++Array.replicate 25 undef,defers:=[] } [.code B52]) (bc.at ac (.inRegion ops (q :: rest) :: k) :: cs)) w:=by
 rw[eB52]
 have hA0:Fl 28 [(0,Pt S.wb 0),(1,I m),(2,.slice p n cap)] { tmps:=#[Pt S.wb 0,I m,.slice p n cap]++Array.replicate 25 undef,defers:=[] }:=by
  simp only[Array.replicate_succ,Array.replicate_zero,List.push_toArray,List.append_toArray,List.nil_append,List.cons_append]
  exact ⟨rfl,rfl,by
   intro p hp
   simp only[List.mem_cons,List.not_mem_nil,or_false] at hp
   rcases hp with rfl|rfl|rfl<;>rfl⟩
 refine Ad (Aa _ _) ?_
 refine Ax (z:=zn) (wr:=true) (L:=LV) (I:=Ak Ch) hE Gc Ap (fun v v' w w' es hi hr ho he=>Be v v' w w' es hi hr ho he) hvw fine_k520 hA0.2.1 (by simp[base]) hn (Q:=fun a w'=>Fl 28 [(0,Pt S.wb 0),(1,I m),(2,.slice p n cap),(6,.slice none 0 0),(7,I 0)] a∧w'.heap=v.heap∧w'.os=v.os∧w'.output=v.output) (fun τ=>k520_wp (v:=Ao v τ 0) hA0) ?_
 rintro a0 v0 w0 ⟨hB0,e0,o0,u0⟩ hr0 hn0 -
 have m0:Mem zn S [] v0:=(hm.grows (v':=v0) ⟨by rw[e0];exact Nat.le_refl _,fun b _=>by rw[e0],o0,u0⟩).mem
 have hs0:∀ τ,∀ k,k<n->∃ sb so,p=some ⟨sb,so,none⟩∧(Ao v0 τ 0).cell? ⟨sb,so+k,none⟩=some (.slice (pc k) (ln k) (cp k)):=fun τ k hk=>by
  obtain ⟨sb,so,h1,h2⟩:=hs k hk
  exact ⟨sb,so,h1,by rw[World.cell?_of_block (w:=v) (w':=Ao v0 τ 0) (by show v0.heap[_]? = _;rw[e0])];exact h2⟩
 refine Ad (Aa _ _) ?_
 rcases hRe with hRe|⟨hE1,hE2,hE3,rfl⟩
 ·refine Fh (c:=k521) (f:=52) (fn:=Tryd.f52) (L:=LV) hE Gc hr0 hn0 Tryd.func52 fine_k521 hB0.2.1 hoc (R:=fun r w'=>r=.tuple #[.slice none 0 0,I E]∧w'.heap=v0.heap∧w'.os=v0.os∧w'.output=v0.output) (fun τ=>k521_no (v:=Ao v0 τ 0) (m0.grows (v':=Ao v0 τ 0) ⟨Nat.le_refl _,fun _ _=>rfl,rfl,rfl⟩).mem.rep pc ln cp (hs0 τ) hn1 hran hRe hB0) (fun r v' w' hR hr' hn'=>?_)
  obtain ⟨rfl,h1,h2,h3⟩:=hR
  exact hk v' w' hr' hn' (h1.trans e0) (h2.trans o0) (h3.trans u0)
 ·refine Ax (z:=zn) (wr:=true) (L:=LV) (I:=Ak Ch) hE Gc Ap (fun v v' w w' es hi hr ho he=>Be v v' w w' es hi hr ho he) hr0 fine_k521 hB0.2.1 (by simp[base]) hn0 (Q:=fun a w'=>Fl 28 [(0,Pt S.wb 0),(1,I m),(2,.slice p n cap),(6,.slice none 0 0),(7,I 0)] a∧w'.heap=v0.heap∧w'.os=v0.os∧w'.output=v0.output) (fun τ=>k521_yes (v:=Ao v0 τ 0) (m0.grows (v':=Ao v0 τ 0) ⟨Nat.le_refl _,fun _ _=>rfl,rfl,rfl⟩).mem.rep pc ln cp (hs0 τ) hE1 hE2 hran hB0) ?_
  rintro a1 v1 w1 ⟨hB1,e1,o1,u1⟩ hr1 hn1 -
  refine Ad (Aa _ _) ?_
  refine Fh (c:=k522) (f:=52) (fn:=Tryd.f52) (L:=LV) hE Gc hr1 hn1 Tryd.func52 fine_k522 hB1.2.1 hoc (R:=fun r w'=>r=.tuple #[.slice none 0 0,I 1]∧w'.heap=v1.heap∧w'.os=v1.os∧w'.output=v1.output) (fun τ=>hE3.elim (fun h=>k522_no1 (v:=Ao v1 τ 0) h hB1) (fun h=>k522_no2 (v:=Ao v1 τ 0) h hB1)) (fun r v' w' hR hr' hn'=>?_)
  obtain ⟨rfl,h1,h2,h3⟩:=hR
  exact hk v' w' hr' hn' (h1.trans (e1.trans e0)) (h2.trans (o1.trans o0)) (h3.trans (u1.trans u0))
section
variable {S:TS}{n sb so cap:Nat}{pc:Nat->Option Addr}{ln cp rb:Nat->Nat}{cl:Nat->List Cl}
theorem cplay_all (s:Nat) (h0:0<s) (h1:s≤16) {cs:List Frame}{bc:Frame}{ac:Act}{ops:Array Oper}{q0:Nat}{rest:List Nat}{oc:Oper}{k0:List Item}(hoc:ops[q0]? = some oc) {w:World}{T:Trace}{gs:Array Goroutine}{q:Nat->Nat}(sl:Option (Nat×Nat)) (NT:Nat) (A:Alone gs w T q)
 (hg:gs[0]? = some (G ((base 52).at { tmps:=#[Pt S.wb 0,I s,.slice (some ⟨sb,so,none⟩) n cap]++Array.replicate 25 undef,defers:=[] } [.code B52]) (bc.at ac (.inRegion ops (q0 :: rest) :: k0) :: cs)))
 (hm:Mem zn S [] w) (hthr:S.thr=[]) (hran:S.ran=false) (hch:S.chg=[]) (hbk:Open w S.bk) {pk0:Nat->Option Obj} (hG:GF pk0) (hpk:Has pk0 w) (hpf:∀ b,pk0 b≠none->¬ Own S [] b∧b≠S.bk) (hpr:∀ b o,pk0 b=some o->∃ c e f,o=.cells c e f) (t:Asked w S n sb so pc ln cp rb cl) (hn8:0<n∧n≤8)
 (hlen:∀ caps pk N K,S.n+2*lens (scrs (mcC s) 86 caps pk N n K pc ln cp rb cl)≤1000000) (hsl:S.sched.length≤4611686018427387904) (hsc:∀ x∈S.sched,-9223372036854775808≤x∧x<9223372036854775808) (l0:Nat->Ph)
 (hturn:∀ (caps:Array Value) (pk:Nat->Option Obj) (N:Nat) (cv:Value) (K:List (Nat×Int)),K.map (·.2)=List.replicate s 0->∀ S1 l1,Hires (mcC s) 0 (scrs (mcC s) 86 caps pk N n K pc ln cp rb cl) (nv { G2 S cv (List.replicate s (0:Int)).length with ran:=true }) l0 S1 l1->∃ m p',m≤NT∧Turns (mcC s) m ⟨S1,K,l1⟩ p'∧p'.S.n*40≤140737488355328) :
 ∃ (N':Nat) (gs':Array Goroutine) (w':World) (sl':Option (Nat×Nat)) (T':Trace) (q':Nat->Nat) (caps:Array Value) (pk:Nat->Option Obj) (N:Nat) (cv:Value) (K:List (Nat×Int)) (S':TS) (S1:TS) (l1:Nat->Ph) (m:Nat) (p':PSt),
   runNT Tryd.prog N' (crowd gs w sl) T=(.next (crowd gs' w' sl'),T')∧gs'.size=gs.size+n∧gs'[0]? = some (G (bc.at (ac.put oc.dst (.tuple #[.slice (some ⟨N+1,0,none⟩) n n,I 0])) (.inRegion ops rest :: k0)) cs) ∧
   Alone gs' w' T' q'∧K.map (·.2)=List.replicate s 0∧nv S'=p'.S∧Hires (mcC s) 0 (scrs (mcC s) 86 caps pk N n K pc ln cp rb cl) (nv { G2 S cv (List.replicate s (0:Int)).length with ran:=true }) l0 S1 l1∧Turns (mcC s) m ⟨S1,K,l1⟩ p'∧GOut w S n ln N S' p'.K p'.l w':=by
 refine gplay_all (xs:=List.replicate s 0) (cap:=cap) (q0:=q0) (pkgC s) (mineCtr s) sl NT A hg ?_ hm hthr hran hbk t hn8 hlen hsl hsc l0 hturn
 exact cplay_in s h0 h1 hG (Objs.startG hm hch hpk hpf hpr) (fun b hb=>by
  obtain ⟨o,ho⟩:=Option.ne_none_iff_exists'.1 hb
  exact (Array.getElem?_eq_some_iff.1 (hpk b o ho)).1) (some ⟨sb,so,none⟩) n cap hn8 hran pc ln cp (fun k hk=>⟨sb,so,rfl,t.row k hk⟩) (fun k hk=>(t.len k hk).2) cs hoc (Rel.refl w) (fun c hc=>hc.elim)
  (fun v' w' bd ad od qd rd oe kd caps pk S1 K hr hn ho hq hoe hback=>GoesI.stop fun d=>⟨bd,ad,od,qd,rd,oe,kd,caps,pk,S1,K,ho.same hr.eq hr.os hr.output,hq,hoe,hback,rfl⟩)
end
structure Rws (M:Nat) (n:Nat) (A cp ln:Nat->Nat) (e x:Nat->Nat->Int) (v:World):Prop where
 row:∀ k,k<n->v.cell? ⟨M,k,none⟩=some (.slice (some ⟨A k,0,none⟩) (ln k) (cp k))
 ans:∀ k,k<n->∀ j,j<ln k->v.cell? ⟨A k,j*2,none⟩=some (I (e k j))∧v.cell? ⟨A k,j*2+1,none⟩=some (I (x k j))
theorem Rws.same {M n:Nat}{A cp ln:Nat->Nat}{e x:Nat->Nat->Int}{v v':World}(h:Rws M n A cp ln e x v) (hh:v'.heap=v.heap):Rws M n A cp ln e x v':=by
 have hc:∀ a,v'.cell? a=v.cell? a:=fun a=>World.cell?_of_block (w:=v) (w':=v') (by rw[hh])
 exact ⟨fun k hk=>by rw[hc];exact h.row k hk,fun k hk j hj=>by rw[hc,hc];exact h.ans k hk j hj⟩
def Sam (v u:World):Prop:=u.heap=v.heap∧u.os=v.os∧u.output=v.output
theorem body58 {v:World}(M M' n c1 c2:Nat) {A B ca cb ln:Nat->Nat}{e x:Nat->Nat->Int}(h1:Rws M n A ca ln e x v) (h2:Rws M' n B cb ln e x v) (hn:n≤1000000) (hln:∀ k,k<n->ln k≤1000000) :
 Body Tryd.f58 #[.slice (some ⟨M,0,none⟩) n c1,.slice (some ⟨M',0,none⟩) n c2] v (fun r v'=>r=.bool true∧v'.heap=v.heap∧v'.os=v.os∧v'.output=v.output):=by
 intro code hb
 obtain rfl:=Option.some.inj hb
 clear hb
 have H1:Hid (∀ u,Sam v u->Rws M n A ca ln e x u∧Rws M' n B cb ln e x u):=⟨fun u hu=>⟨h1.same hu.1,h2.same hu.1⟩⟩
 have HL:Hid (∀ k,k<n->ln k≤1000000):=⟨hln⟩
 clear h1 h2 hln
 simp only[Tryd.ntmps58,List.size_toArray,List.length_cons,List.length_nil,Nat.reduceAdd,Nat.reduceSub,Array.replicate_succ,Array.replicate_zero,List.push_toArray,List.append_toArray,List.nil_append,List.cons_append]
 go_wp2_with fail
 go_loopw [5] (fun i u=>∃ k:Nat,k≤n∧i=.int .i64 k∧Hid (Sam v u)) (fun i _=>n - (intOf i).toNat)
 case atStart=>exact ⟨0,Nat.zero_le _,rfl,⟨rfl,rfl,rfl⟩⟩
 case round =>
  obtain ⟨k,hk,rfl,hs⟩:=hrel
  by_cases hlt:k<n
  ·obtain ⟨r1,r2⟩:=H1.out wr hs.out
   have a1:=r1.row k hlt
   have a2:=r2.row k hlt
   have hl:=HL.out k hlt
   clear r1 r2
   have hlt':(k:Int)<(n:Int):=by omega
   have hnl:¬ n≤k:=by omega
   obtain ⟨wo,hwo⟩:∃ wo,wo=wr:=⟨wr,rfl⟩
   rw[←hwo] at hs a1 a2 ⊢
   clear hwo
   go_wp2_with fail
   go_quiet (fail)
   go_wp2_with fail
   go_loopw [6] (fun i u=>∃ j:Nat,j≤ln k∧i=.int .i64 j∧Hid (Sam v u)) (fun i _=>ln k - (intOf i).toNat)
   case atStart=>exact ⟨0,Nat.zero_le _,rfl,hs.out.1,hs.out.2.1,hs.out.2.2⟩
   case round =>
    obtain ⟨j,hj,rfl,hs2⟩:=hrel
    obtain ⟨r1,r2⟩:=H1.out wr hs2.out
    have b1:=r1.row k hlt
    have b2:=r2.row k hlt
    by_cases hjl:j<ln k
    ·have c1':=r1.ans k hlt j hjl
     have c2':=r2.ans k hlt j hjl
     obtain ⟨x1,x2⟩:=c1'
     obtain ⟨y1,y2⟩:=c2'
     clear r1 r2 a1 a2
     have hjl':(j:Int)<(ln k:Int):=by omega
     have hnj:¬ ln k≤j:=by omega
     go_wp2_with fail
     go_quiet (fail)
     go_wp2_with fail
     go_roundw
     case rel=>exact ⟨j+1,by omega,by go_num,hs2.out.1,hs2.out.2.1,hs2.out.2.2⟩
     case measure=>simp[intOf];omega
    ·have hjj:j=ln k:=by omega
     subst hjj
     clear r1 r2 a1 a2
     go_wp2_with fail
     go_roundw
     case rel=>exact ⟨k+1,by omega,by go_num,hs2.out.1,hs2.out.2.1,hs2.out.2.2⟩
     case measure=>simp[intOf];omega
  ·have hkk:k=n:=by omega
   subst hkk
   go_wp2_with fail
   go_ret
   exact ⟨_,rfl,rfl,hs.out.1,hs.out.2.1,hs.out.2.2⟩
variable {mc:Mc}
theorem turns_det:∀ {m m':Nat}{p p1 p2:PSt},Turns mc m p p1->Turns mc m' p p2->p1=p2
 |_,_,_,_,_,.stop h,.stop h'=>rfl
 |_,_,_,_,_,.stop h,.step h' _=>by rw[h] at h';cases h'
 |_,_,_,_,_,.step h _,.stop h'=>by rw[h] at h';cases h'
 |_,_,_,_,_,.step h t,.step h' t'=>by
  rw[h] at h'
  cases h'
  exact turns_det t t'
def pt (mc:Mc) (p:PSt):PSt:=(Cs mc p).getD p
def pts (mc:Mc):Nat->PSt->PSt
 |0,p=>p
 |n+1,p=>pts mc n (pt mc p)
def runs (mc:Mc):Nat->PSt->Bool
 |0,p=>(Cs mc p).isNone
 |n+1,p=>(Cs mc p).isSome&&runs mc n (pt mc p)
theorem turns_of:∀ (n:Nat) (p:PSt),runs mc n p=true->Turns mc n p (pts mc n p)
 |0,p,h=>by
  refine .stop ?_
  cases hp:Cs mc p with
  |none=>rfl
  |some x=>unfold runs at h;rw[hp] at h;cases h
 |n+1,p,h=>by
  unfold runs at h
  rw[Bool.and_eq_true] at h
  refine .step ?_ (turns_of n (pt mc p) h.2)
  unfold pt
  cases hp:Cs mc p with
  |none=>rw[hp] at h;cases h.1
  |some x=>rfl
end Go.Proofs.YtcfmffmcammbjaaDoor.Gen
namespace Go.Proofs.YtcfmffmcammbjaaDoor.Gen
open Go Go.Lift Go.Conc Go.RowKit
open Go.ConcN (upd upd_same upd_ne)
def clW (j:Nat):List Cl:=if j=0 then [⟨1,5,0,0⟩,⟨2,0,0,0⟩] else [⟨1,-7,0,0⟩]
def lnW (j:Nat):Nat:=if j=0 then 2 else 1
def an0 (j:Nat):List (Int×Int):=List.replicate (lnW j) (0,0)
def awST (wb bk base:Nat) (sc cv:Value) (k:Nat):TS:=nv { G2 (newS wb bk base sc []) cv k with ran:=true }
def awF (wb bk base:Nat) (sc cv:Value) (tv0:Value) (tb0 gc0:Nat):TS×Ph:=flow 0 (mcC 2) (clW 0) 0 false (an0 0) (Aq (awST wb bk base sc cv 2) tv0 tb0 gc0)
def awG (wb bk base:Nat) (sc cv:Value) (tv0:Value) (tb0 gc0:Nat) (tv1:Value) (tb1 gc1:Nat):TS×Ph:=flow 1 (mcC 2) (clW 1) 0 false (an0 1) (Aq (awF wb bk base sc cv tv0 tb0 gc0).1 tv1 tb1 gc1)
def awPT (wb bk base:Nat) (sc cv:Value) (tv0:Value) (tb0 gc0:Nat) (tv1:Value) (tb1 gc1:Nat) (cb0 cb1:Nat) (l0:Nat->Ph):PSt :=
 ⟨(awG wb bk base sc cv tv0 tb0 gc0 tv1 tb1 gc1).1,[(cb0,0),(cb1,0)],upd (upd l0 0 (awF wb bk base sc cv tv0 tb0 gc0).2) 1 (awG wb bk base sc cv tv0 tb0 gc0 tv1 tb1 gc1).2⟩
section
variable (wb bk base:Nat) (sc cv:Value) (tv0:Value) (tb0 gc0:Nat) (tv1:Value) (tb1 gc1:Nat) (cb0 cb1:Nat) (l0:Nat->Ph)
set_option maxRecDepth 100000
theorem awt_runs:runs (mcC 2) 8 (awPT wb bk base sc cv tv0 tb0 gc0 tv1 tb1 gc1 cb0 cb1 l0)=true:=by kernel_rfl
theorem awt_n:(pts (mcC 2) 8 (awPT wb bk base sc cv tv0 tb0 gc0 tv1 tb1 gc1 cb0 cb1 l0)).S.n=14:=by kernel_rfl
theorem awt_ans:((pts (mcC 2) 8 (awPT wb bk base sc cv tv0 tb0 gc0 tv1 tb1 gc1 cb0 cb1 l0)).l 0).ans=[(0,0),(0,-2)]∧((pts (mcC 2) 8 (awPT wb bk base sc cv tv0 tb0 gc0 tv1 tb1 gc1 cb0 cb1 l0)).l 1).ans=[(0,0)]:=⟨by kernel_rfl,by kernel_rfl⟩
end
end Go.Proofs.YtcfmffmcammbjaaDoor.Gen
