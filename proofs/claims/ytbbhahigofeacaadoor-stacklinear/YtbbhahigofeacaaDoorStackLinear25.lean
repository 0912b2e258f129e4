/- StackLinear, part 25 of 32: StPk, StPkg, StN. -/
import Derived.Test.YtbbhahigofeacaaDoorStackLinear01
import Derived.Test.YtbbhahigofeacaaDoorStackLinear07
import Derived.Test.YtbbhahigofeacaaDoorStackLinear09
import Derived.Test.YtbbhahigofeacaaDoorStackLinear24
import Derived.Deep.RegionHeld3
set_option linter.unusedSimpArgs false
set_option linter.unusedVariables false
set_option maxHeartbeats 4000000
set_option maxRecDepth 100000
noncomputable section
namespace Go.Proofs.YtbbhahigofeacaaDoor.Gen
open Go Go.Lift Go.Conc Go.RowKit
open R1 (fstI verI hdI)
variable {v1 x y:Int} {N cb j k n off s:Nat} {f:Frs} {q:Q} {K:List (Nat×Int)} {g:Goroutine} {a ac ao ap:Act} {w w':World} {ty:TypeId}
abbrev box0:Obj:=.cells #[I 0,I 0] 48 (0,0)
def boxO (pb:Nat):Nat->Option Obj:=λb=>if b=pb then some box0 else none
theorem boxO_at (pb:Nat):boxO pb pb=some box0:=by unfold boxO;rw[if_pos rfl]
theorem boxO_eq {pb b:Nat}(h:boxO pb b≠none):b=pb:=by unfold boxO at h;split at h;assumption;exact absurd rfl h
theorem boxO_row (pb:Nat):∀ b o,boxO pb b=some o->∃ c e f,o=.cells c e f:=λb o h=>by unfold boxO at h;split at h;cases h;exact ⟨_,_,_,rfl⟩;cases h
structure TMine (n:Nat) (X:Fix (mcT n)) (c s sb rb:Nat):Prop where
 caps:X.caps=#[Pt c 0]
 mem:∀ v,Has X.pk v->Stk v c s sb rb n X.kb∧R1.Flds v
abbrev FT (s tb:Nat) (a:Act):Prop:=Fl 48 [(0,Pt s 0),(1,Pt tb 0)] a
abbrev FT8 (s tb k:Nat) (x:Int) (a:Act):Prop:=Fl 48 [(0,Pt s 0),(1,Pt tb 0),(6,I x),(8,I k)] a
abbrev FT9 (s tb k:Nat) (x:Int) (a:Act):Prop:=Fl 48 [(0,Pt s 0),(1,Pt tb 0),(6,I x),(8,I k),(22,Pt s 0),(23,Pt tb 0),(24,I x)] a
abbrev FG (s tb k:Nat) (a:Act):Prop:=Fl 56 [(0,Pt s 0),(1,Pt tb 0),(2,I k)] a
abbrev FG7 (s tb k:Nat) (x:Int) (a:Act):Prop:=Fl 56 [(0,Pt s 0),(1,Pt tb 0),(2,I k),(7,I x)] a
abbrev FP (c tb:Nat) (x:Int) (a:Act):Prop:=Fl 59 [(0,Pt c 0),(1,Pt tb 0),(2,I x)] a
abbrev FP7 (c tb k:Nat) (x:Int) (a:Act):Prop:=Fl 59 [(0,Pt c 0),(1,Pt tb 0),(2,I x),(7,I k)] a
abbrev FP9 (c tb k:Nat) (x h0:Int) (a:Act):Prop:=Fl 59 [(0,Pt c 0),(1,Pt tb 0),(2,I x),(7,I k),(9,I h0)] a
abbrev FO (c tb:Nat) (a:Act):Prop:=Fl 58 [(0,Pt c 0),(1,Pt tb 0)] a
abbrev FO8 (c tb k:Nat) (x:Int) (a:Act):Prop:=Fl 58 [(0,Pt c 0),(1,Pt tb 0),(6,I x),(8,I k)] a
abbrev FOk (c tb k:Nat) (a:Act):Prop:=Fl 58 [(0,Pt c 0),(1,Pt tb 0),(8,I k)] a
abbrev FOv (c tb k:Nat) (y:Int) (a:Act):Prop:=Fl 58 [(0,Pt c 0),(1,Pt tb 0),(8,I k),(10,I y)] a
inductive PuSit (n:Nat) (X:Fix (mcT n)) (c s:Nat) (f:Frs):Int->Nat->Q->(Int->(Int×Int)×Int×Value)->(Value->Goroutine)->Prop
 |s1 {v:Int} {a ap:Act} (hA:FT s X.tb a) (hP:FP c X.tb v ap):PuSit n X c s f 1 0 (1,[v]) Bm (λr=>G (Kv a r) (Js ap :: f.stack))
 |s2 {v x:Int} {k:Nat} {a ap:Act} (hx:fstI x=(k:Int)+1) (hk:k<n) (hA:FT9 s X.tb k x a) (hP:FP c X.tb v ap):PuSit n X c s f 1 (nxJ k) (2,[v,x]) Bm (λr=>G (tNext a r) (Js ap :: f.stack))
 |s3 {v x y:Int} {k:Nat} {a ap ac:Act} (hx:fstI x=(k:Int)+1) (hk:k<n) (h0:0<=y) (h1:y<=n) (hA:FT8 s X.tb k x a) (hP:FP c X.tb v ap) (hC:Fl 22 [] ac):PuSit n X c s f 4 0 (3,[v,x,y]) (Bn x (hdI y (verI x+1))) (λr=>G (ch46T ac r) (tTry a :: Js ap :: f.stack))
 |s4 {v x:Int} {k:Nat} {a ap:Act} (hk:k<n) (hA:FT8 s X.tb k x a) (hP:FP c X.tb v ap):PuSit n X c s f 2 (usJ k) (4,[v,(k:Int)]) (Bz 1) (λr=>G (tUsed a r) (Js ap :: f.stack))
 |s5 {v:Int} {k:Nat} {ap:Act} (hk:k<n) (hP:FP7 c X.tb k v ap):PuSit n X c s f 2 (vlJ n k) (5,[v,(k:Int)]) (Bz v) (λr=>G (pVal ap r) f.stack)
 |s6 {v:Int} {k:Nat} {ap:Act} (hk:k<n) (hP:FP7 c X.tb k v ap):PuSit n X c s f 1 (hdJ n) (6,[(k:Int)]) Bm (λr=>G (pSeen ap r) f.stack)
 |s7 {v x:Int} {k:Nat} {ap:Act} (hk:k<n) (hx:fstI x<=n) (hP:FP9 c X.tb k v x ap):PuSit n X c s f 2 (lkJ n k) (7,[(k:Int),x]) (Bz (fstI x)) (λr=>G (pLink ap r) f.stack)
 |s8 {v x:Int} {k:Nat} {ap ac:Act} (hk:k<n) (hP:FP9 c X.tb k v x ap) (hC:Fl 22 [] ac):PuSit n X c s f 4 (hdJ n) (8,[(k:Int),x]) (Bn x (hdI ((k:Int)+1) (verI x+1))) (λr=>G (ch73T ac r) (pTry ap :: f.stack))
inductive PoSit (n:Nat) (X:Fix (mcT n)) (c s:Nat) (f:Frs):Int->Nat->Q->(Int->(Int×Int)×Int×Value)->(Value->Goroutine)->Prop
 |s11 {a:Act} (hA:FO c X.tb a):PoSit n X c s f 1 (hdJ n) (11,[]) Bm (λr=>G (K7 a r) f.stack)
 |s12 {x:Int} {k:Nat} {a:Act} (hx:fstI x=(k:Int)+1) (hk:k<n) (hA:FO8 c X.tb k x a):PoSit n X c s f 1 (lkJ n k) (12,[x]) Bm (λr=>G (oLink a r) f.stack)
 |s13 {x y:Int} {k:Nat} {a ac:Act} (hx:fstI x=(k:Int)+1) (hk:k<n) (h0:0<=y) (h1:y<=n) (hA:FO8 c X.tb k x a) (hC:Fl 22 [] ac):PoSit n X c s f 4 (hdJ n) (13,[x,y]) (Bn x (hdI y (verI x+1))) (λr=>G (ch73T ac r) (oTry a :: f.stack))
 |s14 {k:Nat} {a:Act} (hk:k<n) (hA:FOk c X.tb k a):PoSit n X c s f 1 (vlJ n k) (14,[(k:Int)]) Bm (λr=>G (oVal a r) f.stack)
 |s15 {y:Int} {k:Nat} {a ao:Act} (hk:k<n) (hA:FG s X.tb k a) (hO:FOv c X.tb k y ao):PoSit n X c s f 4 (usJ k) (15,[(k:Int),y]) (Bn 1 0) (λr=>G (gUsed a r) (oGive ao :: f.stack))
 |s16 {y:Int} {k:Nat} {a ao:Act} (hk:k<n) (hA:FG s X.tb k a) (hO:FOv c X.tb k y ao):PoSit n X c s f 1 0 (16,[(k:Int),y]) Bm (λr=>G (gSeen a r) (oGive ao :: f.stack))
 |s17 {x y:Int} {k:Nat} {a ao:Act} (hk:k<n) (hx:fstI x<=n) (hA:FG7 s X.tb k x a) (hO:FOv c X.tb k y ao):PoSit n X c s f 2 (nxJ k) (17,[(k:Int),y,x]) (Bz (fstI x)) (λr=>G (gStored a r) (oGive ao :: f.stack))
 |s18 {x y:Int} {k:Nat} {a ao ac:Act} (hk:k<n) (hA:FG7 s X.tb k x a) (hO:FOv c X.tb k y ao) (hC:Fl 22 [] ac):PoSit n X c s f 4 0 (18,[(k:Int),y,x]) (Bn x (hdI ((k:Int)+1) (verI x+1))) (λr=>G (ch46T ac r) (gTry a :: oGive ao :: f.stack))
abbrev encU (e:Int):Value:=I e
abbrev ansU (e:Int):Int×Int:=(e,0)
abbrev encO (p:Int×Int):Value:=.tuple #[I p.1,I p.2]
abbrev ansO (p:Int×Int):Int×Int:=(p.2,p.1)
def stSit (n:Nat) (X:Fix (mcT n)) (x:Nx) (Mo:Nat->Option Obj) (cu:Value->Goroutine) (g:Goroutine):Prop :=
 ∃ (c s sb rb pb:Nat) (f:Frs) (op:Int) (j:Nat) (q:Q) (cb:Nat) (eff:Int->(Int×Int)×Int×Value) (cl:Value->Goroutine),x=.turn op j q∧TMine n X c s sb rb∧f.Ok∧Mo=boxO pb∧X.kb[j]? = some cb∧Eg (X.h==0) X.i j cb X.tb op eff cl g ∧
   ((CBack (X.h==0) pb encU ansU f.ret cu∧PuSit n X c s f op j q eff cl)∨(CBack (X.h==0) pb encO ansO f.ret cu∧PoSit n X c s f op j q eff cl))
theorem sl_of (h:fstI x=(k:Int)+1):slI x=k:=by unfold slI;omega
theorem fpos (h:fstI x=(k:Int)+1):0<fstI x:=by omega
theorem fle (h:fstI x=(k:Int)+1) (hk:k<n):fstI x<=n:=by omega
theorem pu_at {X:Fix (mcT n)}{c:Nat}{op:Int}{eff:Int->(Int×Int)×Int×Value}{cl:Value->Goroutine}(h:PuSit n X c s f op j q eff cl):atT n q j:=by
 cases h with
 |s1 hA hP=>exact rfl
 |s2 hx hk hA hP=>exact ⟨fpos hx,fle hx hk,congrArg nxJ (sl_of hx).symm⟩
 |s3 hx hk h0 h1 hA hP hC=>exact ⟨fpos hx,fle hx hk,h0,h1,rfl⟩
 |s4 hk hA hP=>exact ⟨⟨by show (0:Int)<=((_:Nat):Int);omega,by show ((_:Nat):Int)<_;omega⟩,rfl⟩
 |s5 hk hP=>exact ⟨⟨by show (0:Int)<=((_:Nat):Int);omega,by show ((_:Nat):Int)<_;omega⟩,rfl⟩
 |s6 hk hP=>exact ⟨⟨by show (0:Int)<=((_:Nat):Int);omega,by show ((_:Nat):Int)<_;omega⟩,rfl⟩
 |s7 hk hx hP=>exact ⟨⟨by show (0:Int)<=((_:Nat):Int);omega,by show ((_:Nat):Int)<_;omega⟩,hx,rfl⟩
 |s8 hk hP hC=>exact ⟨⟨by show (0:Int)<=((_:Nat):Int);omega,by show ((_:Nat):Int)<_;omega⟩,rfl⟩
theorem po_at {X:Fix (mcT n)}{c:Nat}{op:Int}{eff:Int->(Int×Int)×Int×Value}{cl:Value->Goroutine}(h:PoSit n X c s f op j q eff cl):atT n q j:=by
 cases h with
 |s11 hA=>exact rfl
 |s12 hx hk hA=>exact ⟨fpos hx,fle hx hk,congrArg (lkJ n) (sl_of hx).symm⟩
 |s13 hx hk h0 h1 hA hC=>exact ⟨fpos hx,fle hx hk,h0,h1,rfl⟩
 |s14 hk hA=>exact ⟨⟨by show (0:Int)<=((_:Nat):Int);omega,by show ((_:Nat):Int)<_;omega⟩,rfl⟩
 |s15 hk hA hO=>exact ⟨⟨by show (0:Int)<=((_:Nat):Int);omega,by show ((_:Nat):Int)<_;omega⟩,rfl⟩
 |s16 hk hA hO=>exact ⟨⟨by show (0:Int)<=((_:Nat):Int);omega,by show ((_:Nat):Int)<_;omega⟩,rfl⟩
 |s17 hk hx hA hO=>exact ⟨⟨by show (0:Int)<=((_:Nat):Int);omega,by show ((_:Nat):Int)<_;omega⟩,hx,rfl⟩
 |s18 hk hA hO hC=>exact ⟨⟨by show (0:Int)<=((_:Nat):Int);omega,by show ((_:Nat):Int)<_;omega⟩,rfl⟩
theorem Ij (a y x:Int) (k1 k2:Nx):((Bn a y x).1,(Bn a y x).2.1)=((if x=a then put_ x y k1 else same x k2).1,(if x=a then put_ x y k1 else same x k2).2.1):=by unfold Bn;by_cases h:x=a;rw[if_pos h,if_pos h,h];rfl;rw[if_neg h,if_neg h];rfl
theorem pu_eff {X:Fix (mcT n)}{c:Nat}{op:Int}{eff:Int->(Int×Int)×Int×Value}{cl:Value->Goroutine}(h:PuSit n X c s f op j q eff cl) (x:Int):((eff x).1,(eff x).2.1)=((Ak n q x).1,(Ak n q x).2.1):=by
 cases h with
 |s3 hx hk h0 h1 hA hP hC=>exact Ij _ _ _ _ _
 |s8 hk hP hC=>exact Ij _ _ _ _ _
 |_=>rfl
theorem po_eff {X:Fix (mcT n)}{c:Nat}{op:Int}{eff:Int->(Int×Int)×Int×Value}{cl:Value->Goroutine}(h:PoSit n X c s f op j q eff cl) (x:Int):((eff x).1,(eff x).2.1)=((Ak n q x).1,(Ak n q x).2.1):=by
 cases h with
 |s13 hx hk h0 h1 hA hC=>exact Ij _ _ _ _ _
 |s15 hk hA hO=>exact Ij _ _ _ _ _
 |s18 hk hA hO hC=>exact Ij _ _ _ _ _
 |_=>rfl
section
variable {n:Nat}{X:Fix (mcT n)}{z:Nat->Option Nat}{cont:Addr->Value}{Ch:Nat->Prop}{Stop:Goroutine->World->Prop}{cu:Value->Goroutine}{S0:TS}{K0:List (Nat×Int)}{v0:World}{Mo0 Mo:Nat->Option Obj}{σ:TS}{κ:List (Nat×Int)}{S:TS}{v w:World}{t:Thr}{H:Nx->(Nat->Option Obj)->Goroutine->Prop}{c s sb rb pb:Nat}{f:Frs}
theorem t_served {op:Int}{eff:Int->(Int×Int)×Int×Value}{cl:Value->Goroutine}{y:Value}(hat:atT n q j) (heff:∀ x,((eff x).1,(eff x).2.1)=((Ak n q x).1,(Ak n q x).2.1)) (A:At X z cont Ch S K v w t) (hMo:Has (boxO pb) v) (hMf:∀ b,boxO pb b≠none->¬ Own S K b) (hcb:X.kb[j]? = some cb) (hg:Eg (X.h==0) X.i j cb X.tb op eff cl g) (hop:t.op=op) (hce:t.ce=(j:Int)) (hl:(S.n+1)*40<=140737488355328)
 (hk:∀ S1 v1 w1 t1,Now X z cont Ch S K v (boxO pb) (boxO pb) (didS (Gen.nv S) undef X.i t (Ak n q (cellAt K j).2).1.1 (Ak n q (cellAt K j).2).1.2) (K.set j ((cellAt K j).1,(Ak n q (cellAt K j).2).2.1)) S1 v1 w1 t1->GoesI Tryd.prog (X.h==0) (DT (ScZ z) Ch) Stop (cl (eff (cellAt K j).2).2.2) w1):
 GoesI Tryd.prog (X.h==0) (DT (ScZ z) Ch) Stop (Go.Conc.served g y) w:=by
 have N0:=Now.here A hMo hMf (boxO_row pb);have hc:=N0.cell hcb;have he:=heff (cellAt K j).2;refine hg z Ch Stop y w v S K t (cellAt K j).2 A.rel A.noRow A.mem A.thr A.tb hop hce hc.1 hl (λv1 w1 tv r1 n1 e1=>?_);have e2:(cellAt K j).1=cb:=by rw[hc.2]
 have e3:(eff (cellAt K j).2).1=(Ak n q (cellAt K j).2).1:=congrArg Prod.fst he;have e4:(eff (cellAt K j).2).2.1=(Ak n q (cellAt K j).2).2.1:=congrArg Prod.snd he;rw[e3,e4,<-e2] at e1;have sd:=sta_did (i:=X.i) S tv t (Ak n q (cellAt K j).2).1.1 (Ak n q (cellAt K j).2).1.2;exact hk _ v1 w1 _ (N0.on e1 r1 n1 (nv_did tv t _ _) (did_thr A.thr) A.tb A.gc sd.bk (A.kb.2.set j q (λ_=>hat) _))
theorem t_ans {α:Type}{enc:α->Value}{fa:α->Int×Int}(hB:CBack (X.h==0) pb enc fa f.ret cu) (y:α) {x:Nx}(hob:Ob X H z cont Ch Stop cu S0 K0 v0 Mo0 σ κ x) (hx:x=.ans (fa y).1 (fa y).2) (N:Now X z cont Ch S0 K0 v0 Mo0 (boxO pb) σ κ S v w t):
 GoesI Tryd.prog (X.h==0) (DT (ScZ z) Ch) Stop (f.ret (enc y)) w :=
 hB z Ch Stop w v S κ y N.at_.rel N.at_.noRow N.at_.mem (N.mo pb _ (boxO_at pb)) (N.far pb (by rw[boxO_at];simp)) (λv' w' r n ev=>hob.ans (fa y) hx v' w' S r n N.nv (N.evo.join ev (λb hb=>by have hb':b=pb:=hb;subst hb';exact N.new b (by rw[boxO_at];simp))))
structure PuC (n:Nat) (X:Fix (mcT n)) (c s sb rb pb:Nat) (f:Frs) (cu:Value->Goroutine) (H:Nx->(Nat->Option Obj)->Goroutine->Prop) (v0:World) (Mo0:Nat->Option Obj):Prop where
 mine:TMine n X c s sb rb
 ok:f.Ok
 back:CBack (X.h==0) pb encU ansU f.ret cu
 H:∀ x Mo' g,Good v0 Mo0 x Mo'->stSit n X x Mo' cu g->H x Mo' g
structure PoC (n:Nat) (X:Fix (mcT n)) (c s sb rb pb:Nat) (f:Frs) (cu:Value->Goroutine) (H:Nx->(Nat->Option Obj)->Goroutine->Prop) (v0:World) (Mo0:Nat->Option Obj):Prop where
 mine:TMine n X c s sb rb
 ok:f.Ok
 back:CBack (X.h==0) pb encO ansO f.ret cu
 H:∀ x Mo' g,Good v0 Mo0 x Mo'->stSit n X x Mo' cu g->H x Mo' g
theorem PuC.sit (C:PuC n X c s sb rb pb f cu H v0 Mo0) (N:Now X z cont Ch S0 K0 v0 Mo0 (boxO pb) σ κ S v w t) {op:Int}{eff:Int->(Int×Int)×Int×Value}{cl:Value->Goroutine}(hcb:X.kb[j]? = some cb) (hg:Eg (X.h==0) X.i j cb X.tb op eff cl g) (h:PuSit n X c s f op j q eff cl):H (.turn op j q) (boxO pb) g :=
 C.H _ _ g (N.good (λ_ _ h=>by cases h)) ⟨c,s,sb,rb,pb,f,op,j,q,cb,eff,cl,rfl,C.mine,C.ok,rfl,hcb,hg,.inl ⟨C.back,h⟩⟩
theorem PoC.sit (C:PoC n X c s sb rb pb f cu H v0 Mo0) (N:Now X z cont Ch S0 K0 v0 Mo0 (boxO pb) σ κ S v w t) {op:Int}{eff:Int->(Int×Int)×Int×Value}{cl:Value->Goroutine}(hcb:X.kb[j]? = some cb) (hg:Eg (X.h==0) X.i j cb X.tb op eff cl g) (h:PoSit n X c s f op j q eff cl):H (.turn op j q) (boxO pb) g :=
 C.H _ _ g (N.good (λ_ _ h=>by cases h)) ⟨c,s,sb,rb,pb,f,op,j,q,cb,eff,cl,rfl,C.mine,C.ok,rfl,hcb,hg,.inr ⟨C.back,h⟩⟩
theorem G1 {ops:Array Oper}{q d:Nat}(h:(ops[q]?).map (·.dst)=some (some d)):∃ oc,ops[q]? = some oc∧oc.dst=some d:=by obtain ⟨oc,h1,h2⟩:=Option.map_eq_some_iff.1 h;exact ⟨oc,h1,h2⟩
theorem pu1 (C:PuC n X c s sb rb pb f cu H v0 Mo0) (hA:FT s X.tb a) (hP:FP c X.tb x ap) (hob:Ob X H z cont Ch Stop cu S0 K0 v0 Mo0 σ κ (.turn 1 0 (1,[x]))) (N:Now X z cont Ch S0 K0 v0 Mo0 (boxO pb) σ κ S v w t):
 GoesI Tryd.prog (X.h==0) (DT (ScZ z) Ch) Stop (G (tHead a) (Js ap :: f.stack)) w:=by
 have hs:=C.mine.mem v N.at_.pk;obtain ⟨cb,hcb,hce⟩:=hs.1.slt.head;exact take_look (h:=X.h) (i:=X.i) (j:=0) (cb:=cb) hce (by rw[N.at_.tb];exact hA) _ (H (.turn 1 0 (1,[x])) (boxO pb)) (λg hg=>by obtain ⟨a1,hA1,hg⟩:=hg;rw[N.at_.tb] at hg;rw[N.at_.tb] at hA1;exact C.sit N hcb hg (.s1 hA1 hP)) N.at_.rel N.at_.noRow N.at_.mem N.at_.thr (N.cell hcb).1 (by rw[N.at_.tb];exact N.at_.z) (by rw[N.at_.tb,N.at_.gc];exact N.at_.cont) (Ej hob N)
theorem pu2 (C:PuC n X c s sb rb pb f cu H v0 Mo0) (hx:fstI x=(k:Int)+1) (hk:k<n) (hA:FT s X.tb a) (hP:FP c X.tb v1 ap) (hob:Ob X H z cont Ch Stop cu S0 K0 v0 Mo0 σ κ (.turn 1 (nxJ k) (2,[v1,x]))) (N:Now X z cont Ch S0 K0 v0 Mo0 (boxO pb) σ κ S v w t):
 GoesI Tryd.prog (X.h==0) (DT (ScZ z) Ch) Stop (G (Kv a (I x)) (Js ap :: f.stack)) w:=by
 have hs:=C.mine.mem v N.at_.pk;obtain ⟨cb,hcb,hce⟩:=hs.1.slt.next k hk
 exact take_next (h:=X.h) (i:=X.i) (j:=nxJ k) (cb:=cb) k hx hk hs.2 hs.1.slt.row hce (by rw[N.at_.tb];exact hA) _ (H (.turn 1 (nxJ k) (2,[v1,x])) (boxO pb)) (λg hg=>by obtain ⟨a1,hA1,hg⟩:=hg;rw[N.at_.tb] at hg;rw[N.at_.tb] at hA1;exact C.sit N hcb hg (.s2 hx hk hA1 hP)) N.at_.rel N.at_.noRow N.at_.mem N.at_.thr (N.cell hcb).1 (by rw[N.at_.tb];exact N.at_.z) (by rw[N.at_.tb,N.at_.gc];exact N.at_.cont) (Ej hob N)
theorem pu3 (C:PuC n X c s sb rb pb f cu H v0 Mo0) (hx:fstI x=(k:Int)+1) (hk:k<n) (h0:0<=y) (h1:y<=n) (hA:FT9 s X.tb k x a) (hP:FP c X.tb v1 ap) (hob:Ob X H z cont Ch Stop cu S0 K0 v0 Mo0 σ κ (.turn 4 0 (3,[v1,x,y]))) (N:Now X z cont Ch S0 K0 v0 Mo0 (boxO pb) σ κ S v w t):
 GoesI Tryd.prog (X.h==0) (DT (ScZ z) Ch) Stop (G (tNext a (I y)) (Js ap :: f.stack)) w:=by
 have hs:=C.mine.mem v N.at_.pk;obtain ⟨cb,hcb,hce⟩:=hs.1.slt.head;refine take_try y hA _ (λa1 code hc hA1=>?_);rw[<-N.at_.tb];exact ch46_go (h:=X.h) (i:=X.i) (cb:=cb) x y hs.2 hce _ (H (.turn 4 0 (3,[v1,x,y])) (boxO pb)) (λg hg=>by obtain ⟨a2,hA2,hg⟩:=hg;rw[N.at_.tb] at hg;exact C.sit N hcb hg (.s3 hx hk h0 h1 hA1 hP hA2)) N.at_.rel N.at_.noRow N.at_.mem N.at_.thr (N.cell hcb).1 (by rw[N.at_.tb];exact N.at_.z) (by rw[N.at_.tb,N.at_.gc];exact N.at_.cont) (Ej hob N) code hc
theorem pu4 (C:PuC n X c s sb rb pb f cu H v0 Mo0) (hk:k<n) (hA:FT8 s X.tb k x a) (hP:FP c X.tb v1 ap) (hob:Ob X H z cont Ch Stop cu S0 K0 v0 Mo0 σ κ (.turn 2 (usJ k) (4,[v1,(k:Int)]))) (N:Now X z cont Ch S0 K0 v0 Mo0 (boxO pb) σ κ S v w t):
 GoesI Tryd.prog (X.h==0) (DT (ScZ z) Ch) Stop (G (tTried a (.bool true)) (Js ap :: f.stack)) w:=by
 have hs:=C.mine.mem v N.at_.pk;obtain ⟨cb,hcb,hce⟩:=hs.1.slt.used k hk;exact take_won (h:=X.h) (i:=X.i) (j:=usJ k) (cb:=cb) hk hs.1.slt.row hce (by rw[N.at_.tb];exact hA) _ (H (.turn 2 (usJ k) (4,[v1,(k:Int)])) (boxO pb)) (λg hg=>by obtain ⟨a1,hA1,hg⟩:=hg;rw[N.at_.tb] at hg;rw[N.at_.tb] at hA1;exact C.sit N hcb hg (.s4 hk hA1 hP)) N.at_.rel N.at_.noRow N.at_.mem N.at_.thr (N.cell hcb).1 (by rw[N.at_.tb];exact N.at_.z) (by rw[N.at_.tb,N.at_.gc];exact N.at_.cont) (Ej hob N)
theorem pu5 (C:PuC n X c s sb rb pb f cu H v0 Mo0) (hk:k<n) (hP:FP c X.tb v1 ap) (hob:Ob X H z cont Ch Stop cu S0 K0 v0 Mo0 σ κ (.turn 2 (vlJ n k) (5,[v1,(k:Int)]))) (N:Now X z cont Ch S0 K0 v0 Mo0 (boxO pb) σ κ S v w t):
 GoesI Tryd.prog (X.h==0) (DT (ScZ z) Ch) Stop (G (pTook ap (.tuple #[I k,I 0])) f.stack) w:=by
 have hs:=C.mine.mem v N.at_.pk;obtain ⟨cb,hcb,hce⟩:=hs.1.value k hk;exact push_val (h:=X.h) (i:=X.i) (j:=vlJ n k) (cb:=cb) k hk hs.1.row hce (by rw[N.at_.tb];exact hP) _ (H (.turn 2 (vlJ n k) (5,[v1,(k:Int)])) (boxO pb)) (λg hg=>by obtain ⟨a1,hA1,hg⟩:=hg;rw[N.at_.tb] at hg;rw[N.at_.tb] at hA1;exact C.sit N hcb hg (.s5 hk hA1)) N.at_.rel N.at_.noRow N.at_.mem N.at_.thr (N.cell hcb).1 (by rw[N.at_.tb];exact N.at_.z) (by rw[N.at_.tb,N.at_.gc];exact N.at_.cont) (Ej hob N)
theorem pu6 (C:PuC n X c s sb rb pb f cu H v0 Mo0) (hk:k<n) (hP:FP7 c X.tb k v1 ap) (hob:Ob X H z cont Ch Stop cu S0 K0 v0 Mo0 σ κ (.turn 1 (hdJ n) (6,[(k:Int)]))) (N:Now X z cont Ch S0 K0 v0 Mo0 (boxO pb) σ κ S v w t):
 GoesI Tryd.prog (X.h==0) (DT (ScZ z) Ch) Stop (G (pHead ap) f.stack) w:=by
 have hs:=C.mine.mem v N.at_.pk;obtain ⟨cb,hcb,hce⟩:=hs.1.head;exact push_look (h:=X.h) (i:=X.i) (j:=hdJ n) (cb:=cb) hce (by rw[N.at_.tb];exact hP) _ (H (.turn 1 (hdJ n) (6,[(k:Int)])) (boxO pb)) (λg hg=>by obtain ⟨a1,hA1,hg⟩:=hg;rw[N.at_.tb] at hg;rw[N.at_.tb] at hA1;exact C.sit N hcb hg (.s6 hk hA1)) N.at_.rel N.at_.noRow N.at_.mem N.at_.thr (N.cell hcb).1 (by rw[N.at_.tb];exact N.at_.z) (by rw[N.at_.tb,N.at_.gc];exact N.at_.cont) (Ej hob N)
theorem pu7 (C:PuC n X c s sb rb pb f cu H v0 Mo0) (hk:k<n) (hx:fstI x<=n) (hP:FP7 c X.tb k v1 ap) (hob:Ob X H z cont Ch Stop cu S0 K0 v0 Mo0 σ κ (.turn 2 (lkJ n k) (7,[(k:Int),x]))) (N:Now X z cont Ch S0 K0 v0 Mo0 (boxO pb) σ κ S v w t):
 GoesI Tryd.prog (X.h==0) (DT (ScZ z) Ch) Stop (G (pSeen ap (I x)) f.stack) w:=by
 have hs:=C.mine.mem v N.at_.pk;obtain ⟨cb,hcb,hce⟩:=hs.1.link k hk;exact push_link (h:=X.h) (i:=X.i) (j:=lkJ n k) (cb:=cb) x hk hs.2 hs.1.row hce (by rw[N.at_.tb];exact hP) _ (H (.turn 2 (lkJ n k) (7,[(k:Int),x])) (boxO pb)) (λg hg=>by obtain ⟨a1,hA1,hg⟩:=hg;rw[N.at_.tb] at hg;rw[N.at_.tb] at hA1;exact C.sit N hcb hg (.s7 hk hx hA1)) N.at_.rel N.at_.noRow N.at_.mem N.at_.thr (N.cell hcb).1 (by rw[N.at_.tb];exact N.at_.z) (by rw[N.at_.tb,N.at_.gc];exact N.at_.cont) (Ej hob N)
theorem pu8 (C:PuC n X c s sb rb pb f cu H v0 Mo0) (hk:k<n) (hP:FP9 c X.tb k v1 x ap) (r:Value) (hob:Ob X H z cont Ch Stop cu S0 K0 v0 Mo0 σ κ (.turn 4 (hdJ n) (8,[(k:Int),x]))) (N:Now X z cont Ch S0 K0 v0 Mo0 (boxO pb) σ κ S v w t):
 GoesI Tryd.prog (X.h==0) (DT (ScZ z) Ch) Stop (G (pLink ap r) f.stack) w:=by
 have hs:=C.mine.mem v N.at_.pk;obtain ⟨cb,hcb,hce⟩:=hs.1.head;refine push_try (by have:=hs.1.n1;omega) r hP _ (λa1 code hc hA1=>?_);rw[<-N.at_.tb];exact ch73_go (h:=X.h) (i:=X.i) (cb:=cb) x ((k:Int)+1) hs.2 hce _ (H (.turn 4 (hdJ n) (8,[(k:Int),x])) (boxO pb)) (λg hg=>by obtain ⟨a2,hA2,hg⟩:=hg;rw[N.at_.tb] at hg;exact C.sit N hcb hg (.s8 hk hA1 hA2)) N.at_.rel N.at_.noRow N.at_.mem N.at_.thr (N.cell hcb).1 (by rw[N.at_.tb];exact N.at_.z) (by rw[N.at_.tb,N.at_.gc];exact N.at_.cont) (Ej hob N) code hc
theorem po11 (C:PoC n X c s sb rb pb f cu H v0 Mo0) (hA:FO c X.tb a) (hob:Ob X H z cont Ch Stop cu S0 K0 v0 Mo0 σ κ (.turn 1 (hdJ n) (11,[]))) (N:Now X z cont Ch S0 K0 v0 Mo0 (boxO pb) σ κ S v w t):
 GoesI Tryd.prog (X.h==0) (DT (ScZ z) Ch) Stop (G (oHead a) f.stack) w:=by
 have hs:=C.mine.mem v N.at_.pk;obtain ⟨cb,hcb,hce⟩:=hs.1.head;exact pop_look (h:=X.h) (i:=X.i) (j:=hdJ n) (cb:=cb) hce (by rw[N.at_.tb];exact hA) _ (H (.turn 1 (hdJ n) (11,[])) (boxO pb)) (λg hg=>by obtain ⟨a1,hA1,hg⟩:=hg;rw[N.at_.tb] at hg;rw[N.at_.tb] at hA1;exact C.sit N hcb hg (.s11 hA1)) N.at_.rel N.at_.noRow N.at_.mem N.at_.thr (N.cell hcb).1 (by rw[N.at_.tb];exact N.at_.z) (by rw[N.at_.tb,N.at_.gc];exact N.at_.cont) (Ej hob N)
theorem po12 (C:PoC n X c s sb rb pb f cu H v0 Mo0) (hx:fstI x=(k:Int)+1) (hk:k<n) (hA:FO c X.tb a) (hob:Ob X H z cont Ch Stop cu S0 K0 v0 Mo0 σ κ (.turn 1 (lkJ n k) (12,[x]))) (N:Now X z cont Ch S0 K0 v0 Mo0 (boxO pb) σ κ S v w t):
 GoesI Tryd.prog (X.h==0) (DT (ScZ z) Ch) Stop (G (K7 a (I x)) f.stack) w:=by
 have hs:=C.mine.mem v N.at_.pk;obtain ⟨cb,hcb,hce⟩:=hs.1.link k hk;exact pop_link (h:=X.h) (i:=X.i) (j:=lkJ n k) (cb:=cb) k hx hk hs.2 hs.1.row hce (by rw[N.at_.tb];exact hA) _ (H (.turn 1 (lkJ n k) (12,[x])) (boxO pb)) (λg hg=>by obtain ⟨a1,hA1,hg⟩:=hg;rw[N.at_.tb] at hg;rw[N.at_.tb] at hA1;exact C.sit N hcb hg (.s12 hx hk hA1)) N.at_.rel N.at_.noRow N.at_.mem N.at_.thr (N.cell hcb).1 (by rw[N.at_.tb];exact N.at_.z) (by rw[N.at_.tb,N.at_.gc];exact N.at_.cont) (Ej hob N)
theorem po13 (C:PoC n X c s sb rb pb f cu H v0 Mo0) (hx:fstI x=(k:Int)+1) (hk:k<n) (h0:0<=y) (h1:y<=n) (hA:FO8 c X.tb k x a) (hob:Ob X H z cont Ch Stop cu S0 K0 v0 Mo0 σ κ (.turn 4 (hdJ n) (13,[x,y]))) (N:Now X z cont Ch S0 K0 v0 Mo0 (boxO pb) σ κ S v w t):
 GoesI Tryd.prog (X.h==0) (DT (ScZ z) Ch) Stop (G (oLink a (I y)) f.stack) w:=by
 have hs:=C.mine.mem v N.at_.pk;obtain ⟨cb,hcb,hce⟩:=hs.1.head;refine pop_try y hA _ (λa1 code hc hA1=>?_);rw[<-N.at_.tb];exact ch73_go (h:=X.h) (i:=X.i) (cb:=cb) x y hs.2 hce _ (H (.turn 4 (hdJ n) (13,[x,y])) (boxO pb)) (λg hg=>by obtain ⟨a2,hA2,hg⟩:=hg;rw[N.at_.tb] at hg;exact C.sit N hcb hg (.s13 hx hk h0 h1 hA1 hA2)) N.at_.rel N.at_.noRow N.at_.mem N.at_.thr (N.cell hcb).1 (by rw[N.at_.tb];exact N.at_.z) (by rw[N.at_.tb,N.at_.gc];exact N.at_.cont) (Ej hob N) code hc
theorem po14 (C:PoC n X c s sb rb pb f cu H v0 Mo0) (hk:k<n) (hA:FO8 c X.tb k x a) (hob:Ob X H z cont Ch Stop cu S0 K0 v0 Mo0 σ κ (.turn 1 (vlJ n k) (14,[(k:Int)]))) (N:Now X z cont Ch S0 K0 v0 Mo0 (boxO pb) σ κ S v w t):
 GoesI Tryd.prog (X.h==0) (DT (ScZ z) Ch) Stop (G (oTried a (.bool true)) f.stack) w:=by
 have hs:=C.mine.mem v N.at_.pk;obtain ⟨cb,hcb,hce⟩:=hs.1.value k hk;exact pop_val (h:=X.h) (i:=X.i) (j:=vlJ n k) (cb:=cb) hk hs.1.row hce (by rw[N.at_.tb];exact hA) _ (H (.turn 1 (vlJ n k) (14,[(k:Int)])) (boxO pb)) (λg hg=>by obtain ⟨a1,hA1,hg⟩:=hg;rw[N.at_.tb] at hg;rw[N.at_.tb] at hA1;exact C.sit N hcb hg (.s14 hk hA1)) N.at_.rel N.at_.noRow N.at_.mem N.at_.thr (N.cell hcb).1 (by rw[N.at_.tb];exact N.at_.z) (by rw[N.at_.tb,N.at_.gc];exact N.at_.cont) (Ej hob N)
theorem po15 (C:PoC n X c s sb rb pb f cu H v0 Mo0) (hk:k<n) (hA:FOk c X.tb k a) (hob:Ob X H z cont Ch Stop cu S0 K0 v0 Mo0 σ κ (.turn 4 (usJ k) (15,[(k:Int),y]))) (N:Now X z cont Ch S0 K0 v0 Mo0 (boxO pb) σ κ S v w t):
 GoesI Tryd.prog (X.h==0) (DT (ScZ z) Ch) Stop (G (oVal a (I y)) f.stack) w:=by
 have hs:=C.mine.mem v N.at_.pk;obtain ⟨cb,hcb,hce⟩:=hs.1.slt.used k hk;refine pop_give y hs.1.slots hA _ N.at_.rel (λa1 code hc hA1=>?_);rw[<-N.at_.tb];exact give_in (h:=X.h) (i:=X.i) (cb:=cb) hk hs.1.slt.row hce _ (H (.turn 4 (usJ k) (15,[(k:Int),y])) (boxO pb)) (λg hg=>by obtain ⟨a2,hA2,hg⟩:=hg;rw[N.at_.tb] at hg hA2;exact C.sit N hcb hg (.s15 hk hA2 hA1)) N.at_.rel N.at_.noRow N.at_.mem N.at_.thr (N.cell hcb).1 (by rw[N.at_.tb];exact N.at_.z) (by rw[N.at_.tb,N.at_.gc];exact N.at_.cont) (Ej hob N) code hc
theorem po16 (C:PoC n X c s sb rb pb f cu H v0 Mo0) (hk:k<n) (hA:FG s X.tb k a) (hO:FOv c X.tb k y ao) (hob:Ob X H z cont Ch Stop cu S0 K0 v0 Mo0 σ κ (.turn 1 0 (16,[(k:Int),y]))) (N:Now X z cont Ch S0 K0 v0 Mo0 (boxO pb) σ κ S v w t):
 GoesI Tryd.prog (X.h==0) (DT (ScZ z) Ch) Stop (G (gHead a) (oGive ao :: f.stack)) w:=by
 have hs:=C.mine.mem v N.at_.pk;obtain ⟨cb,hcb,hce⟩:=hs.1.slt.head;exact give_look (h:=X.h) (i:=X.i) (j:=0) (cb:=cb) hce (by rw[N.at_.tb];exact hA) _ (H (.turn 1 0 (16,[(k:Int),y])) (boxO pb)) (λg hg=>by obtain ⟨a1,hA1,hg⟩:=hg;rw[N.at_.tb] at hg;rw[N.at_.tb] at hA1;exact C.sit N hcb hg (.s16 hk hA1 hO)) N.at_.rel N.at_.noRow N.at_.mem N.at_.thr (N.cell hcb).1 (by rw[N.at_.tb];exact N.at_.z) (by rw[N.at_.tb,N.at_.gc];exact N.at_.cont) (Ej hob N)
theorem po17 (C:PoC n X c s sb rb pb f cu H v0 Mo0) (hk:k<n) (hx:fstI x<=n) (hA:FG s X.tb k a) (hO:FOv c X.tb k y ao) (hob:Ob X H z cont Ch Stop cu S0 K0 v0 Mo0 σ κ (.turn 2 (nxJ k) (17,[(k:Int),y,x]))) (N:Now X z cont Ch S0 K0 v0 Mo0 (boxO pb) σ κ S v w t):
 GoesI Tryd.prog (X.h==0) (DT (ScZ z) Ch) Stop (G (gSeen a (I x)) (oGive ao :: f.stack)) w:=by
 have hs:=C.mine.mem v N.at_.pk;obtain ⟨cb,hcb,hce⟩:=hs.1.slt.next k hk
 exact give_next (h:=X.h) (i:=X.i) (j:=nxJ k) (cb:=cb) hk hs.2 hs.1.slt.row hce (by rw[N.at_.tb];exact hA) _ (H (.turn 2 (nxJ k) (17,[(k:Int),y,x])) (boxO pb)) (λg hg=>by obtain ⟨a1,hA1,hg⟩:=hg;rw[N.at_.tb] at hg;rw[N.at_.tb] at hA1;exact C.sit N hcb hg (.s17 hk hx hA1 hO)) N.at_.rel N.at_.noRow N.at_.mem N.at_.thr (N.cell hcb).1 (by rw[N.at_.tb];exact N.at_.z) (by rw[N.at_.tb,N.at_.gc];exact N.at_.cont) (Ej hob N)
theorem po18 (C:PoC n X c s sb rb pb f cu H v0 Mo0) (hk:k<n) (hA:FG7 s X.tb k x a) (hO:FOv c X.tb k y ao) (r:Value) (hob:Ob X H z cont Ch Stop cu S0 K0 v0 Mo0 σ κ (.turn 4 0 (18,[(k:Int),y,x]))) (N:Now X z cont Ch S0 K0 v0 Mo0 (boxO pb) σ κ S v w t):
 GoesI Tryd.prog (X.h==0) (DT (ScZ z) Ch) Stop (G (gStored a r) (oGive ao :: f.stack)) w:=by
 have hs:=C.mine.mem v N.at_.pk;obtain ⟨cb,hcb,hce⟩:=hs.1.slt.head;refine give_try (by have:=hs.1.n1;omega) r hA _ (λa1 code hc hA1=>?_);rw[<-N.at_.tb];exact ch46_go (h:=X.h) (i:=X.i) (cb:=cb) x ((k:Int)+1) hs.2 hce _ (H (.turn 4 0 (18,[(k:Int),y,x])) (boxO pb)) (λg hg=>by obtain ⟨a2,hA2,hg⟩:=hg;rw[N.at_.tb] at hg;exact C.sit N hcb hg (.s18 hk hA1 hO hA2)) N.at_.rel N.at_.noRow N.at_.mem N.at_.thr (N.cell hcb).1 (by rw[N.at_.tb];exact N.at_.z) (by rw[N.at_.tb,N.at_.gc];exact N.at_.cont) (Ej hob N) code hc
end
section
variable {n:Nat}{v b c x:Int}{k:Nat}
theorem m1a (h:fstI x=0):(Ak n (1,[v]) x).2.2=.ans 80 0:=by simp[Ak,same,h]
theorem m1b (h:fstI x=(k:Int)+1):(Ak n (1,[v]) x).2.2=.turn 1 (nxJ k) (2,[v,x]):=by
 have:¬ fstI x=0:=by omega
 simp[Ak,same,this,sl_of h]
theorem m3a (h:fstI b=(k:Int)+1):(Ak n (3,[v,b,c]) b).2.2=.turn 2 (usJ k) (4,[v,(k:Int)]):=by simp[Ak,put_,sl_of h]
theorem m3b (h:x≠b):(Ak n (3,[v,b,c]) x).2.2=.turn 1 0 (1,[v]):=by simp[Ak,same,h]
theorem m8a:(Ak n (8,[(k:Int),b]) b).2.2=.ans 0 0:=by simp[Ak,put_]
theorem m8b (h:x≠b):(Ak n (8,[(k:Int),b]) x).2.2=.turn 1 (hdJ n) (6,[(k:Int)]):=by simp[Ak,same,h]
theorem m11a (h:fstI x=0):(Ak n (11,[]) x).2.2=.ans 90 0:=by simp[Ak,same,h]
theorem m11b (h:fstI x=(k:Int)+1):(Ak n (11,[]) x).2.2=.turn 1 (lkJ n k) (12,[x]):=by
 have:¬ fstI x=0:=by omega
 simp[Ak,same,this,sl_of h]
theorem m13a (h:fstI b=(k:Int)+1):(Ak n (13,[b,c]) b).2.2=.turn 1 (vlJ n k) (14,[(k:Int)]):=by simp[Ak,put_,sl_of h]
theorem m13b (h:x≠b):(Ak n (13,[b,c]) x).2.2=.turn 1 (hdJ n) (11,[]):=by simp[Ak,same,h]
theorem m15a:(Ak n (15,[(k:Int),b]) 1).2.2=.turn 1 0 (16,[(k:Int),b]):=by simp[Ak,put_]
theorem m15b (h:x≠1):(Ak n (15,[(k:Int),b]) x).2.2=.ans 0 b:=by simp[Ak,same,h]
theorem m18a:(Ak n (18,[(k:Int),v,b]) b).2.2=.ans 0 v:=by simp[Ak,put_]
theorem m18b (h:x≠b):(Ak n (18,[(k:Int),v,b]) x).2.2=.turn 1 0 (16,[(k:Int),v]):=by simp[Ak,same,h]
end
theorem Hy (a y:Int):(Bn a y a).2.2=.bool true:=by unfold Bn;rw[if_pos rfl]
theorem cas_no {a:Int}(y:Int) (h:x≠a):(Bn a y x).2.2=.bool false:=by unfold Bn;rw[if_neg h]
theorem fst_some (h:fstI x<=n) (h0:¬ fstI x=0):∃ k:Nat,fstI x=(k:Int)+1∧k<n:=by have:=R1.J0 x;exact ⟨(fstI x - 1).toNat,by omega,by omega⟩
section
variable {n:Nat}{X:Fix (mcT n)}{z:Nat->Option Nat}{cont:Addr->Value}{Ch:Nat->Prop}{Stop:Goroutine->World->Prop}{cu:Value->Goroutine}{S0:TS}{K0:List (Nat×Int)}{v0:World}{Mo0 Mo:Nat->Option Obj}{σ:TS}{κ:List (Nat×Int)}{S:TS}{v w:World}{t:Thr}{H:Nx->(Nat->Option Obj)->Goroutine->Prop}{c s sb rb pb:Nat}{f:Frs}
theorem Now.grow (N:Now X z cont Ch S0 K0 v0 Mo0 Mo σ κ S v w t) {v':World}(g:Grows v v') (r:Rel z v' w') (n:Ai Ch v'):Now X z cont Ch S0 K0 v0 Mo0 Mo σ κ S v' w' t:=N.on (N.at_.mem.grows g) r n N.nv N.at_.thr N.at_.tb N.at_.gc rfl N.at_.kb.2
theorem Now.next (N:Now X z cont Ch S0 K0 v0 Mo0 Mo σ κ S v w t) (r:Rel z v w'):Now X z cont Ch S0 K0 v0 Mo0 Mo σ κ S v w' t:=N.same r N.at_.noRow rfl rfl rfl
theorem now_box (A:At X z cont Ch S κ v w t) {v':World}(hr:Rel z v' w') (hn:Ai Ch v') (hg:Grows v v') (hbox:v'.heap[v.heap.size+1]? = some (.cells #[I 0,I 0] 48 (0,0))):Now X z cont Ch S κ v (λ_=>none) (boxO (v.heap.size+1)) (Gen.nv S) κ S v' w' t:=by
 have hlt:v.heap.size+1<v'.heap.size:=(Qb hbox).1;refine ⟨⟨hr,hn,(A.mem.grows hg).mem,A.thr,A.tb,A.gc,A.kb,A.z,A.cont,λb o hb=>?_,A.far⟩,Evo.toP (A.mem.grows hg),rfl,rfl,λb o hb=>?_,λb hb ho=>?_,λb hb=>?_,boxO_row _⟩
 .have h1:=A.pk b o hb
  rw[hg.old b (Qb h1).1];exact h1
 .have e:=boxO_eq (pb:=v.heap.size+1) (b:=b) (by rw[hb];simp)
  subst e;rw[boxO_at] at hb;cases hb;exact hbox
 .have e:=boxO_eq hb
  have:=A.mem.lt ho;omega
 .have e:=boxO_eq hb
  exact .inr (by omega)
theorem pu_full (C:PuC n X c s sb rb pb f cu H v0 Mo0) (h0:fstI x=0) (hA:FT s X.tb a) (hP:FP c X.tb v1 ap) (hob:Ob X H z cont Ch Stop cu S0 K0 v0 Mo0 σ κ (.ans 80 0)) (N:Now X z cont Ch S0 K0 v0 Mo0 (boxO pb) σ κ S v w t):
 GoesI Tryd.prog (X.h==0) (DT (ScZ z) Ch) Stop (G (Kv a (I x)) (Js ap :: f.stack)) w:=by
 have hs:=C.mine.mem v N.at_.pk;obtain ⟨oc,ho1,ho2⟩:=G1 pO1_5;refine take_full (bc:=base 50) (ac:=ap) (ops:=pO1) (q:=5) (rest:=[6,7,8,9,10]) (oc:=oc) (k0:=(.code p2 :: [.inScope pS])) x h0 hs.2 hA _ ho1 N.at_.rel N.at_.noRow (λv2 w2 r2 n2 g2=>?_);rw[ho2];have N2:=N.grow g2 r2 n2;exact push_full (bc:=f.bd) (ac:=f.ad) (ops:=f.od) (q:=f.qd) (rest:=f.rd) (oc:=f.oe) (k0:=f.kd) hP f.fs C.ok r2 n2 (λw3 r3=>t_ans C.back (80:Int) hob rfl (N2.next r3))
theorem pu_won (C:PuC n X c s sb rb pb f cu H v0 Mo0) (hk:k<n) (hA:FT8 s X.tb k x a) (hP:FP c X.tb v1 ap) (hC:Fl 22 [] ac) (hob:Ob X H z cont Ch Stop cu S0 K0 v0 Mo0 σ κ (.turn 2 (usJ k) (4,[v1,(k:Int)]))) (N:Now X z cont Ch S0 K0 v0 Mo0 (boxO pb) σ κ S v w t):
 GoesI Tryd.prog (X.h==0) (DT (ScZ z) Ch) Stop (G (ch46T ac (.bool true)) (tTry a :: Js ap :: f.stack)) w:=by
 obtain ⟨oc,ho1,ho2⟩:=G1 tO6_13;refine Ja (bc:=base 25) (ac:=a) (ops:=tO6) (q:=13) (rest:=[14]) (oc:=oc) (k0:=(.code tC6 :: .code t7 :: tE)) true hC _ ho1 N.at_.rel N.at_.noRow (λw2 r2=>?_);rw[ho2];exact pu4 C hk hA hP hob (N.next r2)
theorem pu_lost (C:PuC n X c s sb rb pb f cu H v0 Mo0) (hA:FT8 s X.tb k x a) (hP:FP c X.tb v1 ap) (hC:Fl 22 [] ac) (hob:Ob X H z cont Ch Stop cu S0 K0 v0 Mo0 σ κ (.turn 1 0 (1,[v1]))) (N:Now X z cont Ch S0 K0 v0 Mo0 (boxO pb) σ κ S v w t):
 GoesI Tryd.prog (X.h==0) (DT (ScZ z) Ch) Stop (G (ch46T ac (.bool false)) (tTry a :: Js ap :: f.stack)) w:=by
 obtain ⟨oc,ho1,ho2⟩:=G1 tO6_13;refine Ja (bc:=base 25) (ac:=a) (ops:=tO6) (q:=13) (rest:=[14]) (oc:=oc) (k0:=(.code tC6 :: .code t7 :: tE)) false hC _ ho1 N.at_.rel N.at_.noRow (λw2 r2=>?_);rw[ho2];exact take_again hA _ (λa1 hA1=>pu1 C hA1 hP hob (N.next r2))
theorem pu_took (C:PuC n X c s sb rb pb f cu H v0 Mo0) (r:Value) (hk:k<n) (hA:FT8 s X.tb k x a) (hP:FP c X.tb v1 ap) (hob:Ob X H z cont Ch Stop cu S0 K0 v0 Mo0 σ κ (.turn 2 (vlJ n k) (5,[v1,(k:Int)]))) (N:Now X z cont Ch S0 K0 v0 Mo0 (boxO pb) σ κ S v w t):
 GoesI Tryd.prog (X.h==0) (DT (ScZ z) Ch) Stop (G (tUsed a r) (Js ap :: f.stack)) w:=by
 obtain ⟨oc,ho1,ho2⟩:=G1 pO1_5;refine take_done (bc:=base 50) (ac:=ap) (ops:=pO1) (q:=5) (rest:=[6,7,8,9,10]) (oc:=oc) (k0:=(.code p2 :: [.inScope pS])) r hA _ ho1 N.at_.rel N.at_.noRow (λw2 r2=>?_);rw[ho2];exact pu5 C hk hP hob (N.next r2)
theorem pu_done (C:PuC n X c s sb rb pb f cu H v0 Mo0) (hP:FP9 c X.tb k v1 x ap) (hC:Fl 22 [] ac) (hob:Ob X H z cont Ch Stop cu S0 K0 v0 Mo0 σ κ (.ans 0 0)) (N:Now X z cont Ch S0 K0 v0 Mo0 (boxO pb) σ κ S v w t):
 GoesI Tryd.prog (X.h==0) (DT (ScZ z) Ch) Stop (G (ch73T ac (.bool true)) (pTry ap :: f.stack)) w:=by
 obtain ⟨oc,ho1,ho2⟩:=G1 pO7_5;refine I9 (bc:=base 50) (ac:=ap) (ops:=pO7) (q:=5) (rest:=[6]) (oc:=oc) (k0:=(.code pC7 :: .code p8 :: pE)) true hC _ ho1 N.at_.rel N.at_.noRow (λw2 r2=>?_);rw[ho2];exact push_done (bc:=f.bd) (ac:=f.ad) (ops:=f.od) (q:=f.qd) (rest:=f.rd) (oc:=f.oe) (k0:=f.kd) hP f.fs C.ok r2 N.at_.noRow (λw3 r3=>t_ans C.back (0:Int) hob rfl ((N.next r2).next r3))
theorem pu_retry (C:PuC n X c s sb rb pb f cu H v0 Mo0) (hk:k<n) (hP:FP9 c X.tb k v1 x ap) (hC:Fl 22 [] ac) (hob:Ob X H z cont Ch Stop cu S0 K0 v0 Mo0 σ κ (.turn 1 (hdJ n) (6,[(k:Int)]))) (N:Now X z cont Ch S0 K0 v0 Mo0 (boxO pb) σ κ S v w t):
 GoesI Tryd.prog (X.h==0) (DT (ScZ z) Ch) Stop (G (ch73T ac (.bool false)) (pTry ap :: f.stack)) w:=by
 obtain ⟨oc,ho1,ho2⟩:=G1 pO7_5;refine I9 (bc:=base 50) (ac:=ap) (ops:=pO7) (q:=5) (rest:=[6]) (oc:=oc) (k0:=(.code pC7 :: .code p8 :: pE)) false hC _ ho1 N.at_.rel N.at_.noRow (λw2 r2=>?_);rw[ho2];exact push_again hP _ (λa1 hA1=>pu6 C hk hA1 hob (N.next r2))
theorem po_empty (C:PoC n X c s sb rb pb f cu H v0 Mo0) (h0:fstI x=0) (hA:FO c X.tb a) (hob:Ob X H z cont Ch Stop cu S0 K0 v0 Mo0 σ κ (.ans 90 0)) (N:Now X z cont Ch S0 K0 v0 Mo0 (boxO pb) σ κ S v w t):
 GoesI Tryd.prog (X.h==0) (DT (ScZ z) Ch) Stop (G (K7 a (I x)) f.stack) w:=by
 have hs:=C.mine.mem v N.at_.pk;exact pop_empty (bc:=f.bd) (ac:=f.ad) (ops:=f.od) (q:=f.qd) (rest:=f.rd) (oc:=f.oe) (k0:=f.kd) x h0 hs.2 hA f.fs C.ok N.at_.rel N.at_.noRow (λv2 w2 r2 n2 g2=>t_ans C.back ((0,90):Int×Int) hob rfl (N.grow g2 r2 n2))
theorem po_won (C:PoC n X c s sb rb pb f cu H v0 Mo0) (hk:k<n) (hA:FO8 c X.tb k x a) (hC:Fl 22 [] ac) (hob:Ob X H z cont Ch Stop cu S0 K0 v0 Mo0 σ κ (.turn 1 (vlJ n k) (14,[(k:Int)]))) (N:Now X z cont Ch S0 K0 v0 Mo0 (boxO pb) σ κ S v w t):
 GoesI Tryd.prog (X.h==0) (DT (ScZ z) Ch) Stop (G (ch73T ac (.bool true)) (oTry a :: f.stack)) w:=by
 obtain ⟨oc,ho1,ho2⟩:=G1 oO7_4;refine I9 (bc:=base 51) (ac:=a) (ops:=oO7) (q:=4) (rest:=[5]) (oc:=oc) (k0:=(.code oC7 :: .code o8 :: oE)) true hC _ ho1 N.at_.rel N.at_.noRow (λw2 r2=>?_);rw[ho2];exact po14 C hk hA hob (N.next r2)
theorem po_lost (C:PoC n X c s sb rb pb f cu H v0 Mo0) (hA:FO8 c X.tb k x a) (hC:Fl 22 [] ac) (hob:Ob X H z cont Ch Stop cu S0 K0 v0 Mo0 σ κ (.turn 1 (hdJ n) (11,[]))) (N:Now X z cont Ch S0 K0 v0 Mo0 (boxO pb) σ κ S v w t):
 GoesI Tryd.prog (X.h==0) (DT (ScZ z) Ch) Stop (G (ch73T ac (.bool false)) (oTry a :: f.stack)) w:=by
 obtain ⟨oc,ho1,ho2⟩:=G1 oO7_4;refine I9 (bc:=base 51) (ac:=a) (ops:=oO7) (q:=4) (rest:=[5]) (oc:=oc) (k0:=(.code oC7 :: .code o8 :: oE)) false hC _ ho1 N.at_.rel N.at_.noRow (λw2 r2=>?_);rw[ho2];exact pop_again hA _ (λa1 hA1=>po11 C hA1 hob (N.next r2))
theorem po_gave (C:PoC n X c s sb rb pb f cu H v0 Mo0) (r:Value) (hO:FOv c X.tb k y ao) (hob:Ob X H z cont Ch Stop cu S0 K0 v0 Mo0 σ κ (.ans 0 y)) (N:Now X z cont Ch S0 K0 v0 Mo0 (boxO pb) σ κ S v w t):
 GoesI Tryd.prog (X.h==0) (DT (ScZ z) Ch) Stop (G (oGave ao r) f.stack) w :=
 pop_done (bc:=f.bd) (ac:=f.ad) (ops:=f.od) (q:=f.qd) (rest:=f.rd) (oc:=f.oe) (k0:=f.kd) r hO f.fs C.ok N.at_.rel N.at_.noRow (λw2 r2=>t_ans C.back ((y,0):Int×Int) hob rfl (N.next r2))
theorem po_not (C:PoC n X c s sb rb pb f cu H v0 Mo0) (hA:FG s X.tb k a) (hO:FOv c X.tb k y ao) (hob:Ob X H z cont Ch Stop cu S0 K0 v0 Mo0 σ κ (.ans 0 y)) (N:Now X z cont Ch S0 K0 v0 Mo0 (boxO pb) σ κ S v w t):
 GoesI Tryd.prog (X.h==0) (DT (ScZ z) Ch) Stop (G (gUsed a (.bool false)) (oGive ao :: f.stack)) w:=by
 obtain ⟨oc,ho1,ho2⟩:=G1 oO9_6;refine give_not (bc:=base 51) (ac:=ao) (ops:=oO9) (q:=6) (rest:=[]) (oc:=oc) (k0:=(.code o10 :: oE)) hA _ ho1 N.at_.rel N.at_.noRow (λw2 r2=>?_);rw[ho2];exact po_gave C _ hO hob (N.next r2)
theorem po_done (C:PoC n X c s sb rb pb f cu H v0 Mo0) (hA:FG7 s X.tb k x a) (hO:FOv c X.tb k y ao) (hC:Fl 22 [] ac) (hob:Ob X H z cont Ch Stop cu S0 K0 v0 Mo0 σ κ (.ans 0 y)) (N:Now X z cont Ch S0 K0 v0 Mo0 (boxO pb) σ κ S v w t):
 GoesI Tryd.prog (X.h==0) (DT (ScZ z) Ch) Stop (G (ch46T ac (.bool true)) (gTry a :: oGive ao :: f.stack)) w:=by
 obtain ⟨oc,ho1,ho2⟩:=G1 gO7_5;refine Ja (bc:=base 26) (ac:=a) (ops:=gO7) (q:=5) (rest:=[6]) (oc:=oc) (k0:=(.code gC7 :: .code g8 :: gE)) true hC _ ho1 N.at_.rel N.at_.noRow (λw2 r2=>?_);rw[ho2];replace N:=N.next r2
 clear ho1 ho2 oc r2;obtain ⟨oc,ho1,ho2⟩:=G1 oO9_6;refine give_done (bc:=base 51) (ac:=ao) (ops:=oO9) (q:=6) (rest:=[]) (oc:=oc) (k0:=(.code o10 :: oE)) hA _ ho1 N.at_.rel N.at_.noRow (λw2 r2=>?_);rw[ho2];exact po_gave C _ hO hob (N.next r2)
theorem po_retry (C:PoC n X c s sb rb pb f cu H v0 Mo0) (hk:k<n) (hA:FG7 s X.tb k x a) (hO:FOv c X.tb k y ao) (hC:Fl 22 [] ac) (hob:Ob X H z cont Ch Stop cu S0 K0 v0 Mo0 σ κ (.turn 1 0 (16,[(k:Int),y]))) (N:Now X z cont Ch S0 K0 v0 Mo0 (boxO pb) σ κ S v w t):
 GoesI Tryd.prog (X.h==0) (DT (ScZ z) Ch) Stop (G (ch46T ac (.bool false)) (gTry a :: oGive ao :: f.stack)) w:=by
 obtain ⟨oc,ho1,ho2⟩:=G1 gO7_5;refine Ja (bc:=base 26) (ac:=a) (ops:=gO7) (q:=5) (rest:=[6]) (oc:=oc) (k0:=(.code gC7 :: .code g8 :: gE)) false hC _ ho1 N.at_.rel N.at_.noRow (λw2 r2=>?_);rw[ho2];exact give_again hA _ (λa1 hA1=>po16 C hk hA1 hO hob (N.next r2))
end
def pkgT (n:Nat):Pkg (mcT n) 52 where
 fn:=Tryd.f52
 code:=Tryd.f52.body.getD .skip
 hf:=Tryd.func52
 hname:=by kernel_rfl
 hcode:=rfl
 Mine X:=∃ c s sb rb,TMine n X c s sb rb
 Sit:=stSit n
 sitAt:=by
  rintro X op j q Mo cu g hm ⟨c,s,sb,rb,pb,f,op',j',q',cb,eff,cl,hx,hm,hok,rfl,hcb,hg,hs⟩;cases hx;rcases hs with ⟨_,hs⟩|⟨_,hs⟩
  exact λ_=>pu_at hs;exact λ_=>po_at hs
 start:=by
  rintro X ok ⟨c,s,sb,rb,hm⟩ hfid c' hc cs bc ac ops q rest oc k hoc H z cont Ch Stop S K v w t A hH hob;rw[hm.caps];show GoesI Tryd.prog (X.h==0) (DT (ScZ z) Ch) Stop (G ((base 52).at { tmps:=#[Pt c 0,Pt X.tb 0,.agg #[I c'.po,I c'.ca,I c'.cb,I c'.cc]]++Array.replicate 28 undef,defers:=[] } [.code (Tryd.f52.body.getD .skip)]) (bc.at ac (.inRegion ops (q :: rest) :: k) :: cs)) w;by_cases h1:c'.po=1
  .have es:(mcT n).start X.i c'=.turn 1 0 (1,[c'.ca]):=by simp[mcT,h1]
   rw[es] at hob;rw[h1];refine call_push c'.ca c'.cb c'.cc cs hoc A.rel A.noRow (λv' w' bd ad od qd rd oe kd r n1 g hbox hoe hB code hcode=>?_) _ rfl;have N:=now_box A r n1 g hbox;have C:PuC n X c s sb rb (v.heap.size+1) ⟨bd,ad,od,qd,rd,oe,kd,bc.at ac (.inRegion ops (q :: rest) :: k) :: cs⟩ _ H v (λ_=>none):=⟨hm,hoe,hB,hH⟩
   exact push_in (hm.mem v' N.at_.pk).1.slots _ r (λap code hcode hP=>take_in _ (λa hA=>pu1 C hA hP hob N) code hcode) code hcode
  .by_cases h2:c'.po=2
   .have es:(mcT n).start X.i c'=.turn 1 (hdJ n) (11,[]):=by simp[mcT,h2]
    rw[es] at hob;rw[h2];refine call_pop c'.ca c'.cb c'.cc cs hoc A.rel A.noRow (λv' w' bd ad od qd rd oe kd r n1 g hbox hoe hB code hcode=>?_) _ rfl;have N:=now_box A r n1 g hbox;have C:PoC n X c s sb rb (v.heap.size+1) ⟨bd,ad,od,qd,rd,oe,kd,bc.at ac (.inRegion ops (q :: rest) :: k) :: cs⟩ _ H v (λ_=>none):=⟨hm,hoe,hB,hH⟩
    exact pop_in _ (λa hA=>po11 C hA hob N) code hcode
   .have es:(mcT n).start X.i c'=.ans 1 0:=by simp[mcT,h1,h2]
    rw[es] at hob;exact call_none c'.ca c'.cb c'.cc cs hoc A.rel A.noRow c'.po h1 h2 (λv' w' r n1 g _=>hob.ans (1,0) rfl v' w' S r n1 rfl (Evo.toP (A.mem.grows g))) _ rfl
 turn:=by
  rintro X ok - hfid op j q Mo cu g ⟨c,s,sb,rb,pb,f,op',j',q',cb,eff,cl,hx,hm,hok,rfl,hcb,hg,hs⟩ H z cont Ch Stop y S K v w t A hH hop hce hl hMo hMf hMp hob;cases hx;have hsn:=(hm.mem v A.pk).1.n1;have hKj:=(Now.here A hMo hMf (boxO_row pb)).cell hcb;have hokx:okT n j (cellAt K j).2:=A.kb.2 j (cb,_) hKj.1 hsn;have hob:Ob X H z cont Ch Stop cu S K v (boxO pb) (didS (Gen.nv S) undef X.i t (Ak n q (cellAt K j).2).1.1 (Ak n q (cellAt K j).2).1.2) (K.set j ((cellAt K j).1,(Ak n q (cellAt K j).2).2.1)) ((mcT n).set S.stk (Ak n q (cellAt K j).2).2.2):=hob;rcases hs with ⟨hB,hs⟩|⟨hB,hs⟩
  .have C:PuC n X c s sb rb pb f cu H v (boxO pb):=⟨hm,hok,hB,hH⟩
   refine t_served (pu_at hs) (pu_eff hs) A hMo hMf hcb hg hop hce hl (λS1 v1 w1 t1 N=>?_);clear hg hH hMo hMf hMp hop hce hl A hKj;cases hs with
   |s1 hA hP =>
    by_cases h0:fstI (cellAt K 0).2=0
    .rw[m1a h0] at hob
     exact pu_full C h0 hA hP hob N
    .obtain ⟨k,e1,e2⟩:=fst_some (hokx.1 (.inl rfl)) h0
     rw[m1b e1] at hob;exact pu2 C e1 e2 hA hP hob N
   |s2 hx hk hA hP =>have hr:=hokx.2 (by unfold nxJ hdJ;omega);exact pu3 C hx hk hr.1 hr.2 hA hP hob N
   |@s3 v' x' y' k' a' ap' ac' hx hk h0 h1 hA hP hC =>
    by_cases he:(cellAt K 0).2=x'
    .rw[he] at hob N ⊢
     rw[m3a hx] at hob;rw[Hy];exact pu_won C hk hA hP hC hob N
    .rw[m3b he] at hob
     rw[cas_no _ he];exact pu_lost C hA hP hC hob N
   |s4 hk hA hP=>exact pu_took C _ hk hA hP hob N
   |s5 hk hP=>exact push_head _ hP _ (λa1 hA1=>pu6 C hk hA1 hob N)
   |s6 hk hP=>exact pu7 C hk (hokx.1 (.inr rfl)) hP hob N
   |s7 hk hx hP=>exact pu8 C hk hP _ hob N
   |@s8 v' x' k' ap' ac' hk hP hC =>
    by_cases he:(cellAt K (hdJ n)).2=x'
    .rw[he] at hob N ⊢
     rw[m8a] at hob;rw[Hy];exact pu_done C hP hC hob N
    .rw[m8b he] at hob
     rw[cas_no _ he];exact pu_retry C hk hP hC hob N
  .have C:PoC n X c s sb rb pb f cu H v (boxO pb):=⟨hm,hok,hB,hH⟩
   refine t_served (po_at hs) (po_eff hs) A hMo hMf hcb hg hop hce hl (λS1 v1 w1 t1 N=>?_);clear hg hH hMo hMf hMp hop hce hl A hKj;cases hs with
   |s11 hA =>
    by_cases h0:fstI (cellAt K (hdJ n)).2=0
    .rw[m11a h0] at hob
     exact po_empty C h0 hA hob N
    .obtain ⟨k,e1,e2⟩:=fst_some (hokx.1 (.inr rfl)) h0
     rw[m11b e1] at hob;exact po12 C e1 e2 hA hob N
   |s12 hx hk hA =>have hr:=hokx.2 (by unfold lkJ hdJ;omega);exact po13 C hx hk hr.1 hr.2 hA hob N
   |@s13 x' y' k' a' ac' hx hk h0 h1 hA hC =>
    by_cases he:(cellAt K (hdJ n)).2=x'
    .rw[he] at hob N ⊢
     rw[m13a hx] at hob;rw[Hy];exact po_won C hk hA hC hob N
    .rw[m13b he] at hob
     rw[cas_no _ he];exact po_lost C hA hC hob N
   |s14 hk hA=>exact po15 C hk hA hob N
   |@s15 y' k' a' ao' hk hA hO =>
    by_cases he:(cellAt K (usJ k')).2=1
    .rw[he] at hob N ⊢
     rw[m15a] at hob;rw[Hy];exact give_goes hA _ (λa1 hA1=>po16 C hk hA1 hO hob N)
    .rw[m15b he] at hob
     rw[cas_no _ he];exact po_not C hA hO hob N
   |s16 hk hA hO=>exact po17 C hk (hokx.1 (.inl rfl)) hA hO hob N
   |s17 hk hx hA hO=>exact po18 C hk hA hO _ hob N
   |@s18 x' y' k' a' ao' ac' hk hA hO hC =>
    by_cases he:(cellAt K 0).2=x'
    .rw[he] at hob N ⊢
     rw[m18a] at hob;rw[Hy];exact po_done C hA hO hC hob N
    .rw[m18b he] at hob
     rw[cas_no _ he];exact po_retry C hk hA hO hC hob N
 wake:=by rintro X ok - hfid j q Mo cu g ⟨c,s,sb,rb,pb,f,op',j',q',cb,eff,cl,hx,_⟩;cases hx
section
variable {v u u':World}{S S1:TS}{K:List (Nat×Int)}{xs:List Int}{pk:Nat->Option Obj}
theorem Objs.set (h:Objs v S xs pk S1 K u) {b:Nat}{o o':Obj}(hb:pk b=some o) (hvb:v.heap.size<=b) (hw:∀ x,x≠b->u'.heap[x]? = u.heap[x]?) (hn:u'.heap[b]? = some o') (hs:u'.heap.size=u.heap.size) (e1:u'.os=u.os) (e2:u'.output=u.output) (hr:∃ c e f,o'=.cells c e f):Objs v S xs (padd pk b o') S1 K u':=by
 have ho:=(h.new b (by rw[hb];simp)).2;have em:=h.cel.mem.other (v':=u') ho hw hs e1 e2;refine ⟨⟨em.mem,⟨e1.trans h.cel.fr.os,e2.trans h.cel.fr.output,by rw[hs];exact h.cel.fr.size,λx hx hn=>by rw[hw x (by omega)];exact h.cel.fr.block x hx hn⟩,h.cel.own⟩,h.vals,h.st,λx y hx=>?_,λx hx=>?_,λx y hx=>?_⟩
 .by_cases e:x=b
  subst e;rw[B7] at hx;cases hx;exact hn;rw[Av e] at hx;rw[hw x e];exact h.has x y hx
 .by_cases e:x=b
  subst e;exact h.new x (by rw[hb];simp);rw[Av e] at hx;exact h.new x hx
 .by_cases e:x=b
  subst e;rw[B7] at hx;cases hx;exact hr;rw[Av e] at hx;exact h.row x y hx
theorem Objs.grows (h:Objs v S xs pk S1 K u) (g:Grows u u'):Objs v S xs pk S1 K u' :=
 h.more (h.cel.mem.grows g |> λe=>⟨e.mem,⟨g.os,g.output,g.size,λb hb _=>g.old b hb⟩,λb hb=>.inl hb⟩) h.vals h.st
theorem Objs.lt (h:Objs v S xs pk S1 K u) {b:Nat}{o:Obj}(hb:pk b=some o):b<u.heap.size:=(Qb (h.has b o hb)).1
end
def bh (i n:Nat):Int:=if i=n then 0 else (i:Int)+1
theorem behind_any (i n:Nat) (hi:i<1000) (hn:n<=1000) (w:World):Calls Tryd.prog 43 #[I i,I n] w λe w'=>e=.returned (I (bh (i+1) n))∧w'=w:=by
 go_enter Tryd.func43,Tryd.ntmps43
 by_cases h:i+1=n
 .have h1:((i:Int)+1==(n:Int))=true:=by simp;omega
  have h3:(i:Int)+1=(n:Int):=by omega
  have h2:IntKind.i64.wrap ((i:Int)+1)=(n:Int):=by rw[IntKind.wrap_i64];omega
  have e:bh (i+1) n=0:=by unfold bh;rw[if_pos h]
  rw[e];go_wp2_with fail;go_ret;exact ⟨rfl,rfl⟩
 .have h1:((i:Int)+1==(n:Int))=false:=by simp;omega
  have h3:¬ ((i:Int)+1=(n:Int)):=by omega
  have h2:IntKind.i64.wrap ((i:Int)+1)=(i:Int)+1:=by rw[IntKind.wrap_i64];omega
  have h4:IntKind.i64.wrap ((i:Int)+2)=(i:Int)+2:=by rw[IntKind.wrap_i64];omega
  have e:bh (i+1) n=(i:Int)+2:=by unfold bh;rw[if_neg h];omega
  rw[e];go_wp2_with fail;go_ret;exact ⟨rfl,rfl⟩
theorem behind0_any (n:Nat) (hn:n<=1000) (w:World):Calls Tryd.prog 43 #[I (-1),I n] w λe w'=>e=.returned (I (bh 0 n))∧w'=w:=by
 go_enter Tryd.func43,Tryd.ntmps43
 by_cases h:0=n
 .subst h
  go_wp2_with fail;go_ret;exact ⟨rfl,rfl⟩
 .have h1:((0:Int)==(n:Int))=false:=by simp;omega
  have h3:¬ ((0:Int)=(n:Int)):=by omega
  have e:bh 0 n=1:=by unfold bh;rw[if_neg h];rfl
  rw[e];go_wp2_with fail;go_ret;exact ⟨rfl,rfl⟩
theorem info94:(Tryd.prog.info? 94).map (λi=>(i.zero,i.size,i.bytes))=some (some (.agg #[.pointer none,.pointer none]),2,16):=by kernel_rfl
theorem make_slots (n:Nat) (hn:n<=1048576) (w:World):
 (Instr.makeSlice 88 (.int .i64 (n:Int)) (.int .i64 (n:Int))).run Tryd.prog w=.ok (.slice (some ⟨w.heap.size,0,none⟩) n n) (w.alloc (.cells (madeCells #[.pointer none,.pointer none] (n*2)) 94)):=by
 cases hq:Tryd.prog.info? 94 with
 |none=>have:=info94;rw[hq] at this;cases this
 |some i =>have hi:=info94;rw[hq] at hi;simp only[Option.map_some,Option.some.injEq,Prod.mk.injEq] at hi;obtain ⟨hz,hs,hb⟩:=hi;have:=run_make (P:=Tryd.prog) w 88 94 i _ Tryd.underlying88 hq hz .i64 .i64 (n:Int) (n:Int) (by omega) (by omega) (by rw[hb];omega) (by omega);rw[hs] at this;rw[this];simp[Value.cells]
theorem info134:(Tryd.prog.info? 134).map (λi=>(i.zero,i.size,i.bytes))=some (some (.agg #[.pointer none,.pointer none]),2,16):=by kernel_rfl
theorem make_places (n:Nat) (hn:n<=1048576) (w:World):
 (Instr.makeSlice 130 (.int .i64 (n:Int)) (.int .i64 (n:Int))).run Tryd.prog w=.ok (.slice (some ⟨w.heap.size,0,none⟩) n n) (w.alloc (.cells (madeCells #[.pointer none,.pointer none] (n*2)) 134)):=by
 cases hq:Tryd.prog.info? 134 with
 |none=>have:=info134;rw[hq] at this;cases this
 |some i =>have hi:=info134;rw[hq] at hi;simp only[Option.map_some,Option.some.injEq,Prod.mk.injEq] at hi;obtain ⟨hz,hs,hb⟩:=hi;have:=run_make (P:=Tryd.prog) w 130 134 i _ Tryd.underlying130 hq hz .i64 .i64 (n:Int) (n:Int) (by omega) (by omega) (by rw[hb];omega) (by omega);rw[hs] at this;rw[this];simp[Value.cells]
def rowC (m off:Nat) (K:List (Nat×Int)):List Value:=(List.range m).map λj=>match K[off+j]? with|some c=>Pt c.1 0|none=>.pointer none
def objC (n off:Nat) (ty:TypeId) (K:List (Nat×Int)):Obj:=.cells (rowC (2*n) off K).toArray ty (0,0)
theorem made_rowC (n off:Nat) (ty:TypeId) (K:List (Nat×Int)) (hK:K.length<=off):(.cells (madeCells #[.pointer none,.pointer none] (n*2)) ty:Obj)=objC n off ty K:=by
 unfold objC rowC
 congr 1
 apply Array.ext_getElem?;intro i;by_cases h:i<2*n
 .have h1:K[off+i]? = none:=List.getElem?_eq_none (by omega)
  have h3:i<n*2:=by omega
  rcases Nat.mod_two_eq_zero_or_one i with h2|h2;simp[madeCells,h,h1,h2,h3];simp[madeCells,h,h1,h2,h3]
 .have h3:¬ i<n*2:=by omega
  simp[madeCells,h,h3]
theorem rowC_next {m:Nat}(c:Nat×Int) (hK:K.length=off+j) (hj:j<m):(rowC m off K).toArray.setIfInBounds j (Pt c.1 0)=(rowC m off (K++[c])).toArray:=by
 apply Array.ext_getElem?;intro i;unfold rowC;rw[Array.getElem?_setIfInBounds];by_cases h:j=i
 .subst h
  have e2:(K++[c])[off+j]? = some c:=by rw[<-hK];simp
  simp[hj,e2]
 .rw[if_neg h]
  by_cases hi:i<m
  .by_cases hlt:i<j
   .have e2:(K++[c])[off+i]? = K[off+i]?:=Qn (by omega)
    simp[hi,e2]
   .have h1:K[off+i]? = none:=List.getElem?_eq_none (by omega)
    have h2:(K++[c])[off+i]? = none:=List.getElem?_eq_none (by simp;omega);simp[hi,h1,h2]
  simp[hi]
theorem Ju (h:w.heap[N]? = some (objC n off ty K)) (hK:K.length=off+j) (hj:j<2*n):w.cell? ⟨N,j,none⟩=some (.pointer none)∧w.frozen? ⟨N,j,none⟩=false:=by
 constructor
 .refine cell_of h ?_
  unfold rowC;have:K[off+j]? = none:=List.getElem?_eq_none (by omega);simp[hj,this]
 .simp only[World.frozen?,h,objC]
  simp
theorem Ia (h:w.heap[N]? = some (objC n off ty K)) (hj:j<2*n) {c:Nat×Int}(hc:K[off+j]? = some c):w.cell? ⟨N,j,none⟩=some (Pt c.1 0):=by refine cell_of h ?_;unfold rowC;simp[hj,hc]
theorem K6 (c:Nat×Int) (hK:off+2*n<=K.length):objC n off ty (K++[c])=objC n off ty K:=by
 unfold objC rowC
 congr 2
 refine List.map_congr_left λj hj=>?_;have:=List.mem_range.1 hj;rw[Qn (by omega)]
theorem Gq (c:Nat×Int) (h:w.heap[N]? = some (objC n off ty K)) (hK:K.length=off+j) (hj:j<2*n):(w.setCell ⟨N,j,none⟩ (Pt c.1 0)).heap[N]? = some (objC n off ty (K++[c])):=by have:=heap_setCell_same (o:=j) (show w.heap[N]? = some (.cells (rowC (2*n) off K).toArray ty (0,0)) from h) (Pt c.1 0);rw[rowC_next c hK hj] at this;exact this
theorem objC_none (hK:K.length<=off):objC n off ty K=objC n off ty []:=by
 unfold objC rowC
 congr 2
 refine List.map_congr_left λj hj=>?_;rw[List.getElem?_eq_none (by omega),List.getElem?_nil]
def nxs (n:Nat):Nat->List Int
 |0=>[hdI (bh 0 n) 0]
 |k+1=>nxs n k++[bh (k+1) n]++[0]
theorem Fb (n:Nat):∀ k,(nxs n k).length=1+2*k
 |0=>rfl
 |k+1=>by unfold nxs;rw[Qj,Qj,Fb n k];simp;omega
def sts (n:Nat):Nat->List Int
 |0=>nxs n n++[0]
 |k+1=>sts n k++[0]++[0]
theorem G0 (n:Nat):∀ k,(sts n k).length=2*n+2+2*k
 |0=>by unfold sts;rw[Qj,Fb];simp;omega
 |k+1=>by unfold sts;rw[Qj,Qj,G0 n k];simp;omega
structure SlN (pk pk':Nat->Option Obj) (n s sb:Nat) (K:List (Nat×Int)):Prop where
 old:∀ b o,pk b=some o->pk' b=some o
 box:∃ c0,K[0]? = some c0∧pk' s=some (.cells #[Pt c0.1 0,.slice (some ⟨sb,0,none⟩) n n] 91 (0,0))
 row:pk' sb=some (objC n 1 94 K)
theorem slotsNew {v u:World}{S S1:TS}{pk:Nat->Option Obj}(hO:Objs v S [] pk S1 [] u) (hF:R1.Flds u) (n:Nat) (hn:n<=1000):Body Tryd.f24 #[Pt S.wb 0,I n] u (λr u'=>r=Pt (u.heap.size+1) 0∧∃ S2 K pk',Objs v S (nxs n n) pk' S2 K u'∧SlN pk pk' n (u.heap.size+1) u.heap.size K):=by
 intro code hb;obtain rfl:=Qd hb;clear hb;have hmk:=make_slots n (by omega);rw[made_rowC n 1 94 [] (by simp)] at hmk;have hmx:(Builtin.max_ #[3,3] 3 #[I n,I 0])=pure (I n):=by show (pure (Value.int .i64 (if (0:Int) > n then 0 else n)):Sem Value)=_;rw[if_neg (by omega)]
 have hmn:(Builtin.min_ #[3,3] 3 #[I n,I 1000])=pure (I n):=by show (pure (Value.int .i64 (if (1000:Int)<n then 1000 else n)):Sem Value)=_;rw[if_neg (by omega)]
 have huv:v.heap.size<=u.heap.size:=hO.cel.fr.size;have HUV:Hid (v.heap.size<=u.heap.size):=⟨huv⟩
 have HN:Hid (n<=1000):=⟨hn⟩
 have HF:Hid (R1.Flds u):=⟨hF⟩
 have o1:=hO.push (u':=u.alloc (objC n 1 94 [])) (c:=(rowC (2*n) 1 []).toArray) (t:=94) rfl rfl rfl;have o2:=o1.push (u':=(u.alloc (objC n 1 94 [])).alloc (.cells #[.pointer none,.slice (some ⟨u.heap.size,0,none⟩) n n] 91)) (c:=#[.pointer none,.slice (some ⟨u.heap.size,0,none⟩) n n]) (t:=91) rfl rfl rfl;have hsz:(u.alloc (objC n 1 94 [])).heap.size=u.heap.size+1:=by simp
 rw[hsz] at o2;have HO:Hid _:=⟨o2⟩
 have HP:Hid (∀ b o,pk b=some o->b<u.heap.size):=⟨λb o hb=>hO.lt hb⟩
 clear hO o1 o2 hF huv hn;simp only[Tryd.ntmps24,Sz,Nat.reduceAdd,Nat.reduceSub,Sy]
 go_wp2_with (first
  |(go_at_call 43;refine (behind0_any n HN.out _).mono ?_;rintro e w1 ⟨rfl,rfl⟩))
 refine ((R1.shead_any (bh 0 n) 0 _ (HF.out.below (((Below.refl _ _).alloc (Qi _) _).alloc (by simp) _))).calls Tryd.func42 rfl).mono ?_;rintro e u3 ⟨r,rfl,rfl,hb3⟩;have HO3:Hid _:=⟨HO.out.grows (Dv hb3)⟩
 clear hb3 HF HO hmk hmx hmn;have hlt0:=HP.out;generalize hNN:u.heap.size=N at *
 go_wp2_with (first
  |(go_at_call 41;refine (HO3.out.cell (hdI (bh 0 n) 0) (by simp)).mono ?_;rintro e w4 ⟨c0,rfl,hs4,S2,o4⟩
    have HO4:Hid _:=⟨o4⟩
    have hB:=o4.has (N+1) _ (B7 _ _ _);have c5:w4.cell? ⟨N+1,0,none⟩=some (.pointer none):=cell_of hB rfl;have c6:w4.frozen? ⟨N+1,0,none⟩=false:=by simp[World.frozen?,hB]
    have c7:w4.cell? ⟨N+1,1,none⟩=some (.slice (some ⟨N,0,none⟩) n n):=cell_of hB rfl;have HB:Hid (w4.heap[N+1]? = _):=⟨hB⟩
    clear o4 hB HO3))
 go_loopw [27] (λi u'=>∃ (k:Nat) (K:List (Nat×Int)) (S1':TS) (pk':Nat->Option Obj),k<=n∧i=.int .i64 k∧K.length=1+2*k∧Objs v S (nxs n k) pk' S1' K u'∧SlN pk pk' n (N+1) N K) (λi _=>n - (intOf i).toNat)
 case atStart =>
  refine ⟨0,[(c0,hdI (bh 0 n) 0)],S2,_,Nat.zero_le _,rfl,rfl,HO4.out.set (b:=N+1) (o':=.cells #[Pt c0 0,.slice (some ⟨N,0,none⟩) n n] 91 (0,0)) (B7 _ _ _) (by have:=HUV.out;omega) (λx hx=>Below.heap_setCell _ _ _ _ hx) ?_ (by simp[World.setCell]) rfl rfl ⟨_,_,_,rfl⟩,?_⟩
  .have:=heap_setCell_same (o:=0) HB.out (Pt c0 0)
   simpa using this
  .refine ⟨λb o hb=>?_,⟨_,rfl,B7 _ _ _⟩,?_⟩
   .have:=hlt0 b o hb
    rw[Av (by omega),Av (by omega),Av (by omega)];exact hb
   .rw[Av (by omega),Av (by omega),B7]
    rw[objC_none (K:=[(c0,hdI (bh 0 n) 0)]) (by simp)];rfl
 case round =>
  obtain ⟨k,K,S1',pk',hk,rfl,hK,hO,hS⟩:=hrel;have HOB:Hid (Objs v S (nxs n k) pk' S1' K wr):=⟨hO⟩
  have HS:Hid (SlN pk pk' n (N+1) N K):=⟨hS⟩
  obtain ⟨cc,hcc,hbox⟩:=hS.box;have hB:=hO.has (N+1) _ hbox;have c1:wr.cell? ⟨N+1,1,none⟩=some (.slice (some ⟨N,0,none⟩) n n):=cell_of hB rfl;clear HO4 HB c5 c6 c7 hO hS hB;have HBX:Hid (pk' (N+1)=_):=⟨hbox⟩
  clear hbox;by_cases hlt:k<n
  .have hks:(k:Int)<(n:Int):=by omega
   go_wp2_with fail
   go_region_held3 (λu=>u.cell? ⟨N+1,1,none⟩=some (.slice (some ⟨N,0,none⟩) n n))
    (first|assumption|(simp[go_sem, *];done))
    (first
      |(go_at_call 43;refine (behind_any k n (by have:=HN.out;omega) HN.out _).mono ?_;rintro e w1 ⟨rfl,rfl⟩)
      |(go_at_call 41;refine ((HOB.out.same (u':=wr.drew) rfl rfl rfl).cell (bh (k+1) n) (by rw[Fb];have:=HN.out;omega)).mono ?_;rintro e w1 ⟨cb,rfl,hs1,S2,o2⟩
        have HO2:Hid (Objs v S (nxs n k++[bh (k+1) n]) pk' S2 (K++[(cb,bh (k+1) n)]) w1):=⟨o2⟩
        have hN:=o2.has N _ HS.out.row;have c2:w1.cell? ⟨N+1,1,none⟩=some (.slice (some ⟨N,0,none⟩) n n):=cell_of (o2.has (N+1) _ HBX.out) rfl;obtain ⟨c3,c4⟩:=Ju (j:=k*2) hN (by omega) (by omega);have HN1:Hid (w1.heap[N]? = some (objC n 1 94 K)):=⟨hN⟩
        clear o2 hN))
   have O3:=HO2.out.set (b:=N) (o':=objC n 1 94 (K++[(cb,bh (k+1) n)])) (u':=w1.setCell ⟨N,k*2,none⟩ (.pointer (some ⟨cb,0,none⟩))) HS.out.row HUV.out (λx hx=>Below.heap_setCell _ _ _ _ hx) (Gq (j:=k*2) (cb,bh (k+1) n) HN1.out (by omega) (by omega)) (by simp[World.setCell]) rfl rfl ⟨_,_,_,rfl⟩;have HO3:Hid _:=⟨O3⟩
   clear O3 HO2 HN1 c2 c3 c4 hs1;generalize hW:w1.setCell ⟨N,k*2,none⟩ (.pointer (some ⟨cb,0,none⟩))=W at *;have hLK:(K++[(cb,bh (k+1) n)]).length=1+(k*2+1):=by rw[Qj,hK];simp;omega
   go_wp2_with fail
   go_region_held3 (λu=>u.cell? ⟨N+1,1,none⟩=some (.slice (some ⟨N,0,none⟩) n n))
    (first|assumption|(simp[go_sem, *];done))
    (first
      |(go_at_call 41;refine ((HO3.out.same (u':=W.drew) rfl rfl rfl).cell 0 (by rw[Qj,Fb];have:=HN.out;simp;omega)).mono ?_;rintro e w2 ⟨cb2,rfl,hs2,S3,o2⟩
        have HO5:Hid _:=⟨o2⟩
        have hN:=o2.has N _ (B7 _ _ _);have c2:w2.cell? ⟨N+1,1,none⟩=some (.slice (some ⟨N,0,none⟩) n n):=cell_of (o2.has (N+1) _ (by rw[Av (by omega)];exact HBX.out)) rfl;obtain ⟨c3,c4⟩:=Ju (j:=k*2+1) hN hLK (by omega);have HN2:Hid (w2.heap[N]? = some (objC n 1 94 (K++[(cb,bh (k+1) n)]))):=⟨hN⟩
        clear o2 hN))
   have hn3:=HN.out;go_wp2_with fail
   go_roundw
   case rel =>
    have O6:=HO5.out.set (b:=N) (o':=objC n 1 94 (K++[(cb,bh (k+1) n)]++[(cb2,0)])) (u':=w2.setCell ⟨N,k*2+1,none⟩ (.pointer (some ⟨cb2,0,none⟩))) (B7 _ _ _) HUV.out (λx hx=>Below.heap_setCell _ _ _ _ hx) (Gq (j:=k*2+1) (cb2,0) HN2.out hLK (by omega)) (by simp[World.setCell]) rfl rfl ⟨_,_,_,rfl⟩;refine ⟨k+1,K++[(cb,bh (k+1) n)]++[(cb2,0)],S3,_,by omega,by go_num,by rw[Qj,hLK];simp;omega,O6,λb o hb=>?_,?_,B7 _ _ _⟩
    .have:=hlt0 b o hb
     rw[Av (by omega),Av (by omega)];exact HS.out.old b o hb
    .refine ⟨cc,?_,?_⟩
     rw[List.append_assoc,Qn (by omega)];exact hcc;rw[Av (by omega),Av (by omega)];exact HBX.out
   case measure=>simp[intOf];omega
  .have:k=n:=by omega
   subst this;go_wp2_with fail;go_ret;subst hNN;exact ⟨_,rfl,rfl,S1',K,pk',HOB.out,HS.out⟩
structure StkN (pk pk':Nat->Option Obj) (n c s sb rb:Nat) (K:List (Nat×Int)):Prop where
 old:∀ b o,pk b=some o->pk' b=some o
 sbox:∃ c0,K[0]? = some c0∧pk' s=some (.cells #[Pt c0.1 0,.slice (some ⟨sb,0,none⟩) n n] 91 (0,0))
 srow:pk' sb=some (objC n 1 94 K)
 box:∃ c0,K[2*n+1]? = some c0∧pk' c=some (.cells #[Pt s 0,Pt c0.1 0,.slice (some ⟨rb,0,none⟩) n n] 132 (0,0))
 row:pk' rb=some (objC n (2*n+2) 134 K)
theorem stackNew {v:World}{S:TS}{pk:Nat->Option Obj}(hO:Objs v S [] pk S [] v) (hF:R1.Flds v) (n:Nat) (hn:n<=1000):Body Tryd.f49 #[Pt S.wb 0,I n] v (λr u'=>r=Pt (v.heap.size+1) 0∧∃ S2 K pk',Objs v S (sts n n) pk' S2 K u'∧StkN pk pk' n (v.heap.size+1) (v.heap.size+3) (v.heap.size+2) v.heap.size K):=by
 intro code hb;obtain rfl:=Qd hb;clear hb;have hmk:=make_places n (by omega);rw[made_rowC n (2*n+2) 134 [] (by simp)] at hmk;have hmx:(Builtin.max_ #[3,3] 3 #[I n,I 0])=pure (I n):=by show (pure (Value.int .i64 (if (0:Int) > n then 0 else n)):Sem Value)=_;rw[if_neg (by omega)]
 have hmn:(Builtin.min_ #[3,3] 3 #[I n,I 1000])=pure (I n):=by show (pure (Value.int .i64 (if (1000:Int)<n then 1000 else n)):Sem Value)=_;rw[if_neg (by omega)]
 have HN:Hid (n<=1000):=⟨hn⟩
 have o1:=hO.push (u':=v.alloc (objC n (2*n+2) 134 [])) (c:=(rowC (2*n) (2*n+2) []).toArray) (t:=134) rfl rfl rfl;have o2:=o1.push (u':=(v.alloc (objC n (2*n+2) 134 [])).alloc (.cells #[.pointer none,.pointer none,.slice (some ⟨v.heap.size,0,none⟩) n n] 132)) (c:=#[.pointer none,.pointer none,.slice (some ⟨v.heap.size,0,none⟩) n n]) (t:=132) rfl rfl rfl;have hsz:(v.alloc (objC n (2*n+2) 134 [])).heap.size=v.heap.size+1:=by simp
 rw[hsz] at o2;have h24:=(slotsNew o2 (hF.below (((Below.refl _ _).alloc (Qi _) _).alloc (by simp) _)) n hn).calls Tryd.func24 rfl;rw[show ((v.alloc (objC n (2*n+2) 134 [])).alloc (.cells #[.pointer none,.pointer none,.slice (some ⟨v.heap.size,0,none⟩) n n] 132)).heap.size=v.heap.size+2 by simp] at h24;have H24:Hid _:=⟨h24⟩
 have HP:Hid (∀ b o,pk b=some o->b<v.heap.size):=⟨λb o hb=>hO.lt hb⟩
 clear hO o1 o2 hF hn h24;simp only[Tryd.ntmps49,Sz,Nat.reduceAdd,Nat.reduceSub,Sy];go_wp2_with fail;refine H24.out.mono ?_;rintro e u3 ⟨r,rfl,rfl,S3,K3,pk3,o3,hs3⟩;clear H24 hmk hmx hmn;have hlt0:=HP.out;have hNv:v.heap.size<=v.heap.size:=Qi _;generalize hNN:v.heap.size=N at *;have hbx:=hs3.old (N+1) _ (B7 _ _ _);have hrw:=hs3.old N _ (by rw[Av (by omega),B7]);have hK3:K3.length=1+2*n:=by have:=congrArg List.length o3.vals;rw[List.length_map,Fb] at this;exact this
 have hB:=o3.has (N+1) _ hbx;have c0:u3.cell? ⟨N+1,0,none⟩=some (.pointer none):=cell_of hB rfl;have c1:u3.frozen? ⟨N+1,0,none⟩=false:=by simp[World.frozen?,hB]
 have O4:=o3.set (b:=N+1) (o':=.cells #[Pt (N+3) 0,.pointer none,.slice (some ⟨N,0,none⟩) n n] 132 (0,0)) (u':=u3.setCell ⟨N+1,0,none⟩ (Pt (N+3) 0)) hbx (by omega) (λx hx=>Below.heap_setCell _ _ _ _ hx) (by have:=heap_setCell_same (o:=0) hB (Pt (N+3) 0);simpa using this) (by simp[World.setCell]) rfl rfl ⟨_,_,_,rfl⟩;have HO4:Hid _:=⟨O4⟩
 have HS3:Hid _:=⟨hs3⟩
 have HRW:Hid _:=⟨hrw⟩
 clear O4 o3 hs3 hbx hB hrw
 go_wp2_with (first
  |(go_at_call 41;refine (HO4.out.cell 0 (by rw[Fb];have:=HN.out;omega)).mono ?_;rintro e w4 ⟨hc,rfl,hs4,S4,o4⟩
    have HO5:Hid _:=⟨o4⟩
    have hB:=o4.has (N+1) _ (B7 _ _ _);have c5:w4.cell? ⟨N+1,1,none⟩=some (.pointer none):=cell_of hB rfl;have c6:w4.frozen? ⟨N+1,1,none⟩=false:=by simp[World.frozen?,hB]
    have c7:w4.cell? ⟨N+1,2,none⟩=some (.slice (some ⟨N,0,none⟩) n n):=cell_of hB rfl;have HB:Hid (w4.heap[N+1]? = _):=⟨hB⟩
    clear o4 hB HO4 c0 c1))
 go_loopw [30] (λi u'=>∃ (k:Nat) (K:List (Nat×Int)) (S1':TS) (pk':Nat->Option Obj),k<=n∧i=.int .i64 k∧K.length=2*n+2+2*k∧Objs v S (sts n k) pk' S1' K u'∧StkN pk pk' n (N+1) (N+3) (N+2) N K) (λi _=>n - (intOf i).toNat)
 case atStart =>
  have hold:=HS3.out.old;obtain ⟨cz,hcz,hbz⟩:=HS3.out.box;refine ⟨0,K3++[(hc,0)],S4,_,Nat.zero_le _,rfl,by rw[Qj,hK3];simp;omega,HO5.out.set (b:=N+1) (o':=.cells #[Pt (N+3) 0,Pt hc 0,.slice (some ⟨N,0,none⟩) n n] 132 (0,0)) (B7 _ _ _) (by omega) (λx hx=>Below.heap_setCell _ _ _ _ hx) ?_ (by simp[World.setCell]) rfl rfl ⟨_,_,_,rfl⟩,?_⟩
  .have:=heap_setCell_same (o:=1) HB.out (Pt hc 0)
   simpa using this
  .refine ⟨λb o hb=>?_,⟨cz,?_,?_⟩,?_,⟨(hc,0),?_,B7 _ _ _⟩,?_⟩
   .have:=hlt0 b o hb
    rw[Av (by omega),Av (by omega)];refine hold b o ?_;rw[Av (by omega),Av (by omega)];exact hb
   rw[Qn (by omega)];exact hcz;rw[Av (by omega),Av (by omega)];exact hbz;rw[Av (by omega),Av (by omega),K6 _ (by omega)];exact HS3.out.row;rw[show 2*n+1=K3.length by omega];simp;rw[Av (by omega),Av (by omega),objC_none (by rw[Qj,hK3];simp;omega)];exact HRW.out
 case round =>
  obtain ⟨k,K,S1',pk',hk,rfl,hK,hO,hS⟩:=hrel;have HOB:Hid (Objs v S (sts n k) pk' S1' K wr):=⟨hO⟩
  have HS:Hid (StkN pk pk' n (N+1) (N+3) (N+2) N K):=⟨hS⟩
  obtain ⟨cc,hcc,hbox⟩:=hS.box;have hB:=hO.has (N+1) _ hbox;have c1:wr.cell? ⟨N+1,2,none⟩=some (.slice (some ⟨N,0,none⟩) n n):=cell_of hB rfl;clear HO5 HB c5 c6 c7 hO hS hB HS3 HRW;have HBX:Hid (pk' (N+1)=_):=⟨hbox⟩
  clear hbox;by_cases hlt:k<n
  .have hks:(k:Int)<(n:Int):=by omega
   go_wp2_with fail
   go_region_held3 (λu=>u.cell? ⟨N+1,2,none⟩=some (.slice (some ⟨N,0,none⟩) n n))
    (first|assumption|(simp[go_sem, *];done))
    (first
      |(go_at_call 41;refine ((HOB.out.same (u':=wr.drew) rfl rfl rfl).cell 0 (by rw[G0];have:=HN.out;omega)).mono ?_;rintro e w1 ⟨cb,rfl,hs1,S2,o2⟩
        have HO2:Hid (Objs v S (sts n k++[0]) pk' S2 (K++[(cb,0)]) w1):=⟨o2⟩
        have hN:=o2.has N _ HS.out.row;have c2:w1.cell? ⟨N+1,2,none⟩=some (.slice (some ⟨N,0,none⟩) n n):=cell_of (o2.has (N+1) _ HBX.out) rfl;obtain ⟨c3,c4⟩:=Ju (j:=k*2) hN (by omega) (by omega);have HN1:Hid (w1.heap[N]? = some (objC n (2*n+2) 134 K)):=⟨hN⟩
        clear o2 hN))
   have O3:=HO2.out.set (b:=N) (o':=objC n (2*n+2) 134 (K++[(cb,0)])) (u':=w1.setCell ⟨N,k*2,none⟩ (.pointer (some ⟨cb,0,none⟩))) HS.out.row (by omega) (λx hx=>Below.heap_setCell _ _ _ _ hx) (Gq (j:=k*2) (cb,0) HN1.out (by omega) (by omega)) (by simp[World.setCell]) rfl rfl ⟨_,_,_,rfl⟩;have HO3:Hid _:=⟨O3⟩
   clear O3 HO2 HN1 c2 c3 c4 hs1;generalize hW:w1.setCell ⟨N,k*2,none⟩ (.pointer (some ⟨cb,0,none⟩))=W at *;have hLK:(K++[(cb,(0:Int))]).length=2*n+2+(k*2+1):=by rw[Qj,hK];simp;omega
   go_wp2_with fail
   go_region_held3 (λu=>u.cell? ⟨N+1,2,none⟩=some (.slice (some ⟨N,0,none⟩) n n))
    (first|assumption|(simp[go_sem, *];done))
    (first
      |(go_at_call 41;refine ((HO3.out.same (u':=W.drew) rfl rfl rfl).cell 0 (by rw[Qj,G0];have:=HN.out;simp;omega)).mono ?_;rintro e w2 ⟨cb2,rfl,hs2,S3,o2⟩
        have HO5:Hid _:=⟨o2⟩
        have hN:=o2.has N _ (B7 _ _ _);have c2:w2.cell? ⟨N+1,2,none⟩=some (.slice (some ⟨N,0,none⟩) n n):=cell_of (o2.has (N+1) _ (by rw[Av (by omega)];exact HBX.out)) rfl;obtain ⟨c3,c4⟩:=Ju (j:=k*2+1) hN hLK (by omega);have HN2:Hid (w2.heap[N]? = some (objC n (2*n+2) 134 (K++[(cb,0)]))):=⟨hN⟩
        clear o2 hN))
   have hn3:=HN.out;go_wp2_with fail
   go_roundw
   case rel =>
    have O6:=HO5.out.set (b:=N) (o':=objC n (2*n+2) 134 (K++[(cb,0)]++[(cb2,0)])) (u':=w2.setCell ⟨N,k*2+1,none⟩ (.pointer (some ⟨cb2,0,none⟩))) (B7 _ _ _) (by omega) (λx hx=>Below.heap_setCell _ _ _ _ hx) (Gq (j:=k*2+1) (cb2,0) HN2.out hLK (by omega)) (by simp[World.setCell]) rfl rfl ⟨_,_,_,rfl⟩;obtain ⟨cz,hcz,hbz⟩:=HS.out.sbox;refine ⟨k+1,K++[(cb,0)]++[(cb2,0)],S3,_,by omega,by go_num,by rw[Qj,hLK];simp;omega,O6,λb o hb=>?_,⟨cz,?_,?_⟩,?_,⟨cc,?_,?_⟩,B7 _ _ _⟩
    .have:=hlt0 b o hb
     rw[Av (by omega),Av (by omega)];exact HS.out.old b o hb
    rw[List.append_assoc,Qn (by omega)];exact hcz;rw[Av (by omega),Av (by omega)];exact hbz;rw[Av (by omega),Av (by omega),K6 _ (by omega),K6 _ (by omega)];exact HS.out.srow;rw[List.append_assoc,Qn (by omega)];exact hcc;rw[Av (by omega),Av (by omega)];exact HBX.out
   case measure=>simp[intOf];omega
  .have:k=n:=by omega
   subst this;go_wp2_with fail;go_ret;subst hNN;exact ⟨_,rfl,rfl,S1',K,pk',HOB.out,HS.out⟩
end Go.Proofs.YtbbhahigofeacaaDoor.Gen
