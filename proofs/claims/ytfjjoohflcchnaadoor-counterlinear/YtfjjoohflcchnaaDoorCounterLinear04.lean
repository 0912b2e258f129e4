/- CounterLinear, part 4 of 24: Lift22, Fine, Tw, Note, Rep, Lift23, Atom, Did, Cells, Lift24, Wait, Turn, Add, Load. -/
import Derived.Test.YtfjjoohflcchnaaDoorCounterLinear01
import Derived.Test.YtfjjoohflcchnaaDoorCounterLinear03
import Derived.Conc.TokenWalk
import Derived.Test.YtfjjoohflcchnaaDoorProg
import Derived.KernelRfl
import Derived.WalkKit
import Derived.WalkSpells
import Derived.Deep.AppendLies
import Derived.Deep.RegionHeld3
import Derived.Deep.RegionLaw
import Derived.BigRegion
import Derived.Laws.LoneSync
import Derived.Deep.QuietTactic
import Derived.BigQuiet
import Derived.Conc.TokenWords
set_option linter.unusedSimpArgs false
set_option linter.unusedVariables false
set_option maxHeartbeats 4000000
set_option maxRecDepth 100000
noncomputable section
namespace Go.Lift
open Go.Conc
variable {Ch:Nat->Prop} {z:Nat->Option Nat} {w:World} {c:Code} {L:FuncId->Prop} {f:FuncId} {fn:Func} {args:Array Value} {b:Frame} {a:Act}
def ScZ (z:Nat->Option Nat) (a:Addr):Prop:=a.spot=none∧z a.block=some a.off
def NoRow (Ch:Nat->Prop) (v:World):Prop:=∀ c,Ch c->∃ o,v.heap[c]? = some o∧∀ x e f,o≠.cells x e f
theorem noRow_keeps {wr:Bool}(v v':World) (h:Keeps wr v v') (hn:NoRow Ch v):NoRow Ch v':=λc hc=>by obtain ⟨o,h1,h2⟩:=hn c hc;exact ⟨o,h.objs c o h1 h2,h2⟩
theorem noRow_rel {v:World}(h:Rel z v w) (hn:NoRow Ch v) {c:Nat}(hc:Ch c):w.heap[c]? = v.heap[c]?:=by
 obtain ⟨o,h1,h2⟩:=hn c hc;rcases h.obj c with e|⟨x,t,f,e,_⟩
 exact e;rw[h1] at e;cases e;exact absurd rfl (h2 _ _ _)
theorem dt_of_z (v v' w w':World) (es:Array Event) (hn:NoRow Ch v) (hr:Rel z v w) (ho:Out z true v v' w w') (he:∀ e∈es,Okay true e∧Spares z w' e):DT (ScZ z) Ch w w' es:=by
 refine ⟨⟨λa x ha hx=>?_,λc o hc hx=>?_,λe h=>⟨(he e h).1,λa hl hw hs=>(he e h).2.2 a hl hw hs.2⟩⟩,by rw[hr.size,ho.rel.size];exact ho.keeps.size,λe h=>(he e h).2.1⟩
 .obtain ⟨b,o,s⟩:=a
  obtain ⟨h1,h2⟩:=ha;simp only at h1 h2;subst h1;rw[ho.rel.cell?,ho.still b o h2,<-hr.cell?];exact hx
 .rw[noRow_rel ho.rel (noRow_keeps v v' ho.keeps hn) hc]
  rw[noRow_rel hr hn hc] at hx;obtain ⟨o',h1,h2⟩:=hn c hc;rw[h1] at hx;cases hx;exact ho.keeps.objs c o h1 h2
section
variable {P:Program}{main:Bool}{Stop:Goroutine->World->Prop}{k:List Item}{cs:List Frame}{w:World}{ops:Array Oper}{i:Nat}{rest:List Nat}{o:Oper}
theorem goesI_fn (hE:∀ fr cs dy g w,∃ o w',early P fr cs dy g w=.ended o w') (hL:∀ g,L g->fineFn P true L g)
 {bc:Frame} {ac:Act} {R:Value->World->Prop} {v0:World} (hvw:Rel z v0 w) (hn:NoRow Ch v0) (hf:P.funcs[f]? = some fn) (hb:fn.body=some c) (hc:fineCode P true L c) (ho:ops[i]? = some o)
 (hres:∀ tmps,∃ v,(∀ w,(results fn tmps).run P w=.ok v w)∧∀ w,(results fn tmps).events P w #[]=#[])
 (hwp:∀ τ,c.wp P (bodyPost P fn (λe w'=>∃ v,e=.returned v∧R v w')) { tmps:=args++Array.replicate (fn.ntmps - args.size) undef,defers:=[] } (onTape v0 τ 0))
 (h:∀ v v' w',R v v'->Rel z v' w'->NoRow Ch v'->GoesI P main (DT (ScZ z) Ch) Stop (G (bc.at (ac.put o.dst v) (.inRegion ops rest :: k)) cs) w'):
 GoesI P main (DT (ScZ z) Ch) Stop (G (Frame.enter P f args .normal) (bc.at ac (.inRegion ops (i :: rest) :: k) :: cs)) w:=by
 rw[enter_at args hf hb];refine (lift_code (P:=P) (z:=z) (wr:=true) (L:=L) (D:=DT (ScZ z) Ch) (I:=NoRow Ch) (main:=main) (b:=base f) (k:=[]) (cs:=bc.at ac (.inRegion ops (i :: rest) :: k) :: cs) hE hL noRow_keeps
  (λv v' w w' es hi hr ho he=>dt_of_z v v' w w' es hi hr ho he) hvw hc rfl (by simp[base]) hn hwp ?_).then ?_
 .intro e a w hq
  cases e with
  |normal=>exact .inl rfl
  |ret=>exact .inr rfl
  |panic ch=>obtain ⟨_,v,hv,_⟩:=hq;cases hv
  |outgrown=>obtain ⟨v,hv,_⟩:=hq;cases hv
  |_=>exact hq.elim
 .rintro g w' ⟨a',v',hr,hiv,hd,⟨⟨_,x,hx,y,hy,hR⟩,rfl⟩|⟨⟨_,x,hx,y,hy,hR⟩,todo,rfl⟩⟩
  .cases hy
   obtain ⟨v,hv1,hv2⟩:=hres a'.tmps;have:x=v:=by have:=hv1 v';rw[hx] at this;cases this;rfl
   subst this;refine goesI_end (dt_idle _ _) ?_;exact goesI_leave (b:=base f) (fn:=fn) rfl hd hf hv1 hv2 ho (dt_idle _ _) (h x v' w' hR hr hiv)
  .cases hy
   obtain ⟨v,hv1,hv2⟩:=hres a'.tmps;have:x=v:=by have:=hv1 v';rw[hx] at this;cases this;rfl
   subst this;exact goesI_leave (b:=base f) (fn:=fn) rfl hd hf hv1 hv2 ho (dt_idle _ _) (h x v' w' hR hr hiv)
theorem goesI_into {D:World->World->Array Event->Prop}(hD:∀ w,D w w #[]) {xs:Array Operand}{ats:Array TypeId}
 (ho:ops[i]? = some o) (hw:Region.wanted o (yielded ops a.tmps)=true) (hk:b.kind≠.early) (hop:o.op=.call { callee:=.value (.func f),args:=xs,argTypes:=ats }) (ha:xs.map a.eval=args)
 (hf : P.funcs[f]? = some fn) (hname : (fn.name == "runtime.NumGoroutine") = false) (hb : fn.body = some c)
 (h:GoesI P main D Stop (G ((base f).at { tmps:=args++Array.replicate (fn.ntmps - args.size) undef,defers:=[] } [.code c]) (b.at a (.inRegion ops (i :: rest):: k):: cs)) w):
 GoesI P main D Stop (G (b.at a (.inRegion ops (i :: rest) :: k)) cs) w:=by
 have e:execOp a.eval o=callFunc f args:=by have ef:a.eval (.func f)=.func (.func f) #[] #[]:=rfl;unfold execOp;simp[hop,resolve,Deferred.ofValue,invoke,ef,ha]
 refine goesI_enter (f:=f) (args:=args) (fn:=fn) (c:=c) ho hw hk (λw=>?_) (λw=>?_) hD hf hb h
 .rw[e]
  have h1 : fn.name ≠ "runtime.NumGoroutine" := by simpa using hname
  simp[callFunc,run_program,hf,h1,hb]
 .unfold listed
  rw[e,events_callFunc_body hf hname hb];simp[seen_def]
theorem goesI_call (hE:∀ fr cs dy g w,∃ o w',early P fr cs dy g w=.ended o w') (hL:∀ g,L g->fineFn P true L g)
 {xs:Array Operand} {ats:Array TypeId} {R:Value->World->Prop} {v0:World}
 (ho:ops[i]? = some o) (hw:Region.wanted o (yielded ops a.tmps)=true) (hk:b.kind≠.early) (hop:o.op=.call { callee:=.value (.func f),args:=xs,argTypes:=ats }) (ha:xs.map a.eval=args)
 (hf : P.funcs[f]? = some fn) (hname : (fn.name == "runtime.NumGoroutine") = false) (hb : fn.body = some c) (hc : fineCode P true L c)
 (hres:∀ tmps,∃ v,(∀ w,(results fn tmps).run P w=.ok v w)∧∀ w,(results fn tmps).events P w #[]=#[])
 (hvw:Rel z v0 w) (hn:NoRow Ch v0)
 (hwp:∀ τ,c.wp P (bodyPost P fn (λe w'=>∃ v,e=.returned v∧R v w')) { tmps:=args++Array.replicate (fn.ntmps - args.size) undef,defers:=[] } (onTape v0 τ 0))
 (h:∀ v v' w',R v v'->Rel z v' w'->NoRow Ch v'->GoesI P main (DT (ScZ z) Ch) Stop (G (b.at (a.put o.dst v) (.inRegion ops rest :: k)) cs) w'):
 GoesI P main (DT (ScZ z) Ch) Stop (G (b.at a (.inRegion ops (i :: rest) :: k)) cs) w:=by
 have e:execOp a.eval o=callFunc f args:=by have ef:a.eval (.func f)=.func (.func f) #[] #[]:=rfl;unfold execOp;simp[hop,resolve,Deferred.ofValue,invoke,ef,ha]
 refine goesI_enter (f:=f) (args:=args) (fn:=fn) (c:=c) ho hw hk (λw=>?_) (λw=>?_) (dt_idle _ _) hf hb ?_
 .rw[e]
  have h1 : fn.name ≠ "runtime.NumGoroutine" := by simpa using hname
  simp[callFunc,run_program,hf,h1,hb]
 .unfold listed
  rw[e,events_callFunc_body hf hname hb];simp[seen_def]
 .rw[<-enter_at args hf hb]
  exact goesI_fn hE hL hvw hn hf hb hc ho hres hwp h
end
theorem goesI_look {P:Program}{main:Bool}{Stop:Goroutine->World->Prop}{k:List Item}{cs:List Frame}(hE:∀ fr cs dy g w,∃ o w',early P fr cs dy g w=.ended o w') (hL:∀ g,L g->fineFn P true L g) {a':Act}{v:World}
 (hvw:Rel z v w) (hn:NoRow Ch v) (hc:fineCode P true L c) (ha:a.defers=[]) (hb:b.kind≠.early)
 (hwp:∀ τ,c.wp P (λe x w'=>e=.normal∧x=a'∧w'.heap=v.heap∧w'.os=v.os∧w'.output=v.output) a (onTape v τ 0))
 (h:∀ w',Rel z v w'->GoesI P main (DT (ScZ z) Ch) Stop (G (b.at a' k) cs) w'):GoesI P main (DT (ScZ z) Ch) Stop (G (b.at a (.code c :: k)) cs) w:=by
 refine goesI_plain (z:=z) (wr:=true) (L:=L) (I:=NoRow Ch) hE hL noRow_keeps (λv v' w w' es hi hr ho he=>dt_of_z v v' w w' es hi hr ho he) hvw hc ha hb hn (Q:=λx w'=>x=a'∧w'.heap=v.heap∧w'.os=v.os∧w'.output=v.output) hwp ?_;rintro x v' w' ⟨rfl,h1,h2,h3⟩ hr _ _;exact h w' (hr.re h1.symm rfl h2.symm rfl h3.symm rfl)
theorem give_at {P:Program}{K:World->Prop}{Still:Loc->Prop}{h c:Nat}{v z':Value}{o:Option Seat}{F:World->Prop}{kk:List Item}{cs:List Frame}{ops:Array Oper}{i:Nat}{rest:List Nat}{op:Oper}(nh B₀:Nat)
 (ho:ops[i]? = some op) (hw:Region.wanted op (yielded ops a.tmps)=true) (hk:b.kind≠.early) (hr:∀ w,(execOp a.eval op).run P w=.ok (.comm #[scase c v z'] true .send) w) (he:∀ w,(execOp a.eval op).events P w #[]=#[]) (hF:F w) (hB₀:B₀<=w.heap.size)
 (hI:∀ B,B₀<=B->∀ T,Deaf T h=0->Idle P K Still B T h nh (Go.Conc.served (G (b.at a (.inRegion ops (i :: rest) :: kk)) cs) undef) o):Lift.AtGive P K Still h c v o F (G (b.at a (.inRegion ops (i :: rest) :: kk)) cs) w :=
 ⟨rfl,hF,_,z',#[],nh,B₀,hB₀,λd=>by rw[stepG_comm ho hw hk (hr _),listed_none (he _)],λB _ e he=>by simp at he,hI⟩
end Go.Lift
namespace Go.Proofs.YtfjjoohflcchnaaDoor
open Go Go.Lift Go.Conc
theorem no_ready:(Tryd.prog.funcs.all λf=>(f.body.map readies).all (·.isEmpty))=true:=by kernel_rfl
theorem ahead:Tryd.prog.follows .staticDataAhead=true:=by kernel_rfl
theorem stepOf_none (g:Nat):Tryd.prog.stepOf g=none:=by
 unfold Program.stepOf;rw[Array.findIdx?_eq_none_iff];intro f hf;have h:=(Array.all_eq_true_iff_forall_mem.1 no_ready) f hf;cases hb:f.body.map readies with
 |none=>simp
 |some l =>rw[hb] at h;simp only[Option.all_some,List.isEmpty_iff] at h;subst h;simp
theorem hE:∀ fr cs dy g w,∃ o w',early Tryd.prog fr cs dy g w=.ended o w':=λfr cs dy g w=>by unfold early;simp only[ahead,stepOf_none,Bool.not_true,Qh,if_false];exact ⟨_,_,rfl⟩
end Go.Proofs.YtfjjoohflcchnaaDoor
namespace Go.Proofs.YtfjjoohflcchnaaDoor
open Go Go.Lift Go.Conc Go.RowKit
variable {a b u u' v w:World} {e:TypeId} {n:Nat} {xs:List Value} {z:Nat->Option Nat}
abbrev I (n:Int):Value:=.int .i64 n
abbrev Pt (b o:Nat):Value:=.pointer (some ⟨b,o,none⟩)
structure Hid (p:Prop):Prop where
 out:p
def IntRow (w:World) (v:Value) (l:List Int):Prop :=
 (l=[]∧v=.slice none 0 0)∨∃ cb cap,v=.slice (some ⟨cb,0,none⟩) l.length cap∧∀ i x,l[i]? = some x->w.cell? ⟨cb,i,none⟩=some (I x)
def chgOf (l:List Int) (c:Int):Int:=if c<0 then 0 else l.getD c.toNat 0
def Body (f:Func) (args:Array Value) (w:World) (R:Value->World->Prop):Prop :=
 ∀ c,f.body=some c->c.wp Tryd.prog (bodyPost Tryd.prog f (λe w'=>∃ v,e=.returned v∧R v w')) { tmps:=args++Array.replicate (f.ntmps - args.size) undef,defers:=[] } w
theorem Body.calls {f:FuncId}{fn:Func}{args:Array Value}{R:Value->World->Prop}{c:Code}(hf:Tryd.prog.funcs[f]? = some fn) (hb:fn.body=some c) (h:Body fn args w R):Calls Tryd.prog f args w (λe w'=>∃ v,e=.returned v∧R v w') :=
 calls_of_wp hf hb (h c hb)
theorem body51 (wb:Nat) (c:Int) (cv:Value) (l:List Int) (w:World) (h3:w.cell? ⟨wb,3,none⟩=some cv) (hr:IntRow w cv l):Body Tryd.f157 #[Pt wb 0,I c] w (λv w'=>v=I (chgOf l c)∧w'=w):=by
 intro code hb;obtain rfl:=Qd hb;clear hb;simp only[Tryd.ntmps157,Sz,Nat.reduceAdd,Nat.reduceSub,Sy];by_cases hc:c<0
 .have H:Hid (c<0):=⟨hc⟩
  have g:(decide (c<0))=true:=by simpa using hc
  go_wp2
  go_ret;exact ⟨_,rfl,by simp[chgOf,H.out],rfl⟩
 .obtain ⟨n,rfl⟩:∃ n:Nat,c=(n:Int):=⟨c.toNat,by omega⟩
  clear hc;have hn0:¬ ((n:Int)<0):=by omega
  rcases hr with ⟨rfl,rfl⟩|⟨cb,cap,rfl,hrow⟩
  .have g:((0:Int)<=(n:Int)):=by omega
   go_wp2
   go_ret;exact ⟨_,rfl,by simp[chgOf],rfl⟩
  .by_cases hlt:n<l.length
   .have hx:=hrow n _ (Qf hlt)
    have HL:Hid (l[n]? = some l[n]):=⟨Qf hlt⟩
    have hlt':(n:Int)<(l.length:Int):=by omega
    generalize l[n]=x at hx HL;clear hrow
    go_wp2
    go_ret;exact ⟨_,rfl,by simp[chgOf,Ql,HL.out];omega,rfl⟩
   .have H:Hid (l.length<=n):=⟨by omega⟩
    have g:(l.length:Int)<=(n:Int):=by omega
    clear hrow hlt
    go_wp2
    go_ret;exact ⟨_,rfl,by simp[chgOf,Ql,List.getElem?_eq_none H.out],rfl⟩
theorem kcell (hb:Below u.heap.size u u') {a:Addr}{v:Value}(h:u.cell? a=some v):u'.cell? a=some v:=by rw[hb.cell (World.block_lt_of_cell? _ _ h)];exact h
structure Fr (S:Nat->Prop) (w w':World):Prop where
 os:w'.os=w.os
 output:w'.output=w.output
 size:w.heap.size<=w'.heap.size
 block:∀ b,b<w.heap.size->¬ S b->w'.heap[b]? = w.heap[b]?
theorem Fr.refl (S:Nat->Prop) (w:World):Fr S w w:=⟨rfl,rfl,Qi _,λ_ _ _=>rfl⟩
theorem Fr.trans {S:Nat->Prop}{c:World}(h:Fr S a b) (k:Fr S b c):Fr S a c :=
 ⟨k.os.trans h.os,k.output.trans h.output,Qk h.size k.size,λx hx hs=>(k.block x (Qp hx h.size) hs).trans (h.block x hx hs)⟩
theorem Fr.mono {S S':Nat->Prop}(hs:∀ x,x<a.heap.size->S x->S' x) (h:Fr S a b):Fr S' a b:=⟨h.os,h.output,h.size,λx hx hn=>h.block x hx λhS=>hn (hs x hx hS)⟩
def Noted (wb:Nat) (tv:Value) (n base:Nat) (xs news:List Value) (w w':World):Prop :=
 ∃ g cap,(∀ c t f,w.heap[wb]? = some (.cells c t f)->w'.heap[wb]? = some (.cells (c.setIfInBounds 5 (.slice (some ⟨g,0,none⟩) (n+1) cap)) t f)) ∧
   w'.ownsRow base 60 5 (.slice (some ⟨g,0,none⟩) (n+1) cap) (n+1) (xs++news)∧(tv.ownBlock=some g∨w.heap.size<=g)∧Fr (λb=>b=wb∨some b=tv.ownBlock) w w'
theorem heap_setCell_same {b o:Nat}{c:Array Value}{t:TypeId}{f:Nat×Nat}(h:w.heap[b]? = some (.cells c t f)) (v:Value):(w.setCell ⟨b,o,none⟩ v).heap[b]? = some (.cells (c.setIfInBounds o v) t f):=by simp[World.setCell,Array.getElem?_modify,h]
theorem own_set {base:Nat}{size:Nat}{v:Value}(h:w.ownsRow base e size v n xs) (a:Addr) (x:Value) (hne:v.ownBlock≠some a.block):(w.setCell a x).ownsRow base e size v n xs:=by
 refine ⟨h.1,?_⟩;rcases h.2 with h2|⟨g,cap,cur,h1,h2,h3,h4⟩
 exact .inl h2
 .refine .inr ⟨g,cap,cur,h1,h2,?_,h4⟩
  rw[Below.heap_setCell _ _ _ _ (λe=>hne (by rw[h1,e];rfl))];exact h3
theorem noted_of {wb:Nat}{tv:Value}{base:Nat}{news:List Value}{w6:World}{g cap:Nat}(hb:Below w.heap.size w u) (hw:wb<w.heap.size) (hg:u.grownBy w6 tv.ownBlock) (hown:w6.ownsRow base 60 5 (.slice (some ⟨g,0,none⟩) (n+1) cap) (n+1) (xs++news))
 (hat:tv.ownBlock=some g∨g=u.heap.size) (hne:tv.ownBlock≠some wb):Noted wb tv n base xs news w (w6.setCell ⟨wb,5,none⟩ (.slice (some ⟨g,0,none⟩) (n+1) cap)):=by
 have hgw:g≠wb:=by rcases hat with h|h;exact λe=>hne (by rw[h,e]);have:=hb.size;omega
 have e6:w6.heap[wb]? = w.heap[wb]?:=(hg.block wb (Qp hw hb.size) (Ne.symm hne)).trans (hb.block wb hw);refine ⟨g,cap,λc t f h=>heap_setCell_same (by rw[e6];exact h) _,own_set hown _ _ (λe=>hgw (Qd e)),?_,?_⟩
 .rcases hat with h|h
  exact .inl h;exact .inr (by have:=hb.size;omega)
 .refine ⟨by show w6.os=_;rw[hg.os,hb.os],by show w6.output=_;rw[hg.output,hb.output],?_,λb hlt hs=>?_⟩
  .have:=hb.size
   have:=hg.size;simp only[World.setCell,Array.size_modify];omega
  rw[Below.heap_setCell _ _ _ _ (λe=>hs (.inl e)),hg.block b (Qp hlt hb.size) (λe=>hs (.inr e)),hb.block b hlt]
theorem below_alloc (h:Below a.heap.size a b) (o:Obj):Below a.heap.size a (b.alloc o):=h.alloc h.size o
theorem own_later {w':World}{base:Nat}{size:Nat}{v:Value}(hb:Below w.heap.size w w') (h:w.ownsRow base e size v n xs):w'.ownsRow base e size v n xs:=by
 refine ⟨h.1,?_⟩;rcases h.2 with h2|⟨g,cap,cur,h1,h2,h3,h4⟩
 exact .inl h2;exact .inr ⟨g,cap,cur,h1,h2,(hb.block g (Qb h3).1).trans h3,h4⟩
theorem info34:(Tryd.prog.info? 60).map (λi=>(i.zero,i.size,i.bytes))=some (some (.agg #[I 0,I 0,I 0,I 0,I 0]),5,40):=by kernel_rfl
theorem one5 (a b c d e:Int):∀ u∈[I a,I b,I c,I d,I e],u.oneCell'=true:=by intro u hu;simp at hu;rcases hu with rfl|rfl|rfl|rfl|rfl<;>rfl
theorem keep4 {a1 a2 a3:Addr}{v1 v2 v3:Value}(h:u.cell? a1=some v1∧u.cell? a2=some v2∧u.cell? a3=some v3∧u.frozen? a3=false) (hb:Below u.heap.size u u'):
 u'.cell? a1=some v1∧u'.cell? a2=some v2∧u'.cell? a3=some v3∧u'.frozen? a3=false:=by
 obtain ⟨h1,h2,h3,h4⟩:=h;exact ⟨kcell hb h1,kcell hb h2,kcell hb h3,by rw[hb.frozen (World.block_lt_of_cell? _ _ h3)];exact h4⟩
theorem keep4g {row:Option Nat}{a1 a2 a3:Addr}{v1 v2 v3:Value}(h:u.cell? a1=some v1∧u.cell? a2=some v2∧u.cell? a3=some v3∧u.frozen? a3=false) (hg:u.grownBy u' row)
 (h1:row≠some a1.block) (h2:row≠some a2.block) (h3:row≠some a3.block):u'.cell? a1=some v1∧u'.cell? a2=some v2∧u'.cell? a3=some v3∧u'.frozen? a3=false:=by
 obtain ⟨g1,g2,g3,g4⟩:=h;exact ⟨by rw[hg.cell_far _ (World.block_lt_of_cell? _ _ g1) h1.symm];exact g1,by rw[hg.cell_far _ (World.block_lt_of_cell? _ _ g2) h2.symm];exact g2,by rw[hg.cell_far _ (World.block_lt_of_cell? _ _ g3) h3.symm];exact g3,
  by rw[hg.frozen_far _ (World.block_lt_of_cell? _ _ g3) h3.symm];exact g4⟩
theorem news5 (w:World) (a b c d e:Int) (t:TypeId):∀ j u,[I a,I b,I c,I d,I e][j]? = some u->(w.alloc (.cells #[I a,I b,I c,I d,I e] t)).cell? ((⟨w.heap.size,0,none⟩:Addr).add j)=some u:=by intro j u hj;have hb:(w.alloc (.cells #[I a,I b,I c,I d,I e] t)).heap[w.heap.size]? = some (.cells #[I a,I b,I c,I d,I e] t):=Qo;exact World.news_of_block hb j u hj
theorem body38 (tb wb id:Nat) (op ce ol ne:Int) (tv:Value) (n base:Nat) (xs:List Value) (w:World) (h0:w.cell? ⟨tb,0,none⟩=some (Pt wb 0)) (h1:w.cell? ⟨tb,1,none⟩=some (I id)) (h5:w.cell? ⟨wb,5,none⟩=some tv)
 (hf:w.frozen? ⟨wb,5,none⟩=false) (hown:w.ownsRow base 60 5 tv n xs) (hbw:tv.ownBlock≠some wb) (hbt:tv.ownBlock≠some tb) (hn:(n+1)*40<=140737488355328) (hbase:base<=w.heap.size):
 Body Tryd.f128 #[Pt tb 0,I op,I ce,I ol,I ne] w (λv w'=>v=.tuple #[]∧Noted wb tv n base xs [I id,I ce,I op,I ol,I ne] w w'):=by
 intro code hb;obtain rfl:=Qd hb;clear hb;simp only[Tryd.ntmps128,Sz,Nat.reduceAdd,Nat.reduceSub,Sy];have HO:Hid (w.ownsRow base 60 5 tv n xs):=⟨hown⟩
 clear hown;obtain ⟨j0,hj,hj0,hj1,hj2⟩:=info_parts info34;have q0:=World.block_lt_of_cell? _ _ h0;have q5:=World.block_lt_of_cell? _ _ h5;simp only at q0 q5;have n0:tb≠w.heap.size:=by omega
 have n5:wb≠w.heap.size:=by omega
 have n0':w.heap.size≠tb:=by omega
 have n5':w.heap.size≠wb:=by omega
 go_region_law (refine step_append_lies _ rfl (.tmp 20) (.tmp 30) 41 rfl base 60 j0 _ 5 40 Tryd.underlying41 hj hj0 hj1 hj2 rfl (by decide) tv n xs rfl (own_later (below_alloc (Below.refl _ _).drew _) HO.out) ⟨_,0,none⟩ 1 1 [I id,I ce,I op,I ol,I ne] rfl rfl (news5 _ _ _ _ _ _ _) (one5 _ _ _ _ _) (by decide) (by unfold maxLen;omega) (by omega) (by simp;omega) _ rfl ?_
                intro g cpg w6 hown6 hgrow6 hat6 hlt6;obtain ⟨_,_,k5,k6⟩:=keep4g (keep4 (u:=w) ⟨h0,h1,h5,hf⟩ (below_alloc (Below.refl _ _).drew _)) hgrow6 hbt hbt hbw)
 all_goals first
  |exact ⟨rfl,_,results_none rfl _ _ _,_,rfl,rfl,noted_of (below_alloc (Below.refl _ _).drew _) q5 hgrow6 hown6 hat6 hbw⟩
  |exact ⟨rfl,_,results_none rfl _ _ _,_,rfl,rfl,noted_of ((below_alloc (Below.refl _ _) _).drew) q5 hgrow6 hown6 hat6 hbw⟩
structure Thr where
 tb:Nat
 gc:Nat
 st:Int
 ce:Int
 op:Int
 se:Int
structure TS where
 wb:Nat
 bk:Nat
 base:Nat
 us:Nat
 n:Nat
 la:Int
 sc:Value
 cv:Value
 ths:Value
 tv:Value
 sched:List Int
 chg:List Int
 tr:List Value
 stk:Bool
 ran:Bool
 thr:List Thr
abbrev trow (wb id gc:Nat) (st ce op se:Int):Array Value:=#[Pt wb 0,I id,.chan (some gc),I st,I ce,I op,I se]
abbrev wrow (S:TS):Array Value:=#[S.sc,I S.us,I S.la,S.cv,S.ths,S.tv,.bool S.stk,.bool S.ran,.chan (some S.bk)]
def blk (S:TS):Nat->Option Nat
 |0=>some S.wb
 |1=>S.cv.ownBlock
 |2=>S.ths.ownBlock
 |3=>S.tv.ownBlock
 |4=>S.sc.ownBlock
 |k+5=>(S.thr[k]?).map (·.tb)
def Its (S:TS) (b:Nat):Prop:=∃ k,blk S k=some b
def fz (z:Nat->Option Nat) (b:Nat):Nat×Nat :=
 match z b with
 |some n=>(n,n+1)
 |none=>(0,0)
structure Rep (z:Nat->Option Nat) (S:TS) (v:World):Prop where
 wor:v.heap[S.wb]? = some (.cells (wrow S) 97 (fz z S.wb))
 thr:∀ (i:Nat) (t:Thr),S.thr[i]? = some t->v.heap[t.tb]? = some (.cells (trow S.wb i t.gc t.st t.ce t.op t.se) 107 (fz z t.tb))
 own:v.ownsRow S.base 60 5 S.tv S.n S.tr
 chg:v.ownsRow S.base 3 1 S.cv S.chg.length (S.chg.map I)
 ths:v.ownsRow S.base 48 1 S.ths S.thr.length (S.thr.map λt=>Pt t.tb 0)
 sch:v.ownsRow S.base 3 1 S.sc S.sched.length (S.sched.map I)
 bs:S.base<=v.heap.size
 apart:∀ j k b,blk S j=some b->blk S k=some b->j=k
 kept:∀ b n,z b=some n->(b=S.wb∧n=8)∨∃ (i:Nat) (t:Thr),S.thr[i]? = some t∧b=t.tb∧n=2
theorem own_lt {base:Nat}{size:Nat}{v:Value}(h:w.ownsRow base e size v n xs):∀ g,v.ownBlock=some g->base<=g∧g<w.heap.size:=by
 intro g hg;rcases h.2 with ⟨rfl,_⟩|⟨g',cap,cur,rfl,hb,hh,_⟩
 cases hg
 .have:g'=g:=Qd hg
  subst this;exact ⟨hb,(Qb hh).1⟩
theorem Rep.lt {S:TS}(h:Rep z S v) {k b:Nat}(hk:blk S k=some b):b<v.heap.size:=by
 match k,hk with
 |0,hk=>cases hk;exact (Qb h.wor).1
 |1,hk=>exact (own_lt h.chg b hk).2
 |2,hk=>exact (own_lt h.ths b hk).2
 |3,hk=>exact (own_lt h.own b hk).2
 |4,hk=>exact (own_lt h.sch b hk).2
 |k+5,hk =>simp only[blk,Option.map_eq_some_iff] at hk;obtain ⟨t,ht,rfl⟩:=hk;exact (Qb (h.thr k t ht)).1
structure Ev (z:Nat->Option Nat) (S:TS) (v:World) (S':TS) (v':World):Prop where
 rep:Rep z S' v'
 fr:Fr (Its S) v v'
 new:∀ b,Its S' b->Its S b∨v.heap.size<=b
theorem Ev.refl {S:TS}(h:Rep z S v):Ev z S v S v:=⟨h,Fr.refl _ _,λ_ hb=>.inl hb⟩
theorem Ev.trans {S S' S'':TS}{v' v'':World}(h:Ev z S v S' v') (k:Ev z S' v' S'' v''):Ev z S v S'' v'':=by
 refine ⟨k.rep,?_,λb hb=>?_⟩
 .refine ⟨k.fr.os.trans h.fr.os,k.fr.output.trans h.fr.output,Qk h.fr.size k.fr.size,λx hx hs=>?_⟩
  rw[k.fr.block x (Qp hx h.fr.size) (λhi=>(h.new x hi).elim hs (λhle=>by omega)),h.fr.block x hx hs]
 .rcases k.new b hb with h1|h1
  exact h.new b h1;exact .inr (Qk h.fr.size h1)
theorem own_stay {w':World}{base:Nat}{size:Nat}{v:Value}(hb:∀ g,v.ownBlock=some g->w'.heap[g]? = w.heap[g]?) (h:w.ownsRow base e size v n xs):w'.ownsRow base e size v n xs:=by
 refine ⟨h.1,?_⟩;rcases h.2 with h2|⟨g,cap,cur,h1,h2,h3,h4⟩
 exact .inl h2;exact .inr ⟨g,cap,cur,h1,h2,by rw[hb g (by rw[h1];rfl)];exact h3,h4⟩
theorem fz_off {S:TS}(h:Rep z S v) (o:Nat) (ho:o≠8):v.frozen? ⟨S.wb,o,none⟩=false:=by
 unfold World.frozen?;rw[h.wor];unfold fz;cases hz:z S.wb with
 |none=>simp
 |some n =>
  rcases h.kept _ _ hz with ⟨_,rfl⟩|⟨i,t,ht,e,_⟩
  .simp only[Bool.and_eq_false_iff,decide_eq_false_iff_not]
   omega
  .have:=h.apart 0 (i+5) S.wb rfl (by simp[blk,ht,e])
   omega
theorem fzT_off {S:TS}(h:Rep z S v) {i:Nat}{t:Thr}(ht:S.thr[i]? = some t) (o:Nat) (ho:o≠2):v.frozen? ⟨t.tb,o,none⟩=false:=by
 unfold World.frozen?;rw[h.thr i t ht];unfold fz;cases hz:z t.tb with
 |none=>simp
 |some n =>
  rcases h.kept _ _ hz with ⟨e,rfl⟩|⟨j,t',ht',e,rfl⟩
  .have:=h.apart 0 (i+5) S.wb rfl (by simp[blk,ht,e])
   omega
  .simp only[Bool.and_eq_false_iff,decide_eq_false_iff_not]
   omega
theorem note_rep {S:TS}(h:Rep z S v) {i:Nat}{t:Thr}(ht:S.thr[i]? = some t) (op ce ol ne:Int) (hn:(S.n+1)*40<=140737488355328):
 Body Tryd.f128 #[Pt t.tb 0,I op,I ce,I ol,I ne] v (λr v'=>r=.tuple #[]∧∃ tv',Ev z S v { S with tv:=tv',n:=S.n+1,tr:=S.tr++[I i,I ce,I op,I ol,I ne] } v'):=by
 have hrow:=h.thr i t ht;have c0:v.cell? ⟨t.tb,0,none⟩=some (Pt S.wb 0):=by simp[World.cell?,hrow]
 have c1:v.cell? ⟨t.tb,1,none⟩=some (I i):=by simp[World.cell?,hrow]
 have c5:v.cell? ⟨S.wb,5,none⟩=some S.tv:=by simp[World.cell?,h.wor]
 have hb5:blk S (i+5)=some t.tb:=by simp[blk,ht]
 have n1:S.tv.ownBlock≠some S.wb:=λe=>by have:=h.apart 3 0 S.wb e rfl;omega
 have n2:S.tv.ownBlock≠some t.tb:=λe=>by have:=h.apart 3 (i+5) t.tb e hb5;omega
 intro c hc;refine wp_mono (body38 t.tb S.wb i op ce ol ne S.tv S.n S.base S.tr v c0 c1 c5 (fz_off h 5 (by omega)) h.own n1 n2 hn h.bs c hc) ?_;have key:∀ v',Noted S.wb S.tv S.n S.base S.tr [I i,I ce,I op,I ol,I ne] v v'->∃ tv',Ev z S v { S with tv:=tv',n:=S.n+1,tr:=S.tr++[I i,I ce,I op,I ol,I ne] } v':=by
  rintro v' ⟨g,cap,hw,hown,hat,hfr⟩;have hst:∀ k b,blk S k=some b->k≠0->k≠3->v'.heap[b]? = v.heap[b]?:=λk b hk h0 h3=>hfr.block b (h.lt hk) (λhS=>by rcases hS with rfl|hS;exact h0 (h.apart k 0 _ hk rfl);exact h3 (h.apart k 3 b hk hS.symm))
  have hnew:∀ k b,blk { S with tv:=.slice (some ⟨g,0,none⟩) (S.n+1) cap,n:=S.n+1,tr:=S.tr++[I i,I ce,I op,I ol,I ne] } k=some b->(blk S k=some b)∨(k=3∧b=g):=λk b hk=>by
   match k,hk with
   |0,hk=>exact .inl hk
   |1,hk=>exact .inl hk
   |2,hk=>exact .inl hk
   |3,hk=>cases hk;exact .inr ⟨rfl,rfl⟩
   |4,hk=>exact .inl hk
   |k+5,hk=>exact .inl hk
  refine ⟨.slice (some ⟨g,0,none⟩) (S.n+1) cap,⟨?_,λj t' ht'=>?_,hown,?_,?_,?_,Qk h.bs hfr.size,λj k b hj hk=>?_,h.kept⟩,hfr.mono (λx _ hx=>?_),λb ⟨k,hk⟩=>?_⟩
  .have:=hw _ _ _ h.wor
   simpa using this
  .rw[hst (j+5) t'.tb (by simp[blk,ht']) (by omega) (by omega)]
   exact h.thr j t' ht'
  exact own_stay (λb hb=>hst 1 b hb (by omega) (by omega)) h.chg;exact own_stay (λb hb=>hst 2 b hb (by omega) (by omega)) h.ths;exact own_stay (λb hb=>hst 4 b hb (by omega) (by omega)) h.sch
  .rcases hnew j b hj with e1|⟨rfl,rfl⟩<;>rcases hnew k b hk with e2|⟨rfl,e2⟩
   exact h.apart j k b e1 e2
   .subst e2
    rcases hat with ha|ha;exact h.apart j 3 b e1 ha;have:=h.lt e1;omega
   .rcases hat with ha|ha
    exact h.apart 3 k b ha e2;have:=h.lt e2;omega
   rfl
  .rcases hx with rfl|hx
   exact ⟨0,rfl⟩;exact ⟨3,hx.symm⟩
  .rcases hnew k b hk with e1|⟨_,rfl⟩
   exact .inl ⟨k,e1⟩
   .rcases hat with ha|ha
    exact .inl ⟨3,ha⟩;exact .inr ha
 intro e a w' hq;cases e with
 |normal=>obtain ⟨q1,x,q2,y,q3,q4,q5⟩:=hq;exact ⟨q1,x,q2,y,q3,q4,key _ q5⟩
 |ret=>obtain ⟨q1,x,q2,y,q3,q4,q5⟩:=hq;exact ⟨q1,x,q2,y,q3,q4,key _ q5⟩
 |panic ch=>obtain ⟨q1,y,q3,q4,q5⟩:=hq;cases q3
 |outgrown=>obtain ⟨y,q3,q4,q5⟩:=hq;cases q3
 |_=>exact hq.elim
end Go.Proofs.YtfjjoohflcchnaaDoor
namespace Go.Lift
open Go.Conc
variable {fs:List FuncId} {xs:List (FuncId×Nat)} {p:Array Value->Prop}
section
variable {P:Program}{wr:Bool}{L:FuncId->Prop}
theorem calm_read (t:Extern.Atomic.T) (a:Addr):calm P wr (Extern.Atomic.read t a):=by unfold Extern.Atomic.read;refine calm_bind (calm_load _ _) λv=>?_;split<;>first|exact calm_pure _|exact calm_unsupported _|(split<;>first|exact calm_pure _|exact calm_unsupported _)
theorem calm_loadT (t:Extern.Atomic.T) (a:Value):calm P wr (Extern.Atomic.loadT t #[a]) :=
 calm_bind (calm_asAddr _) λ_=>calm_read _ _
theorem calm_swapT (h:wr=true) (t:Extern.Atomic.T) (a b:Value):calm P wr (Extern.Atomic.swapT t #[a,b]) :=
 calm_bind (calm_asAddr _) λ_=>calm_bind (calm_read _ _) λ_=>calm_bind (calm_store h _ _ _) λ_=>calm_pure _
theorem calm_any {β:Type}{f:Bool->Sem β}{g:Nat->Addr}(h1:calm P wr (f true)) (hd:dead P (f true)) (h0:calm P wr (f false)):∀ l:List Nat,calm P wr ((l.anyM λi=>frozen (g i)) >>= f)
 | []=>h0
 |i :: l=>by
  show calm P wr (Sem.frozen (g i) λb=>_);refine ⟨λb=>?_,?_⟩
  .cases b
   exact calm_any h1 hd h0 l;exact h1
  exact hd
theorem calm_touches {β:Type}{f:Bool->Sem β}(a:Addr) (h1:calm P wr (f true)) (hd:dead P (f true)) (h0:calm P wr (f false)):calm P wr (Extern.Atomic.touchesFrozen a >>= f):=by
 unfold Extern.Atomic.touchesFrozen;have hass:∀ {α γ:Type} (s:Sem α) (k:α->Sem γ) (f:γ->Sem β),(s.bind k).bind f=s.bind λx=>(k x).bind f:=λs k f=>by
  induction s with
  |pure a=>rfl
  |halt h=>rfl
  |store m a v k ih=>simp only[Sem.bind,ih]
  |freeze a n k ih=>simp only[Sem.bind,ih]
  |setObj r o k ih=>simp only[Sem.bind,ih]
  |mark m k ih=>simp only[Sem.bind,ih]
  |_=>rename_i ih;simp only[Sem.bind];congr;funext x;exact ih _
 show calm P wr (((viewAt a.block).bind _).bind f);rw[hass];refine calm_sbind (calm_viewAt _) λo=>?_;cases o with
 |none=>exact ⟨λb=>by cases b;exact h0;exact h1,hd⟩
 |some p =>
  obtain ⟨at_,ar⟩:=p;show calm P wr (((typeInfo ar).bind _).bind f);rw[hass];refine calm_sbind (calm_typeInfo _) λi=>?_;dsimp only;split
  .show calm P wr (((unsupported _).bind _).bind f)
   exact calm_unsupported _
  exact calm_any h1 hd h0 _
theorem calm_casT (h:wr=true) (k:IntKind) (a b c:Value):calm P wr (Extern.Atomic.casT (.int k) #[a,b,c]):=by
 refine calm_bind (calm_asAddr _) λad=>?_;have tail:calm P wr (do
  let eq <-match Extern.Atomic.T.int k,<-Extern.Atomic.read (.int k) ad,b with
   |_,.int _ x,.int _ y=>pure (x==y)
   |.ptr,.pointer x,.pointer y=>samePointer x y
   |.int _,.pointer (some _),.int _ 0|.int _,.int _ 0,.pointer (some _)=>pure false
   |.int _,.pointer (some _),_|.int _,_,.pointer (some _)=>unsupported .addressObserved
   | _, _, _ => stuck "atomic.CompareAndSwap: old is no T"
  if eq then store ad c .atomic
  pure (.bool eq):Sem Value):=by
  refine calm_bind (calm_read _ _) λx=>?_;have jp:∀ eq:Bool,calm P wr (if eq=true then do
   let r <-store ad c Mode.atomic
   pure (Value.bool eq)
   else pure (Value.bool eq):Sem Value):=λeq=>by
   split;exact calm_bind (calm_store h _ _ _) λ_=>calm_pure _;exact calm_pure _
  dsimp only;split<;>first|exact calm_bind (calm_pure _) λ_=>jp _|exact calm_bind (calm_unsupported _) λ_=>jp _|exact calm_bind (calm_stuck _) λ_=>jp _|(rename_i hh;cases hh)
 exact calm_touches ad (calm_unsupported _) trivial tail
def ExtOk (P:Program) (wr:Bool) (f:FuncId) (n:Nat):Prop :=
 ∃ fn e, P.funcs[f]? = some fn ∧ (fn.name == "runtime.NumGoroutine") = false ∧ fn.body = none ∧ Extern.findNext fn = none ∧ Extern.find fn = some e ∧ ∀ args : Array Value, args.size = n → calm P wr (e args)
theorem fine_extern {o:Oper}{f:FuncId}{args:Array Operand}{ats:Array TypeId}(ho:o.op=.call { callee:=.value (.func f),args:=args,argTypes:=ats }) (hx:ExtOk P wr f args.size):fineOp P wr L o:=λa=>by
 obtain ⟨fn,en,hf,hn,hb,hnx,hfd,hcalm⟩:=hx;have e:execOp a.eval o=callFunc f ((#[]++args.map a.eval)++#[]):=by unfold execOp;rw[ho];rfl
 rw[e];have hc:=hcalm ((#[]++args.map a.eval)++#[]) (by simp);constructor
 .simp only[callFunc,program,bind,Sem.bind,calm,hf,hn,hb,hnx,hfd,Option.isNone_none,if_true,mark,Qh,if_false]
  exact ⟨.inr ⟨f,rfl⟩,calm_sbind hc λ_=>trivial⟩
 .intro w x w' h
  simp only[callFunc,program,bind,Sem.bind,Sem.run,hf,hn,hb,hnx,hfd,Option.isNone_none,if_true,mark,Qh,if_false] at h;exact .inl (val_out h)
def askCall (fs:List FuncId) (xs:List (FuncId×Nat)):Op->Bool
 |.call { callee:=.value (.func f),args:=ar,.. }=>fs.contains f||xs.contains (f,ar.size)
 |_=>false
def askCode (P:Program) (wr:Bool) (fs:List FuncId) (xs:List (FuncId×Nat)):Code->Bool
 |.skip|.ret|.label _|.exit _=>true
 |.seq a b=>askCode P wr fs xs a&&askCode P wr fs xs b
 |.cond _ a b=>askCode P wr fs xs a&&askCode P wr fs xs b
 |.block _ c=>askCode P wr fs xs c
 |.loop c=>askCode P wr fs xs c
 |.region _ ops _=>ops.all λo=>plainOp P wr o.op||askCall fs xs o.op
 |_=>false
theorem fineOp_ask (hfs:∀ f∈fs,Callable P L f) (hxs:∀ x∈xs,ExtOk P wr x.1 x.2) {o:Oper}(h:(plainOp P wr o.op||askCall fs xs o.op)=true):fineOp P wr L o:=by
 rcases Bool.or_eq_true_iff.1 h with h|h;exact fine_plain h
 .unfold askCall at h
  split at h
  .rename_i f args ats e
   rcases Bool.or_eq_true_iff.1 h with h|h
   .obtain ⟨hL,fn,h1,h2,h3⟩:=hfs f (by simpa using h)
    exact fine_call e h1 h2 h3 hL
   exact fine_extern e (hxs (f,args.size) (by simpa using h))
  cases h
theorem fineCode_ask (hfs:∀ f∈fs,Callable P L f) (hxs:∀ x∈xs,ExtOk P wr x.1 x.2):∀ {c:Code},askCode P wr fs xs c=true->fineCode P wr L c:=by
 intro c;induction c with
 |seq a b iha ihb=>intro h;simp only[askCode,Bool.and_eq_true] at h;exact ⟨iha h.1,ihb h.2⟩
 |cond o a b iha ihb=>intro h;simp only[askCode,Bool.and_eq_true] at h;exact ⟨iha h.1,ihb h.2⟩
 |block id c ih=>intro h;exact ih h
 |loop c ih=>intro h;exact ih h
 |region id ops d =>intro h;simp only[askCode,Array.all_eq_true_iff_forall_mem] at h;exact λo ho=>fineOp_ask hfs hxs (h o ho)
 |skip=>intro _;trivial
 |ret=>intro _;trivial
 |label l=>intro _;trivial
 |exit id=>intro _;trivial
 |_=>intro h;simp[askCode] at h
theorem fineFn_ask (hfs:∀ f∈fs,Callable P L f) (hxs:∀ x∈xs,ExtOk P wr x.1 x.2) {f:FuncId}{fn:Func}{c:Code}(hf:P.funcs[f]? = some fn) (hb:fn.body=some c) (h:askCode P wr fs xs c=true):fineFn P wr L f :=
 ⟨fn,c,hf,hb,fineCode_ask hfs hxs h,calm_results fn⟩
theorem args1 (h:∀ a,p #[a]) (args:Array Value) (hs:args.size=1):p args:=by
 obtain ⟨l⟩:=args
 match l,hs with
 | [a],_=>exact h a
theorem args2 (h:∀ a b,p #[a,b]) (args:Array Value) (hs:args.size=2):p args:=by
 obtain ⟨l⟩:=args
 match l,hs with
 | [a,b],_=>exact h a b
theorem args3 (h:∀ a b c,p #[a,b,c]) (args:Array Value) (hs:args.size=3):p args:=by
 obtain ⟨l⟩:=args
 match l,hs with
 | [a,b,c],_=>exact h a b c
end
end Go.Lift
namespace Go.Proofs.YtfjjoohflcchnaaDoor
open Go Go.Lift Go.Conc Go.RowKit
variable {z:Nat->Option Nat} {S:TS} {u v v' w:World} {c i:Nat} {t:Thr} {x:Int}
def plainFs:List FuncId:=[62,104,108,111,107,128,118,157,74,109,110,105,68,99,71,72,87,89,90,132]
def plainXs:List (FuncId×Nat):=[(129,2),(131,3),(130,1)]
def LT (f:FuncId):Prop:=f∈plainFs
theorem extT:∀ x∈plainXs,ExtOk Tryd.prog true x.1 x.2:=by intro x hx;simp only[plainXs,List.mem_cons,List.not_mem_nil,or_false] at hx;rcases hx with rfl|rfl|rfl;exact ⟨Tryd.f129,Extern.Atomic.swapT (.int .i64),Tryd.func129,by kernel_rfl,by kernel_rfl,by kernel_rfl,by kernel_rfl,args2 λa b=>calm_swapT rfl _ a b⟩;exact ⟨Tryd.f131,Extern.Atomic.casT (.int .i64),Tryd.func131,by kernel_rfl,by kernel_rfl,by kernel_rfl,by kernel_rfl,args3 λa b c=>calm_casT rfl _ a b c⟩;exact ⟨Tryd.f130,Extern.Atomic.loadT (.int .i64),Tryd.func130,by kernel_rfl,by kernel_rfl,by kernel_rfl,by kernel_rfl,args1 λa=>calm_loadT _ a⟩
theorem callT:∀ f∈plainFs,Callable Tryd.prog LT f:=by intro f hf;have hf':=hf;simp only[plainFs,List.mem_cons,List.not_mem_nil,or_false] at hf;rcases hf with rfl|rfl|rfl|rfl|rfl|rfl|rfl|rfl|rfl|rfl|rfl|rfl|rfl|rfl|rfl|rfl|rfl|rfl|rfl|rfl;exact ⟨hf',Tryd.f62,Tryd.func62,by kernel_rfl,by kernel_rfl⟩;exact ⟨hf',Tryd.f104,Tryd.func104,by kernel_rfl,by kernel_rfl⟩;exact ⟨hf',Tryd.f108,Tryd.func108,by kernel_rfl,by kernel_rfl⟩;exact ⟨hf',Tryd.f111,Tryd.func111,by kernel_rfl,by kernel_rfl⟩;exact ⟨hf',Tryd.f107,Tryd.func107,by kernel_rfl,by kernel_rfl⟩;exact ⟨hf',Tryd.f128,Tryd.func128,by kernel_rfl,by kernel_rfl⟩;exact ⟨hf',Tryd.f118,Tryd.func118,by kernel_rfl,by kernel_rfl⟩;exact ⟨hf',Tryd.f157,Tryd.func157,by kernel_rfl,by kernel_rfl⟩;exact ⟨hf',Tryd.f74,Tryd.func74,by kernel_rfl,by kernel_rfl⟩;exact ⟨hf',Tryd.f109,Tryd.func109,by kernel_rfl,by kernel_rfl⟩;exact ⟨hf',Tryd.f110,Tryd.func110,by kernel_rfl,by kernel_rfl⟩;exact ⟨hf',Tryd.f105,Tryd.func105,by kernel_rfl,by kernel_rfl⟩;exact ⟨hf',Tryd.f68,Tryd.func68,by kernel_rfl,by kernel_rfl⟩;exact ⟨hf',Tryd.f99,Tryd.func99,by kernel_rfl,by kernel_rfl⟩;exact ⟨hf',Tryd.f71,Tryd.func71,by kernel_rfl,by kernel_rfl⟩;exact ⟨hf',Tryd.f72,Tryd.func72,by kernel_rfl,by kernel_rfl⟩;exact ⟨hf',Tryd.f87,Tryd.func87,by kernel_rfl,by kernel_rfl⟩;exact ⟨hf',Tryd.f89,Tryd.func89,by kernel_rfl,by kernel_rfl⟩;exact ⟨hf',Tryd.f90,Tryd.func90,by kernel_rfl,by kernel_rfl⟩;exact ⟨hf',Tryd.f132,Tryd.func132,by kernel_rfl,by kernel_rfl⟩
theorem fineT:∀ f,LT f->fineFn Tryd.prog true LT f:=by
 intro f hf;simp only[LT,plainFs,List.mem_cons,List.not_mem_nil,or_false] at hf;rcases hf with rfl|rfl|rfl|rfl|rfl|rfl|rfl|rfl|rfl|rfl|rfl|rfl|rfl|rfl|rfl|rfl|rfl|rfl|rfl|rfl;exact fineFn_ask callT extT Tryd.func62 (c:=Tryd.f62.body.getD .skip) (by rfl) (by kernel_rfl);exact fineFn_ask callT extT Tryd.func104 (c:=Tryd.f104.body.getD .skip) (by rfl) (by kernel_rfl);exact fineFn_ask callT extT Tryd.func108 (c:=Tryd.f108.body.getD .skip) (by rfl) (by kernel_rfl);exact fineFn_ask callT extT Tryd.func111 (c:=Tryd.f111.body.getD .skip) (by rfl) (by kernel_rfl);exact fineFn_ask callT extT Tryd.func107 (c:=Tryd.f107.body.getD .skip) (by rfl) (by kernel_rfl);exact fineFn_ask callT extT Tryd.func128 (c:=Tryd.f128.body.getD .skip) (by rfl) (by kernel_rfl);exact fineFn_ask callT extT Tryd.func118 (c:=Tryd.f118.body.getD .skip) (by rfl) (by kernel_rfl);exact fineFn_ask callT extT Tryd.func157 (c:=Tryd.f157.body.getD .skip) (by rfl) (by kernel_rfl);exact fineFn_ask callT extT Tryd.func74 (c:=Tryd.f74.body.getD .skip) (by rfl) (by kernel_rfl);exact fineFn_ask callT extT Tryd.func109 (c:=Tryd.f109.body.getD .skip) (by rfl) (by kernel_rfl);exact fineFn_ask callT extT Tryd.func110 (c:=Tryd.f110.body.getD .skip) (by rfl) (by kernel_rfl);exact fineFn_ask callT extT Tryd.func105 (c:=Tryd.f105.body.getD .skip) (by rfl) (by kernel_rfl);exact fineFn_ask callT extT Tryd.func68 (c:=Tryd.f68.body.getD .skip) (by rfl) (by kernel_rfl)
 exact fineFn_ask callT extT Tryd.func99 (c:=Tryd.f99.body.getD .skip) (by rfl) (by kernel_rfl);exact fineFn_ask callT extT Tryd.func71 (c:=Tryd.f71.body.getD .skip) (by rfl) (by kernel_rfl);exact fineFn_ask callT extT Tryd.func72 (c:=Tryd.f72.body.getD .skip) (by rfl) (by kernel_rfl);exact fineFn_ask callT extT Tryd.func87 (c:=Tryd.f87.body.getD .skip) (by rfl) (by kernel_rfl);exact fineFn_ask callT extT Tryd.func89 (c:=Tryd.f89.body.getD .skip) (by rfl) (by kernel_rfl);exact fineFn_ask callT extT Tryd.func90 (c:=Tryd.f90.body.getD .skip) (by rfl) (by kernel_rfl);exact fineFn_ask callT extT Tryd.func132 (c:=Tryd.f132.body.getD .skip) (by rfl) (by kernel_rfl)
theorem run40 (cb o:Nat) (x:Int) (w:World) (h:w.cell? ⟨cb,o,none⟩=some (I x)):(callFunc 130 #[Pt cb o]).run Tryd.prog w=.ok (.value (I x)) w :=
 run_call_load Tryd.func130 (by kernel_rfl) (by kernel_rfl) (by kernel_rfl) .i64 (by kernel_rfl) h
theorem run36 (cb o:Nat) (x y:Int) (w:World) (h:w.cell? ⟨cb,o,none⟩=some (I x)) (hf:w.frozen? ⟨cb,o,none⟩=false):(callFunc 129 #[Pt cb o,I y]).run Tryd.prog w=.ok (.value (I x)) (w.setCell ⟨cb,o,none⟩ (I y)):=by
 rw[run_callFunc_extern Tryd.func129 (by kernel_rfl) (by kernel_rfl) (by kernel_rfl) (e:=Extern.Atomic.swapT (.int .i64)) (by kernel_rfl)];change (Sem.run Tryd.prog (do
  let a <-asAddr (Pt cb o)
  let old <-Extern.Atomic.read (.int .i64) a
  store a (I y) .atomic
  pure old) w).andThen _=_
 simp[Extern.Atomic.read,asAddr,h,hf,run_store Tryd.prog w ⟨cb,o,none⟩ (I y) .atomic rfl,Result.andThen]
theorem run39 (cb o:Nat) (x y:Int) (w:World) (h:w.cell? ⟨cb,o,none⟩=some (I x)) (hf:w.frozen? ⟨cb,o,none⟩=false):(callFunc 131 #[Pt cb o,I x,I y]).run Tryd.prog w=.ok (.value (.bool true)) (w.setCell ⟨cb,o,none⟩ (I y)) :=
 run_call_cas_hit Tryd.func131 (by kernel_rfl) (by kernel_rfl) (by kernel_rfl) .i64 (by kernel_rfl) h hf
theorem run39n (cb o:Nat) (x x' y:Int) (w:World) (h:w.cell? ⟨cb,o,none⟩=some (I x)) (hf:w.frozen? ⟨cb,o,none⟩=false) (hne:¬ x=x'):(callFunc 131 #[Pt cb o,I x',I y]).run Tryd.prog w=.ok (.value (.bool false)) w :=
 run_call_cas_miss Tryd.func131 (by kernel_rfl) (by kernel_rfl) (by kernel_rfl) .i64 (by kernel_rfl) h hf hne
theorem body29 (cb:Nat) (x:Int) (w:World) (h:w.cell? ⟨cb,1,none⟩=some (I x)):Body Tryd.f107 #[Pt cb 1] w (λv w'=>v=I x∧w'=w):=by
 intro code hb;obtain rfl:=Qd hb;clear hb;simp only[Tryd.ntmps107,Sz,Nat.reduceAdd,Nat.reduceSub,Sy];have hq:=run40 cb 1 x w h
 go_wp2
 go_ret;exact ⟨_,rfl,rfl,rfl⟩
theorem body25 (cb:Nat) (x y:Int) (w:World) (h:w.cell? ⟨cb,1,none⟩=some (I x)) (hf:w.frozen? ⟨cb,1,none⟩=false):Body Tryd.f104 #[Pt cb 1,I y] w (λv w'=>v=I x∧w'=w.setCell ⟨cb,1,none⟩ (I y)):=by
 intro code hb;obtain rfl:=Qd hb;clear hb;simp only[Tryd.ntmps104,Sz,Nat.reduceAdd,Nat.reduceSub,Sy];have hq:=run36 cb 1 x y w h hf
 go_wp2
 go_ret;exact ⟨_,rfl,rfl,rfl⟩
theorem body28 (cb:Nat) (x y:Int) (w:World) (h:w.cell? ⟨cb,1,none⟩=some (I x)) (hf:w.frozen? ⟨cb,1,none⟩=false):Body Tryd.f111 #[Pt cb 1,I x,I y] w (λv w'=>v=.bool true∧w'=w.setCell ⟨cb,1,none⟩ (I y)):=by
 intro code hb;obtain rfl:=Qd hb;clear hb;simp only[Tryd.ntmps111,Sz,Nat.reduceAdd,Nat.reduceSub,Sy];have hq:=run39 cb 1 x y w h hf
 go_wp2
 go_ret;exact ⟨_,rfl,rfl,rfl⟩
theorem body28n (cb:Nat) (x x' y:Int) (w:World) (h:w.cell? ⟨cb,1,none⟩=some (I x)) (hf:w.frozen? ⟨cb,1,none⟩=false) (hne:¬ x=x'):Body Tryd.f111 #[Pt cb 1,I x',I y] w (λv w'=>v=.bool false∧w'=w):=by
 intro code hb;obtain rfl:=Qd hb;clear hb;simp only[Tryd.ntmps111,Sz,Nat.reduceAdd,Nat.reduceSub,Sy];have hq:=run39n cb 1 x x' y w h hf hne
 go_wp2
 go_ret;exact ⟨_,rfl,rfl,rfl⟩
theorem Rep.same (h:Rep z S v) (e:v'.heap=v.heap):Rep z S v' :=
 ⟨by rw[e];exact h.wor,λi t ht=>by rw[e];exact h.thr i t ht,own_stay (λ_ _=>by rw[e]) h.own,own_stay (λ_ _=>by rw[e]) h.chg,own_stay (λ_ _=>by rw[e]) h.ths,own_stay (λ_ _=>by rw[e]) h.sch,by rw[e];exact h.bs,h.apart,h.kept⟩
theorem Rep.cell (h:Rep z S v) (ht:S.thr[i]? = some t):v.cell? ⟨t.tb,0,none⟩=some (Pt S.wb 0)∧v.cell? ⟨t.tb,1,none⟩=some (I i)∧v.cell? ⟨t.tb,2,none⟩=some (.chan (some t.gc))∧v.cell? ⟨t.tb,3,none⟩=some (I t.st)∧v.cell? ⟨t.tb,4,none⟩=some (I t.ce)∧v.cell? ⟨t.tb,5,none⟩=some (I t.op)∧v.cell? ⟨t.tb,6,none⟩=some (I t.se):=by have:=h.thr i t ht;simp[World.cell?,this]
theorem Rep.wcell (h:Rep z S v):v.cell? ⟨S.wb,0,none⟩=some S.sc∧v.cell? ⟨S.wb,1,none⟩=some (I S.us)∧v.cell? ⟨S.wb,2,none⟩=some (I S.la)∧v.cell? ⟨S.wb,3,none⟩=some S.cv∧v.cell? ⟨S.wb,4,none⟩=some S.ths∧v.cell? ⟨S.wb,5,none⟩=some S.tv∧v.cell? ⟨S.wb,6,none⟩=some (.bool S.stk)∧v.cell? ⟨S.wb,7,none⟩=some (.bool S.ran)∧v.cell? ⟨S.wb,8,none⟩=some (.chan (some S.bk)):=by have:=h.wor;simp[World.cell?,this]
def noted (S:TS) (tv:Value) (i:Nat) (op ce ol ne:Int):TS:={ S with tv:=tv,n:=S.n+1,tr:=S.tr++[I i,I ce,I op,I ol,I ne] }
def counted (S:TS) (c:Nat):TS:={ S with chg:=S.chg.modify c (λx=>wrap64 (x+1)) }
def didS (S:TS) (tv:Value) (i:Nat) (t:Thr) (b a:Int):TS :=
 if b≠a∧0<=t.ce∧t.ce<S.chg.length then counted (noted S tv i t.op t.ce b a) t.ce.toNat else noted S tv i t.op t.ce b a
theorem Ev.same {S':TS}(h:Ev z S v S' u) (e1:v'.heap=u.heap) (e2:v'.os=u.os) (e4:v'.output=u.output):Ev z S v S' v' :=
 ⟨h.rep.same e1,⟨e2.trans h.fr.os,e4.trans h.fr.output,by rw[e1];exact h.fr.size,λb hb hs=>by rw[e1];exact h.fr.block b hb hs⟩,h.new⟩
theorem Ev.base {S':TS}(h:Ev z S u S' v') (e1:u.heap=v.heap) (e2:u.os=v.os) (e4:u.output=v.output):Ev z S v S' v' :=
 ⟨h.rep,⟨h.fr.os.trans e2,h.fr.output.trans e4,by rw[<-e1];exact h.fr.size,λb hb hs=>by rw[<-e1];exact h.fr.block b (by rw[e1];exact hb) hs⟩,λb hb=>by rw[<-e1];exact h.new b hb⟩
theorem own_form {base:Nat}{e:TypeId}{size:Nat}{v:Value}{n:Nat}{xs:List Value}(h:w.ownsRow base e size v n xs):∃ p cap,v=.slice p n cap:=by
 rcases h.2 with ⟨rfl,rfl⟩|⟨g,cap,cur,rfl,_⟩
 exact ⟨none,0,rfl⟩;exact ⟨_,cap,rfl⟩
theorem ints_cell {base:Nat}{v:Value}{l:List Int}(h:w.ownsRow base 3 1 v l.length (l.map I)) (hx:l[c]? = some x):∃ g cap,v=.slice (some ⟨g,0,none⟩) l.length cap∧w.cell? ⟨g,c,none⟩=some (I x)∧w.frozen? ⟨g,c,none⟩=false:=by
 have hc:c<l.length:=(Qc hx).1;rcases h.2 with ⟨rfl,h0⟩|⟨g,cap,cur,rfl,hb,hh,hle,_,hsz,htake⟩
 omega
 .refine ⟨g,cap,rfl,?_,by simp[World.frozen?,hh]⟩
  have e:(l.map I)[c]? = some (I x):=by simp[hx]
  rw[<-htake,Nat.mul_one,List.getElem?_take_of_lt hc] at e;simp only[World.cell?,hh,Option.isSome_none,Qh,if_false];simpa using e
theorem ints_set {base:Nat}{l:List Int}{g cap:Nat}(h:w.ownsRow base 3 1 (.slice (some ⟨g,0,none⟩) l.length cap) l.length (l.map I)) (hc:c<l.length) (f:Int->Int) (hx:l[c]? = some x):
 (w.setCell ⟨g,c,none⟩ (I (f x))).ownsRow base 3 1 (.slice (some ⟨g,0,none⟩) l.length cap) l.length ((l.modify c f).map I):=by
 rcases h.2 with ⟨h1,_⟩|⟨g',cap',cur,h1,hb,hh,hle,hm,hsz,htake⟩
 cases h1
 .cases h1
  have e:(l.modify c f)=l.set c (f x):=by
   apply List.ext_getElem?;intro j;rw[List.getElem?_modify,Qq];by_cases e:c=j
   .subst e
    have:l[c]=x:=by rw[Qf hc] at hx;exact Qd hx
    simp[hc,this]
   simp[e]
  refine ⟨?_,.inr ⟨g,cap,cur.setIfInBounds c (I (f x)),rfl,hb,heap_setCell_same hh _,hle,hm,by simpa using hsz,?_⟩⟩;simp
  .rw[e]
   rw[Array.toList_setIfInBounds,List.take_set,htake,List.map_set]
theorem count_rep (h:Rep z S v) {g cap:Nat}(hcv:S.cv=.slice (some ⟨g,0,none⟩) S.chg.length cap) (hx:S.chg[c]? = some x):Ev z S v (counted S c) (v.setCell ⟨g,c,none⟩ (I (wrap64 (x+1)))):=by
 have hc:c<S.chg.length:=(Qc hx).1;have hg:blk S 1=some g:=by show S.cv.ownBlock=_;rw[hcv];rfl
 have hst:∀ k b,blk S k=some b->k≠1->(v.setCell ⟨g,c,none⟩ (I (wrap64 (x+1)))).heap[b]? = v.heap[b]?:=λk b hk h1=>Below.heap_setCell _ _ _ _ (λe=>h1 (by subst e;exact h.apart k 1 _ hk hg));refine ⟨⟨?_,λj t ht=>?_,?_,?_,?_,?_,?_,h.apart,h.kept⟩,⟨rfl,rfl,by simp[World.setCell],λb _ hs=>Below.heap_setCell _ _ _ _ (λe=>hs ⟨1,by rw[e];exact hg⟩)⟩,λb hb=>.inl hb⟩
 .show (v.setCell _ _).heap[S.wb]? = _
  rw[hst 0 S.wb rfl (by omega)];exact h.wor
 .rw[hst (j+5) t.tb (by simp only[blk];rw[show S.thr[j]? = some t from ht];rfl) (by omega)]
  exact h.thr j t ht
 exact own_stay (λb hb=>hst 3 b hb (by omega)) h.own
 .show (v.setCell _ _).ownsRow S.base 3 1 S.cv (S.chg.modify c _).length ((S.chg.modify c _).map I)
  rw[List.length_modify,hcv];exact ints_set (by rw[<-hcv];exact h.chg) hc (λx=>wrap64 (x+1)) hx
 exact own_stay (λb hb=>hst 2 b hb (by omega)) h.ths;exact own_stay (λb hb=>hst 4 b hb (by omega)) h.sch
 .show S.base<=_
  simpa [World.setCell] using h.bs
theorem body27 (h:Rep z S v) (ht:S.thr[i]? = some t) (b a:Int) (hn:(S.n+1)*40<=140737488355328):
 Body Tryd.f108 #[Pt t.tb 0,I b,I a] v (λr v'=>r=.tuple #[]∧∃ tv',Ev z S v (didS S tv' i t b a) v'):=by
 intro code hb;obtain rfl:=Qd hb;clear hb;simp only[Tryd.ntmps108,Sz,Nat.reduceAdd,Nat.reduceSub,Sy];obtain ⟨c0,_,_,_,c4,c5,_⟩:=h.cell ht;have HR:Hid (Rep z S v):=⟨h⟩
 clear h;go_wp2_with fail
 go_region_held3 (λu=>u.cell? ⟨t.tb,4,none⟩=some (I t.ce)∧u.cell? ⟨t.tb,5,none⟩=some (I t.op))
  (first|(exact ⟨(Rep.cell (Ev.rep hev) (i:=i) (t:=t) ht).2.2.2.2.1,(Rep.cell (Ev.rep hev) (i:=i) (t:=t) ht).2.2.2.2.2.1⟩)|(simp[go_sem, *];done))
  (first
    |(go_at_call 128;refine ((note_rep (HR.out.same (v':=v.drew) rfl) ht t.op t.ce b a hn).calls Tryd.func128 rfl).mono ?_;rintro e w5 ⟨_,rfl,rfl,tv',hev⟩))
 have HE:Hid (Ev z S v (noted S tv' i t.op t.ce b a) w5):=⟨hev.base rfl rfl rfl⟩
 clear hev HR c0 c4 c5;rename_i hH;obtain ⟨k4,_⟩:=hH;have k0:w5.cell? ⟨t.tb,0,none⟩=some (Pt S.wb 0):=(HE.out.rep.cell (i:=i) (t:=t) ht).1;have k3:w5.cell? ⟨S.wb,3,none⟩=some S.cv:=HE.out.rep.wcell.2.2.2.1;have HN:Hid (¬ (b≠a∧0<=t.ce∧t.ce<S.chg.length)->∀ nq,Ev z S v (didS S tv' i t b a) (w5.drewN nq)):=⟨λhn nq=>by unfold didS;rw[if_neg hn];exact HE.out.same rfl rfl rfl⟩
 obtain ⟨p,cap,hcv⟩:=own_form HE.out.rep.chg;have hcv':S.cv=.slice p S.chg.length cap:=hcv;rw[hcv'] at k3;clear hcv;by_cases hba:b=a
 .have g1:(b != a)=false:=by simp[hba]
  have HB:Hid (b=a):=⟨hba⟩
  clear hba;go_wp2_with fail
  go_quiet (fail)
  go_wp2
  exact ⟨rfl,_,results_none rfl _ _ _,_,rfl,rfl,tv',HN.out (λh=>h.1 HB.out) _⟩
 .have g1:(b != a)=true:=by simp[hba]
  by_cases hce:t.ce<0
  .have g2:(decide (0<=t.ce))=false:=by simp;omega
   have HB:Hid (t.ce<0):=⟨hce⟩
   clear hba hce;go_wp2_with fail
   go_quiet (fail)
   go_wp2
   exact ⟨rfl,_,results_none rfl _ _ _,_,rfl,rfl,tv',HN.out (λh=>by have:=HB.out;omega) _⟩
  .have g2:(0:Int)<=t.ce:=by omega
   by_cases hlt:t.ce<S.chg.length
   .obtain ⟨c,hcc⟩:∃ c:Nat,t.ce=(c:Int):=⟨t.ce.toNat,by omega⟩
    have hcl:c<S.chg.length:=by omega
    obtain ⟨g,cap',e1,e2,e3⟩:=ints_cell HE.out.rep.chg (Qf (show c<(noted S tv' i t.op t.ce b a).chg.length from hcl));have e1':S.cv=.slice (some ⟨g,0,none⟩) S.chg.length cap':=e1;rw[hcv'] at e1';cases e1';have HC:Hid (t.ce=(c:Int)):=⟨hcc⟩
    have HB:Hid (b≠a∧0<=t.ce∧t.ce<S.chg.length):=⟨⟨hba,g2,hlt⟩⟩
    have e2':w5.cell? ⟨g,c,none⟩=some (I (S.chg[c])):=e2;generalize hx:S.chg[c]=x at e2';have HX:Hid (S.chg[c]? = some x):=⟨by rw[<-hx];exact Qf hcl⟩
    rw[hcc] at k4;have g4:(0:Int)<=(c:Int):=by omega
    have g5:(c:Int)<(S.chg.length:Int):=by omega
    clear hba hce hlt e1 e2 hx g2 hcc;go_wp2_with fail
    go_quiet (fail)
    go_wp2_with fail;have HS:Hid (∀ W:World,W.heap=w5.heap->W.os=w5.os->W.output=w5.output->Ev z S v (didS S tv' i t b a) (W.setCell ⟨g,c,none⟩ (I (wrap64 (x+1))))):=⟨λW q1 q2 q4=>by unfold didS;rw[if_pos HB.out,show t.ce.toNat=c by rw[HC.out];simp];exact (HE.out.same q1 q2 q4).trans (count_rep (HE.out.rep.same q1) hcv' HX.out)⟩
    go_region
    all_goals exact ⟨rfl,_,results_none rfl _ _ _,_,rfl,rfl,tv',HS.out _ rfl rfl rfl⟩
   .have g3:(decide (t.ce<(S.chg.length:Int)))=false:=by simpa using hlt
    have HB:Hid (¬ t.ce<S.chg.length):=⟨hlt⟩
    clear hba hce hlt;go_wp2_with fail
    go_quiet (fail)
    go_wp2
    exact ⟨rfl,_,results_none rfl _ _ _,_,rfl,rfl,tv',HN.out (λh=>by have:=HB.out;omega) _⟩
def Own (S:TS) (K:List (Nat×Int)) (b:Nat):Prop:=Its S b∨∃ (j:Nat) (c:Nat×Int),K[j]? = some c∧c.1=b
structure Mem (z:Nat->Option Nat) (S:TS) (K:List (Nat×Int)) (v:World):Prop where
 rep:Rep z S v
 cel:∀ (j:Nat) (c:Nat×Int),K[j]? = some c->v.heap[c.1]? = some (.cells #[I j,I c.2] 158 (0,0))
 far:∀ (j:Nat) (c:Nat×Int),K[j]? = some c->¬ Its S c.1
 inj:∀ (i j:Nat) (c d:Nat×Int),K[i]? = some c->K[j]? = some d->c.1=d.1->i=j
 len:S.chg.length=K.length
structure Evo (z:Nat->Option Nat) (S:TS) (K:List (Nat×Int)) (v:World) (S':TS) (K':List (Nat×Int)) (v':World):Prop where
 mem:Mem z S' K' v'
 blks:K'.map (·.1)=K.map (·.1)
 fr:Fr (Own S K) v v'
 new:∀ b,Own S' K' b->Own S K b∨v.heap.size<=b
section
variable {z:Nat->Option Nat}{S S' S'':TS}{K K' K'':List (Nat×Int)}{v v' v'':World}
theorem Mem.lt (h:Mem z S K v) {b:Nat}(hb:Own S K b):b<v.heap.size:=by
 rcases hb with ⟨k,hk⟩|⟨j,c,hc,rfl⟩
 exact h.rep.lt hk;exact (Qb (h.cel j c hc)).1
theorem Evo.refl (h:Mem z S K v):Evo z S K v S K v:=⟨h,rfl,Fr.refl _ _,λ_ hb=>.inl hb⟩
theorem Evo.trans (h:Evo z S K v S' K' v') (k:Evo z S' K' v' S'' K'' v''):Evo z S K v S'' K'' v'':=by
 refine ⟨k.mem,k.blks.trans h.blks,⟨k.fr.os.trans h.fr.os,k.fr.output.trans h.fr.output,Qk h.fr.size k.fr.size,λx hx hs=>?_⟩,λb hb=>?_⟩;rw[k.fr.block x (Qp hx h.fr.size) (λhi=>(h.new x hi).elim hs (λhle=>by omega)),h.fr.block x hx hs]
 .rcases k.new b hb with h1|h1
  exact h.new b h1;exact .inr (Qk h.fr.size h1)
theorem Evo.of_ev (h:Mem z S K v) (k:Ev z S v S' v') (hl:S'.chg.length=S.chg.length):Evo z S K v S' K v':=by
 have hst:∀ (j:Nat) (c:Nat×Int),K[j]? = some c->v'.heap[c.1]? = v.heap[c.1]?:=λj c hc=>k.fr.block c.1 (h.lt (.inr ⟨j,c,hc,rfl⟩)) (h.far j c hc);refine ⟨⟨k.rep,λj c hc=>by rw[hst j c hc];exact h.cel j c hc,λj c hc hi=>?_,h.inj,hl.trans h.len⟩,rfl,k.fr.mono (λ_ _ hx=>.inl hx),λb hb=>?_⟩
 .rcases k.new _ hi with h1|h1
  exact h.far j c hc h1;have:=h.lt (.inr ⟨j,c,hc,rfl⟩);omega
 .rcases hb with hb|hb
  exact (k.new b hb).imp .inl id;exact .inl (.inr hb)
theorem Mem.same (h:Mem z S K v) (e:v'.heap=v.heap):Mem z S K v' :=
 ⟨h.rep.same e,λj c hc=>by rw[e];exact h.cel j c hc,h.far,h.inj,h.len⟩
theorem Evo.same (h:Evo z S K v S' K' v') (e1:v''.heap=v'.heap) (e2:v''.os=v'.os) (e3:v''.output=v'.output):Evo z S K v S' K' v'' :=
 ⟨h.mem.same e1,h.blks,⟨e2.trans h.fr.os,e3.trans h.fr.output,by rw[e1];exact h.fr.size,λb hb hs=>by rw[e1];exact h.fr.block b hb hs⟩,h.new⟩
theorem Evo.base (h:Evo z S K u S' K' v') (e1:u.heap=v.heap) (e2:u.os=v.os) (e3:u.output=v.output):Evo z S K v S' K' v' :=
 ⟨h.mem,h.blks,⟨h.fr.os.trans e2,h.fr.output.trans e3,by rw[<-e1];exact h.fr.size,λb hb hs=>by rw[<-e1];exact h.fr.block b (by rw[e1];exact hb) hs⟩,λb hb=>by rw[<-e1];exact h.new b hb⟩
theorem Mem.cells (h:Mem z S K v) {j:Nat}{c:Nat×Int}(hc:K[j]? = some c):v.cell? ⟨c.1,0,none⟩=some (I j)∧v.cell? ⟨c.1,1,none⟩=some (I c.2)∧v.frozen? ⟨c.1,1,none⟩=false:=by have:=h.cel j c hc;simp[World.cell?,World.frozen?,this]
theorem Evo.write (h:Mem z S K v) {j cb:Nat}(hc:K[j]? = some (cb,x)) (y:Int):Evo z S K v S (K.set j (cb,y)) (v.setCell ⟨cb,1,none⟩ (I y)):=by
 have hj:j<K.length:=(Qc hc).1;have hst:∀ b,b≠cb->(v.setCell ⟨cb,1,none⟩ (I y)).heap[b]? = v.heap[b]?:=λb hb=>Below.heap_setCell _ _ _ _ hb;have hits:∀ k b,blk S k=some b->(v.setCell ⟨cb,1,none⟩ (I y)).heap[b]? = v.heap[b]?:=λk b hk=>hst b (λe=>h.far j _ hc ⟨k,by rw[hk,e]⟩);have hget:∀ (i:Nat) (c:Nat×Int),(K.set j (cb,y))[i]? = some c->(i=j∧c=(cb,y))∨(i≠j∧K[i]? = some c):=λi c hi=>by rw[Qq] at hi;by_cases e:j=i;subst e;rw[if_pos rfl,if_pos hj] at hi;exact .inl ⟨rfl,(Qd hi).symm⟩;rw[if_neg e] at hi;exact .inr ⟨λe'=>e e'.symm,hi⟩
 have hrep:Rep z S (v.setCell ⟨cb,1,none⟩ (I y)) :=
  ⟨by rw[hits 0 S.wb rfl];exact h.rep.wor,λi t ht=>by rw[hits (i+5) t.tb (by simp[blk,ht])];exact h.rep.thr i t ht,own_stay (λb hb=>hits 3 b hb) h.rep.own,own_stay (λb hb=>hits 1 b hb) h.rep.chg,own_stay (λb hb=>hits 2 b hb) h.rep.ths,own_stay (λb hb=>hits 4 b hb) h.rep.sch,
   by simpa [World.setCell] using h.rep.bs,h.rep.apart,h.rep.kept⟩
 refine ⟨⟨hrep,λi c hi=>?_,λi c hi=>?_,λi i' c d hi hi' e=>?_,by simpa using h.len⟩,?_,⟨rfl,rfl,by simp[World.setCell],λb _ hs=>hst b (λe=>hs (.inr ⟨j,_,hc,e.symm⟩))⟩,λb hb=>?_⟩
 .rcases hget i c hi with ⟨rfl,rfl⟩|⟨hne,hi⟩
  .have:=heap_setCell_same (o:=1) (h.cel i _ hc) (I y)
   simpa using this
  .rw[hst c.1 (λe=>hne (h.inj i j c _ hi hc e))]
   exact h.cel i c hi
 .rcases hget i c hi with ⟨rfl,rfl⟩|⟨hne,hi⟩
  exact h.far i (cb,x) hc;exact h.far i c hi
 .rcases hget i c hi with ⟨e1,e2⟩|⟨_,h1⟩<;>rcases hget i' d hi' with ⟨e3,e4⟩|⟨_,h2⟩
  rw[e1,e3];rw[e2] at e;rw[e1];exact h.inj j i' (cb,x) d hc h2 e;rw[e4] at e;rw[e3];exact h.inj i j c (cb,x) h1 hc e;exact h.inj i i' c d h1 h2 e
 .rw[List.map_set]
  apply List.ext_getElem?;intro i;rw[Qq];by_cases e:j=i
  .subst e
   have:K[j]=(cb,x):=by rw[Qf hj] at hc;exact Qd hc
   simp[hj,this]
  simp[e]
 .rcases hb with hb|⟨i,c,hi,rfl⟩
  exact .inl (.inl hb)
  .rcases hget i c hi with ⟨rfl,rfl⟩|⟨_,hi⟩
   exact .inl (.inr ⟨i,_,hc,rfl⟩);exact .inl (.inr ⟨i,c,hi,rfl⟩)
theorem didS_len (tv:Value) (i:Nat) (t:Thr) (b a:Int):(didS S tv i t b a).chg.length=S.chg.length:=by unfold didS;split;simp[counted,noted];rfl
def waiting (S:TS) (i:Nat) (t:Thr) (s o c:Int):TS:={ S with thr:=S.thr.set i { t with st:=s,ce:=c,op:=o,se:=chgOf S.chg c } }
theorem wait_ev (h:Rep z S v) (ht:S.thr[i]? = some t) (s o c:Int):Ev z S v (waiting S i t s o c) ((((v.setCell ⟨t.tb,3,none⟩ (I s)).setCell ⟨t.tb,5,none⟩ (I o)).setCell ⟨t.tb,4,none⟩ (I c)).setCell ⟨t.tb,6,none⟩ (I (chgOf S.chg c))):=by
 have hi:i<S.thr.length:=(Qc ht).1;have hbt:blk S (i+5)=some t.tb:=by simp[blk,ht]
 generalize hV:((((v.setCell ⟨t.tb,3,none⟩ (I s)).setCell ⟨t.tb,5,none⟩ (I o)).setCell ⟨t.tb,4,none⟩ (I c)).setCell ⟨t.tb,6,none⟩ (I (chgOf S.chg c)))=V;have hst:∀ b,b≠t.tb->V.heap[b]? = v.heap[b]?:=λb hb=>by rw[<-hV,Below.heap_setCell _ _ _ _ hb,Below.heap_setCell _ _ _ _ hb,Below.heap_setCell _ _ _ _ hb,Below.heap_setCell _ _ _ _ hb]
 have hrow:V.heap[t.tb]? = some (.cells (trow S.wb i t.gc s c o (chgOf S.chg c)) 107 (fz z t.tb)):=by rw[<-hV];have:=heap_setCell_same (o:=6) (heap_setCell_same (o:=4) (heap_setCell_same (o:=5) (heap_setCell_same (o:=3) (h.thr i t ht) (I s)) (I o)) (I c)) (I (chgOf S.chg c));simpa using this
 have hits:∀ k b,blk S k=some b->k≠i+5->V.heap[b]? = v.heap[b]?:=λk b hk hne=>hst b (λe=>hne (h.apart k (i+5) b hk (by rw[hbt,e])));have hget:∀ (j:Nat) (t':Thr),(waiting S i t s o c).thr[j]? = some t'->(j=i∧t'={ t with st:=s,ce:=c,op:=o,se:=chgOf S.chg c })∨(j≠i∧S.thr[j]? = some t'):=λj t' hj=>by simp only[waiting,Qq] at hj;by_cases e:i=j;subst e;rw[if_pos rfl,if_pos hi] at hj;exact .inl ⟨rfl,(Qd hj).symm⟩;rw[if_neg e] at hj;exact .inr ⟨λe'=>e e'.symm,hj⟩
 have hblk:∀ k,blk (waiting S i t s o c) k=blk S k:=λk=>by
  match k with
  |0=>rfl
  |1=>rfl
  |2=>rfl
  |3=>rfl
  |4=>rfl
  |k+5 =>
   simp only[blk,waiting,Qq];by_cases e:i=k
   .subst e
    have:S.thr[i]=t:=by rw[Qf hi] at ht;exact Qd ht
    simp[hi,this]
   simp[e]
 have hths:(waiting S i t s o c).thr.map (λt=>Pt t.tb 0)=S.thr.map (λt=>Pt t.tb 0):=by
  apply List.ext_getElem?;intro k;have:=hblk (k+5);simp only[blk] at this;rw[List.getElem?_map,List.getElem?_map];have e:∀ l:List Thr,(l[k]?).map (λt=>Pt t.tb 0)=((l[k]?).map (·.tb)).map (λb=>Pt b 0):=λl=>by cases l[k]?<;>rfl
  rw[e,e,this]
 refine ⟨⟨?_,λj t' hj=>?_,own_stay (λb hb=>hits 3 b hb (by omega)) h.own,own_stay (λb hb=>hits 1 b hb (by omega)) h.chg,?_,own_stay (λb hb=>hits 4 b hb (by omega)) h.sch,?_,λj k b hj hk=>?_,λb n hz=>?_⟩,⟨?_,?_,?_,λb hb hs=>?_⟩,λb ⟨k,hk⟩=>.inl ⟨k,by rw[<-hblk];exact hk⟩⟩
 .show V.heap[S.wb]? = _
  rw[hits 0 S.wb rfl (by omega)];exact h.wor
 .rcases hget j t' hj with ⟨rfl,rfl⟩|⟨hne,hj⟩
  exact hrow
  .rw[hits (j+5) t'.tb (by simp[blk,hj]) (by omega)]
   exact h.thr j t' hj
 .have:=own_stay (w':=V) (λb hb=>hits 2 b hb (by omega)) h.ths
  rw[hths];have e:(waiting S i t s o c).thr.length=S.thr.length:=by simp[waiting]
  rw[e];exact this
 .show S.base<=V.heap.size
  rw[<-hV];simpa [World.setCell] using h.bs
 exact h.apart j k b (by rw[<-hblk];exact hj) (by rw[<-hblk];exact hk)
 .rcases h.kept b n hz with h1|⟨j,t',hj,h2,h3⟩
  exact .inl h1
  .right
   by_cases e:j=i
   .subst e
    rw[ht] at hj;cases hj;exact ⟨j,{ t with st:=s,ce:=c,op:=o,se:=chgOf S.chg c },by simp[waiting,hi],h2,h3⟩
   exact ⟨j,t',by simp only[waiting,Qq];rw[if_neg (λe'=>e e'.symm)];exact hj,h2,h3⟩
 rw[<-hV];rfl;rw[<-hV];rfl;rw[<-hV];simp[World.setCell];exact hst b (λe=>hs ⟨i+5,by rw[hbt,e]⟩)
end
end Go.Proofs.YtfjjoohflcchnaaDoor
namespace Go.Lift
open Go.Conc
def Back (P:Program) (main:Bool) (g c':Goroutine):Prop:=∀ (D:World->World->Array Event->Prop) (Stop:Goroutine->World->Prop) (x:Value) (w:World),(∀ w,D w w #[])->GoesI P main D Stop c' w->GoesI P main D Stop (Go.Conc.served g x) w
theorem Back.then {P:Program}{main:Bool}{g c1 c2:Goroutine}(h:Back P main g c1) (hc:∀ (D:World->World->Array Event->Prop) (Stop:Goroutine->World->Prop) (w:World),(∀ w,D w w #[])->GoesI P main D Stop c2 w->GoesI P main D Stop c1 w):Back P main g c2 :=
 λD Stop x w hD hg=>h D Stop x w hD (hc D Stop w hD hg)
section
variable {P:Program}{main:Bool}{Stop:Goroutine->World->Prop}{k:List Item}{cs:List Frame}{w:World}{ops:Array Oper}{i:Nat}{rest:List Nat}{o:Oper}
theorem goesI_rest {z:Nat->Option Nat}{Ch:Nat->Prop}{L:FuncId->Prop}(hE:∀ fr cs dy g w,∃ o w',early P fr cs dy g w=.ended o w') (hL:∀ g,L g->fineFn P true L g)
 {f:FuncId} {fn:Func} {c:Code} {act:Act} {bc:Frame} {ac:Act} {R:Value->World->Prop} {v0:World} (hvw:Rel z v0 w) (hn:NoRow Ch v0) (hf:P.funcs[f]? = some fn) (hc:fineCode P true L c) (ha:act.defers=[]) (ho:ops[i]? = some o)
 (hres:∀ tmps,∃ v,(∀ w,(results fn tmps).run P w=.ok v w)∧∀ w,(results fn tmps).events P w #[]=#[])
 (hwp:∀ τ,c.wp P (bodyPost P fn (λe w'=>∃ v,e=.returned v∧R v w')) act (onTape v0 τ 0))
 (h:∀ v v' w',R v v'->Rel z v' w'->NoRow Ch v'->GoesI P main (DT (ScZ z) Ch) Stop (G (bc.at (ac.put o.dst v) (.inRegion ops rest :: k)) cs) w'):
 GoesI P main (DT (ScZ z) Ch) Stop (G ((base f).at act [.code c]) (bc.at ac (.inRegion ops (i :: rest) :: k) :: cs)) w:=by
 refine (lift_code (P:=P) (z:=z) (wr:=true) (L:=L) (D:=DT (ScZ z) Ch) (I:=NoRow Ch) (main:=main) (b:=base f) (k:=[]) (cs:=bc.at ac (.inRegion ops (i :: rest) :: k) :: cs) hE hL noRow_keeps
  (λv v' w w' es hi hr ho he=>dt_of_z v v' w w' es hi hr ho he) hvw hc ha (by simp[base]) hn hwp ?_).then ?_
 .intro e a w hq
  cases e with
  |normal=>exact .inl rfl
  |ret=>exact .inr rfl
  |panic ch=>obtain ⟨_,v,hv,_⟩:=hq;cases hv
  |outgrown=>obtain ⟨v,hv,_⟩:=hq;cases hv
  |_=>exact hq.elim
 .rintro g w' ⟨a',v',hr,hiv,hd,⟨⟨_,x,hx,y,hy,hR⟩,rfl⟩|⟨⟨_,x,hx,y,hy,hR⟩,todo,rfl⟩⟩
  .cases hy
   obtain ⟨v,hv1,hv2⟩:=hres a'.tmps;have:x=v:=by have:=hv1 v';rw[hx] at this;cases this;rfl
   subst this;refine goesI_end (dt_idle _ _) ?_;exact goesI_leave (b:=base f) (fn:=fn) rfl hd hf hv1 hv2 ho (dt_idle _ _) (h x v' w' hR hr hiv)
  .cases hy
   obtain ⟨v,hv1,hv2⟩:=hres a'.tmps;have:x=v:=by have:=hv1 v';rw[hx] at this;cases this;rfl
   subst this;exact goesI_leave (b:=base f) (fn:=fn) rfl hd hf hv1 hv2 ho (dt_idle _ _) (h x v' w' hR hr hiv)
end
end Go.Lift
namespace Go.Proofs.YtfjjoohflcchnaaDoor
open Go Go.Lift Go.Conc Go.RowKit
variable {bc:Frame} {ac:Act} {ops:Array Oper} {h i j:Nat} {rest:List Nat} {k:List Item} {z:Nat->Option Nat} {cont:Addr->Value} {oc:Oper} {v w:World} {S:TS} {K:List (Nat×Int)} {t:Thr}
def LW (f:FuncId):Prop:=f=157
theorem fineW:∀ f,LW f->fineFn Tryd.prog true LW f:=by rintro f rfl;exact fineFn_of (fs:=[]) (λ_ h=>by simp at h) Tryd.func157 (c:=Tryd.f157.body.getD .skip) (by rfl) (by kernel_rfl)
theorem callW:∀ f∈[157],Callable Tryd.prog LW f:=λf h=>by rcases List.mem_singleton.1 h with rfl;exact ⟨rfl,Tryd.f157,Tryd.func157,by decide,by rfl⟩
def seq1:Code->Code
 |.seq a _=>a
 |c=>c
def seq2:Code->Code
 |.seq _ b=>b
 |c=>c
def wait0:Code:=seq1 (Tryd.f127.body.getD .skip)
theorem fineWait0:fineCode Tryd.prog true LW wait0:=fineCode_of (fs:=[157]) callW (by kernel_rfl)
theorem wait0_wp (tb wb id gc:Nat) (s o c st0 ce0 op0 se0:Int) (f:Nat×Nat) (hf:f=(2,3)) (cv:Value) (l:List Int) (w:World) (ht:w.heap[tb]? = some (.cells (trow wb id gc st0 ce0 op0 se0) 107 f)) (h3:w.cell? ⟨wb,3,none⟩=some cv) (hr:IntRow w cv l):
 wait0.wp Tryd.prog (λe a w'=>e=.normal∧(∃ t12 t13 t14 t16 t17 t18 t19 t20 t21 t22 t23 t24 t25 t26 t27 t28,a={ tmps:=#[Pt tb 0,I s,I o,I c,undef,undef,undef,undef,Pt tb 0,Pt tb 0,Pt tb 0,Pt tb 0,t12,t13,t14,Pt tb 0,t16,t17,t18,t19,t20,t21,t22,t23,t24,t25,t26,t27,t28,undef,undef,undef,undef,undef,undef,undef,undef,undef,undef,undef,undef,undef],defers:=[] }) ∧
  w'=(((w.setCell ⟨tb,3,none⟩ (I s)).setCell ⟨tb,5,none⟩ (I o)).setCell ⟨tb,4,none⟩ (I c)).setCell ⟨tb,6,none⟩ (I (chgOf l c))) { tmps:=#[Pt tb 0,I s,I o,I c]++Array.replicate 38 undef,defers:=[] } w:=by
 have hlt:=(Qb ht).1;have c0:w.cell? ⟨tb,0,none⟩=some (Pt wb 0):=by simp[World.cell?,ht]
 have c3:w.cell? ⟨tb,3,none⟩=some (I st0):=by simp[World.cell?,ht]
 have c4:w.cell? ⟨tb,4,none⟩=some (I ce0):=by simp[World.cell?,ht]
 have c5:w.cell? ⟨tb,5,none⟩=some (I op0):=by simp[World.cell?,ht]
 have c6:w.cell? ⟨tb,6,none⟩=some (I se0):=by simp[World.cell?,ht]
 subst hf;have f3:w.frozen? ⟨tb,3,none⟩=false:=by simp[World.frozen?,ht]
 have f4:w.frozen? ⟨tb,4,none⟩=false:=by simp[World.frozen?,ht]
 have f5:w.frozen? ⟨tb,5,none⟩=false:=by simp[World.frozen?,ht]
 have f6:w.frozen? ⟨tb,6,none⟩=false:=by simp[World.frozen?,ht]
 have HR:Hid (IntRow w cv l):=⟨hr⟩
 clear hr ht hlt;show Code.wp Tryd.prog (seq1 (Tryd.f127.body.getD .skip)) _ _ _;simp only[Sy];unfold Tryd.f127 seq1;simp only[Qa]
 go_wp2_with (go_at_call 157;refine ((body51 wb c cv l _ h3 HR.out).calls Tryd.func157 rfl).mono ?_;rintro e w1 ⟨v,rfl,rfl,rfl⟩)
def opsOf:Code->Array Oper
 |.region _ ops _=>ops
 |_=>#[]
def ops372:Array Oper:=opsOf (seq2 (seq2 (Tryd.f127.body.getD .skip)))
def seatT (gc:Nat) (Hm:Goroutine->Prop):Seat:=Seat.one gc (.agg #[]) false Hm
theorem res37 (tmps:Array Value):∀ (w:World),(results Tryd.f127 tmps).run Tryd.prog w=.ok (.tuple #[]) w:=λ_=>results_none rfl _ _ _
theorem ev37 (tmps:Array Value):∀ (w:World),(results Tryd.f127 tmps).events Tryd.prog w #[]=#[]:=λ_=>by simp[results,go_sem]
theorem back37 {main:Bool}(tmps:Array Value) {o:Oper}{cs:List Frame}(ho:ops[i]? = some o):
 Back Tryd.prog main (G ((base 127).at { tmps:=tmps,defers:=[] } [.inRegion ops372 [4]]) (bc.at ac (.inRegion ops (i :: rest) :: k) :: cs)) (G (bc.at (ac.put o.dst (.tuple #[])) (.inRegion ops rest :: k)) cs):=by
 intro D Stop x w hD h;rw[served_fr,Frame.finish_at];refine goesI_regionEnd hD ?_;refine goesI_end hD ?_;refine goesI_leave (b:=base 127) (fn:=Tryd.f127) rfl ?_ Tryd.func127 (res37 _) (ev37 _) ho hD h;show (Act.put _ _ _).defers=[];unfold Act.put;split<;>rfl
def set4 (v:World) (tb:Nat) (s o c m:Int):World:=(((v.setCell ⟨tb,3,none⟩ (I s)).setCell ⟨tb,5,none⟩ (I o)).setCell ⟨tb,4,none⟩ (I c)).setCell ⟨tb,6,none⟩ (I m)
theorem wait_goes {Ch:Nat->Prop}{Stop:Goroutine->World->Prop}(tb wb id gc bk:Nat) (s o c st0 ce0 op0 se0:Int) (cv:Value) (l:List Int) (v w:World) (cs:List Frame) (Hm:Goroutine->Prop) (hoc:ops[i]? = some oc)
 (hH:∀ g,Back Tryd.prog (h==0) g (G (bc.at (ac.put oc.dst (.tuple #[])) (.inRegion ops rest :: k)) cs)->Hm g)
 (hvw:Rel z v w) (hn:NoRow Ch v) (hz:z tb=some 2) (ht:v.heap[tb]? = some (.cells (trow wb id gc st0 ce0 op0 se0) 107 (2,3))) (h3:v.cell? ⟨wb,3,none⟩=some cv) (hr:IntRow v cv l) (h8:v.cell? ⟨wb,8,none⟩=some (.chan (some bk))) (hne:tb≠wb)
 (hcont:cont ⟨tb,2,none⟩=.chan (some gc))
 (hstop:∀ g w',Lift.AtGive Tryd.prog (KC (ScZ z) cont) (StillC (ScZ z)) h bk (.agg #[]) (some (seatT gc Hm)) (λw'=>∃ v',Rel z v' w'∧NoRow Ch v'∧v'.heap=(set4 v tb s o c (chgOf l c)).heap∧v'.os=v.os∧v'.output=v.output) g w'->Stop g w')
 (code:Code) (hc:Tryd.f127.body=some code):
 GoesI Tryd.prog (h==0) (DT (ScZ z) Ch) Stop (G ((base 127).at { tmps:=#[Pt tb 0,I s,I o,I c]++Array.replicate 38 undef,defers:=[] } [.code code]) (bc.at ac (.inRegion ops (i :: rest) :: k) :: cs)) w:=by
 have hw0:code=.seq wait0 (seq2 (Tryd.f127.body.getD .skip)):=by rw[hc];obtain rfl:=Qd hc;rfl
 subst hw0;clear hc;refine goesI_seq (dt_idle _ _) ?_;refine goesI_plain (z:=z) (wr:=true) (L:=LW) (I:=NoRow Ch) hE fineW noRow_keeps (λv v' w w' es hi hr ho he=>dt_of_z v v' w w' es hi hr ho he) hvw fineWait0 rfl (by simp[base]) hn
  (Q:=λa w'=>(∃ t12 t13 t14 t16 t17 t18 t19 t20 t21 t22 t23 t24 t25 t26 t27 t28,a={ tmps:=#[Pt tb 0,I s,I o,I c,undef,undef,undef,undef,Pt tb 0,Pt tb 0,Pt tb 0,Pt tb 0,t12,t13,t14,Pt tb 0,t16,t17,t18,t19,t20,t21,t22,t23,t24,t25,t26,t27,t28,undef,undef,undef,undef,undef,undef,undef,undef,undef,undef,undef,undef,undef],defers:=[] }) ∧
    w'.heap=(set4 v tb s o c (chgOf l c)).heap∧w'.os=v.os∧w'.output=v.output) (λτ=>?_) ?_
 exact wp_mono (wait0_wp tb wb id gc s o c st0 ce0 op0 se0 (2,3) rfl cv l (onTape v τ 0) ht h3 hr) (λe a w' hq=>⟨hq.1,hq.2.1,by rw[hq.2.2];rfl,by rw[hq.2.2];rfl,by rw[hq.2.2];rfl⟩);rintro a' v' w' ⟨⟨t12,t13,t14,t16,t17,t18,t19,t20,t21,t22,t23,t24,t25,t26,t27,t28,rfl⟩,hv1,hv2,hv3⟩ hr' hn' -;have e0:w'.cell? ⟨tb,0,none⟩=some (Pt wb 0):=by
  rw[hr'.cell?];have:v.cell? ⟨tb,0,none⟩=some (Pt wb 0):=by simp[World.cell?,ht]
  rw[<-this];show v'.cell? _=_;unfold World.cell?;rw[hv1];exact (show (set4 v tb s o c (chgOf l c)).cell? ⟨tb,0,none⟩=v.cell? ⟨tb,0,none⟩ from by unfold set4;rw[World.cell?_setCell_other _ _ _ _ (by simp),World.cell?_setCell_other _ _ _ _ (by simp),World.cell?_setCell_other _ _ _ _ (by simp),World.cell?_setCell_other _ _ _ _ (by simp)])
 have e8:w'.cell? ⟨wb,8,none⟩=some (.chan (some bk)):=by
  rw[hr'.cell?,<-h8];unfold World.cell?;rw[hv1];exact (show (set4 v tb s o c (chgOf l c)).cell? ⟨wb,8,none⟩=v.cell? ⟨wb,8,none⟩ from by unfold set4;rw[World.cell?_setCell_far _ _ _ _ hne,World.cell?_setCell_far _ _ _ _ hne,World.cell?_setCell_far _ _ _ _ hne,World.cell?_setCell_far _ _ _ _ hne])
 have HF:Hid (∃ v',Rel z v' w'∧NoRow Ch v'∧v'.heap=(set4 v tb s o c (chgOf l c)).heap∧v'.os=v.os∧v'.output=v.output):=⟨⟨v',hr',hn',hv1,hv2,hv3⟩⟩
 clear hv1 hv2 hv3 hr' hn' hvw hn ht h3 hr h8;show GoesI Tryd.prog (h==0) (DT (ScZ z) Ch) Stop (G ((base 127).at _ [.code (seq2 (Tryd.f127.body.getD .skip))]) (bc.at ac (.inRegion ops (i :: rest) :: k) :: cs)) w';unfold Tryd.f127 seq2;simp only[Qa];refine goesI_seq (dt_idle _ _) ?_;refine goesI_region (dt_idle _ _) ?_;simp only[Sz,Sr,Nat.reduceAdd];iterate 8
  (refine goesI_oper rfl rfl (by decide) (λd K hK=>?_)
   go_simp;refine hK _ _ ⟨dt_reads (λe he=>?_),GoesI.at ?_ d⟩
   .have hm:=mem_listed he
    simp[go_sem, *] at hm
    try exact ⟨_,_,hm⟩
   clear hK K)
 refine GoesI.stop λd=>hstop _ _ (give_at (z':=.tuple #[]) 7 (tb+1) rfl rfl (by decide) (λw=>by simp[execOp,scase,Act.eval]) (λw=>by simp[go_sem,execOp,Act.eval]) ?_ (Nat.succ_le_of_lt (World.block_lt_of_cell? _ _ e0)) (λB hB T hT=>?_))
 .obtain ⟨v',k1,k2⟩:=HF.out
  exact ⟨v',k1.re rfl rfl rfl rfl rfl rfl,k2⟩
 .clear HF hstop e0 e8
  refine .inl ⟨6,w',rfl,?_⟩;rw[served_fr,Frame.finish_at]
  k_c stepG_region_end
  k_reg
  iterate 3
   (k_in
    refine goes_oper_k rfl rfl (by decide) (λK hK=>?_);go_simp;refine hK _ _ ⟨⟨rfl,λe he=>by (have hm:=mem_listed he;simp[go_sem, *] at hm)⟩,?_⟩;clear hK K)
  k_in
  have q2:=h₁ ⟨tb,2,none⟩ ⟨rfl,hz⟩;rw[hcont] at q2;refine goes_oper_k rfl rfl (by decide) (λK hK=>?_);go_simp;refine hK _ _ ⟨⟨rfl,λe he=>by (have hm:=mem_listed he;simp[go_sem, *] at hm;subst hm;exact evC_read _ ⟨_,rfl,rfl,hz⟩ (by simp;omega))⟩,?_⟩;clear hK K;refine Goes.stop λw₂ h₂=>⟨_,atIn_of (s:=seatT gc Hm) rfl rfl (by decide) (λw=>?_) (λw=>?_) (hH _ (back37 _ hoc))⟩
  .simp[go_sem,execOp,rcase,Act.eval,seatT,Seat.one]
  .simp[go_sem,execOp,Act.eval]
theorem res26 (tmps:Array Value):∀ (w:World),(results Tryd.f106 tmps).run Tryd.prog w=.ok (.tuple #[]) w:=λ_=>results_none rfl _ _ _
theorem ev26 (tmps:Array Value):∀ (w:World),(results Tryd.f106 tmps).events Tryd.prog w #[]=#[]:=λ_=>by simp[results,go_sem]
def GiveT (z:Nat->Option Nat) (cont:Addr->Value) (h bk gc:Nat) (Hm:Goroutine->Prop) (F:World->Prop):Goroutine->World->Prop:=Lift.AtGive Tryd.prog (KC (ScZ z) cont) (StillC (ScZ z)) h bk (.agg #[]) (some (seatT gc Hm)) F
theorem turn_goes {Ch:Nat->Prop}{Stop:Goroutine->World->Prop}(tb wb id gc bk:Nat) (o c st0 ce0 op0 se0:Int) (cv:Value) (l:List Int) (v w:World) (cs:List Frame) (Hm:Goroutine->Prop) (hoc:ops[i]? = some oc)
 (hH:∀ g,Back Tryd.prog (h==0) g (G (bc.at (ac.put oc.dst (.tuple #[])) (.inRegion ops rest :: k)) cs)->Hm g)
 (hvw:Rel z v w) (hn:NoRow Ch v) (hz:z tb=some 2) (ht:v.heap[tb]? = some (.cells (trow wb id gc st0 ce0 op0 se0) 107 (2,3))) (h3:v.cell? ⟨wb,3,none⟩=some cv) (hr:IntRow v cv l) (h8:v.cell? ⟨wb,8,none⟩=some (.chan (some bk))) (hne:tb≠wb)
 (hcont:cont ⟨tb,2,none⟩=.chan (some gc))
 (hstop:∀ g w',GiveT z cont h bk gc Hm (λw'=>∃ v',Rel z v' w'∧NoRow Ch v'∧v'.heap=(set4 v tb 1 o c (chgOf l c)).heap∧v'.os=v.os∧v'.output=v.output) g w'->Stop g w')
 (code:Code) (hc:Tryd.f106.body=some code):
 GoesI Tryd.prog (h==0) (DT (ScZ z) Ch) Stop (G ((base 106).at { tmps:=#[Pt tb 0,I c,I o]++Array.replicate 12 undef,defers:=[] } [.code code]) (bc.at ac (.inRegion ops (i :: rest) :: k) :: cs)) w:=by
 obtain rfl:=Qd hc;clear hc;have e0:v.cell? ⟨tb,0,none⟩=some (Pt wb 0):=by simp[World.cell?,ht]
 have HT:Hid (v.heap[tb]? = some (.cells (trow wb id gc st0 ce0 op0 se0) 107 (2,3))):=⟨ht⟩
 clear ht;simp only[Sy];refine goesI_seq (dt_idle _ _) ?_;refine goesI_look hE fineW hvw hn (fineCode_of (fs:=[]) (λ_ h=>by simp at h) (by kernel_rfl)) rfl (by simp[base])
  (a':={ tmps:=#[Pt tb 0,I c,I o,undef,undef,undef,Pt tb 0,Pt tb 0,Pt tb 0,Pt wb 0,.bool true,undef,undef,undef,undef],defers:=[] }) (λτ=>?_) (λw' hvw'=>?_)
 .have e0':(onTape v τ 0).cell? ⟨tb,0,none⟩=some (Pt wb 0):=e0
  go_wp2_with fail;exact ⟨rfl,rfl,rfl⟩
 clear hvw;refine goesI_cond (dt_idle _ _) (t:=true) rfl ?_;simp only[if_true];refine goesI_region (dt_idle _ _) ?_;simp only[Sz,Sr,Nat.reduceAdd];iterate 3
  (refine goesI_oper rfl rfl (by decide) (λd K hK=>?_)
   go_simp;refine hK _ _ ⟨dt_reads (λe he=>?_),GoesI.at ?_ d⟩
   .have hm:=mem_listed he
    simp[go_sem, *] at hm
   clear hK K)
 refine goesI_into (f:=127) (fn:=Tryd.f127) (args:=#[Pt tb 0,I 1,I o,I c]) (dt_idle _ _) rfl rfl (by decide) rfl (by simp[Act.eval]) Tryd.func127 (by decide) rfl ?_;refine wait_goes tb wb id gc bk 1 o c st0 ce0 op0 se0 cv l v w' _ Hm rfl (λg hg=>hH g (hg.then λD' St u hD' hu=>?_)) hvw' hn hz HT.out h3 hr h8 hne hcont hstop _ rfl;refine goesI_regionEnd hD' ?_;refine goesI_end hD' ?_;exact goesI_leave (b:=base 106) (fn:=Tryd.f106) rfl rfl Tryd.func106 (res26 _) (ev26 _) hoc hD' hu
theorem give_mono {bk gc:Nat}{Hm:Goroutine->Prop}{F F':World->Prop}{g:Goroutine}(hF:F w->F' w) (hg:GiveT z cont h bk gc Hm F g w):GiveT z cont h bk gc Hm F' g w :=
 ⟨hg.1,hF hg.2.1,hg.2.2⟩
theorem int_row {base:Nat}{v:Value}{l:List Int}(h:w.ownsRow base 3 1 v l.length (l.map I)):IntRow w v l:=by
 rcases h.2 with ⟨rfl,h0⟩|⟨g,cap,cur,rfl,hb,hh,hle,_,hsz,htake⟩
 exact .inl ⟨List.length_eq_zero_iff.1 h0,rfl⟩
 .refine .inr ⟨g,cap,rfl,λi x hx=>?_⟩
  have hc:i<l.length:=(Qc hx).1;have e:(l.map I)[i]? = some (I x):=by simp[hx]
  rw[<-htake,Nat.mul_one,List.getElem?_take_of_lt hc] at e;simp only[World.cell?,hh,Option.isSome_none,Qh,if_false];simpa using e
def Then (z:Nat->Option Nat) (Ch:Nat->Prop) (S:TS) (K:List (Nat×Int)) (v:World) (S':TS) (K':List (Nat×Int)) (w':World):Prop:=∃ v',Rel z v' w'∧NoRow Ch v'∧Evo z S K v S' K' v'
theorem turn_mem {Ch:Nat->Prop}{Stop:Goroutine->World->Prop}(o c:Int) (cs:List Frame) (Hm:Goroutine->Prop) (hoc:ops[j]? = some oc)
 (hH:∀ g,Back Tryd.prog (h==0) g (G (bc.at (ac.put oc.dst (.tuple #[])) (.inRegion ops rest :: k)) cs)->Hm g)
 (hvw:Rel z v w) (hn:NoRow Ch v) (hm:Mem z S K v) (ht:S.thr[i]? = some t) (hz:z t.tb=some 2) (hcont:cont ⟨t.tb,2,none⟩=.chan (some t.gc))
 (hstop:∀ g w',GiveT z cont h S.bk t.gc Hm (Then z Ch S K v (waiting S i t 1 o c) K) g w'->Stop g w') (code:Code) (hc:Tryd.f106.body=some code):
 GoesI Tryd.prog (h==0) (DT (ScZ z) Ch) Stop (G ((base 106).at { tmps:=#[Pt t.tb 0,I c,I o]++Array.replicate 12 undef,defers:=[] } [.code code]) (bc.at ac (.inRegion ops (j :: rest) :: k) :: cs)) w:=by
 have hrow:=hm.rep.thr i t ht;have hfz:fz z t.tb=(2,3):=by unfold fz;rw[hz]
 rw[hfz] at hrow;refine turn_goes t.tb S.wb i t.gc S.bk o c t.st t.ce t.op t.se S.cv S.chg v w cs Hm hoc hH hvw hn hz hrow hm.rep.wcell.2.2.2.1 (int_row hm.rep.chg) hm.rep.wcell.2.2.2.2.2.2.2.2 (λe=>by have:=hm.rep.apart 0 (i+5) S.wb rfl (by simp[blk,ht,e]);omega) hcont (λg w' hg=>hstop g w' (give_mono (λhF=>?_) hg)) code hc;obtain ⟨v',k1,k2,k3,k4,k5⟩:=hF;refine ⟨v',k1,k2,Evo.of_ev hm ((wait_ev hm.rep ht 1 o c).same k3 ?_ ?_) rfl⟩;rw[k4];rfl;rw[k5];rfl
def OpBack (main:Bool) (i j cb tb:Nat) (opn:Int) (eff:Int->(Int×Int)×Int×Value) (cl:Value->Goroutine) (g:Goroutine):Prop :=
 ∀ (z:Nat->Option Nat) (Ch:Nat->Prop) (Stop:Goroutine->World->Prop) (y:Value) (w v:World) (S:TS) (K:List (Nat×Int)) (t:Thr) (x:Int),Rel z v w->NoRow Ch v->Mem z S K v->S.thr[i]? = some t->t.tb=tb->t.op=opn->t.ce=(j:Int)->K[j]? = some (cb,x)->(S.n+1)*40<=140737488355328 ->
   (∀ v' w' tv,Rel z v' w'->NoRow Ch v'->Evo z S K v (didS S tv i t (eff x).1.1 (eff x).1.2) (K.set j (cb,(eff x).2.1)) v'->GoesI Tryd.prog main (DT (ScZ z) Ch) Stop (cl (eff x).2.2) w') ->
   GoesI Tryd.prog main (DT (ScZ z) Ch) Stop (Go.Conc.served g y) w
theorem Evo.did {K':List (Nat×Int)}{v1 v2:World}{tv:Value}{b a:Int}(h:Evo z S K v S K' v1) (k:Ev z S v1 (didS S tv i t b a) v2):Evo z S K v (didS S tv i t b a) K' v2 :=
 h.trans (Evo.of_ev h.mem k (didS_len _ _ _ _ _))
theorem bp_mono {fn:Func}{R R':Value->World->Prop}(h:∀ r w,R r w->R' r w) (e:Exit) (a:Act) (w:World) (hq:bodyPost Tryd.prog fn (λe w'=>∃ r,e=.returned r∧R r w') e a w):bodyPost Tryd.prog fn (λe w'=>∃ r,e=.returned r∧R' r w') e a w:=by
 cases e with
 |normal=>obtain ⟨q1,x,q2,y,q3,q4⟩:=hq;exact ⟨q1,x,q2,y,q3,h _ _ q4⟩
 |ret=>obtain ⟨q1,x,q2,y,q3,q4⟩:=hq;exact ⟨q1,x,q2,y,q3,h _ _ q4⟩
 |panic ch=>obtain ⟨q1,y,q3,q4⟩:=hq;cases q3
 |outgrown=>obtain ⟨y,q3,q4⟩:=hq;cases q3
 |_=>exact hq.elim
theorem set_same {α:Type}{l:List α}{c:α}(h:l[j]? = some c):l.set j c=l:=by apply List.ext_getElem?;intro i;rw[Qq];by_cases e:j=i;subst e;rw[if_pos rfl,if_pos (Qc h).1,h];rw[if_neg e]
def effLoad (x:Int):(Int×Int)×Int×Value:=((x,x),x,I x)
def rest17:Code:=seq2 (seq2 (Tryd.f73.body.getD .skip))
theorem fine17:fineCode Tryd.prog true LT rest17:=fineCode_ask callT extT (by kernel_rfl)
theorem tail17 {cb:Nat}{x:Int}(hm:Mem z S K v) (ht:S.thr[i]? = some t) (hK:K[j]? = some (cb,x)) (hn:(S.n+1)*40<=140737488355328) (a6 a7 a8 a9 a10 a11:Value):
 rest17.wp Tryd.prog (bodyPost Tryd.prog Tryd.f73 (λe w'=>∃ r,e=.returned r∧(r=(effLoad x).2.2∧∃ tv,Evo z S K v (didS S tv i t (effLoad x).1.1 (effLoad x).1.2) (K.set j (cb,(effLoad x).2.1)) w')))
  { tmps:=#[Pt cb 0,Pt t.tb 0,undef,undef,I 0,undef,a6,a7,a8,a9,a10,a11,undef,undef,undef,undef,undef,undef,undef,undef,undef],defers:=[] } v:=by
 obtain ⟨_,c1,f1⟩:=hm.cells hK;have HM:Hid (Mem z S K v):=⟨hm⟩
 have HW:Hid (Evo z S K v S (K.set j (cb,x)) v):=⟨by rw[set_same hK];exact Evo.refl hm⟩
 clear hm hK;simp only at c1 f1;show Code.wp Tryd.prog (seq2 (seq2 (Tryd.f73.body.getD .skip))) _ _ _;unfold Tryd.f73 seq2;simp only[Qa]
 go_wp2_with (first
  |(go_at_call 107;refine ((body29 cb x _ c1).calls Tryd.func107 rfl).mono ?_;rintro e w1 ⟨_,rfl,rfl,rfl⟩)
  |(go_at_call 108;refine ((body27 HW.out.mem.rep ht x x hn).calls Tryd.func108 rfl).mono ?_;rintro e w2 ⟨_,rfl,rfl,tv,hev⟩))
 go_ret;exact ⟨_,rfl,rfl,tv,HW.out.did hev⟩
theorem res17 (tmps:Array Value):∃ v,(∀ w,(results Tryd.f73 tmps).run Tryd.prog w=.ok v w)∧∀ w,(results Tryd.f73 tmps).events Tryd.prog w #[]=#[] :=
 ⟨_,λ_=>results_tmp rfl _ _ _,λ_=>by simp[results,go_sem]⟩
theorem load_goes {Ch:Nat->Prop}{Stop:Goroutine->World->Prop}{cb:Nat}(x:Int) (cs:List Frame) (Hm:Goroutine->Prop) {q:Nat}(hoc:ops[q]? = some oc)
 (hH:∀ g,OpBack (h==0) i j cb t.tb 1 effLoad (λr=>G (bc.at (ac.put oc.dst r) (.inRegion ops rest :: k)) cs) g->Hm g)
 (hvw:Rel z v w) (hn:NoRow Ch v) (hm:Mem z S K v) (ht:S.thr[i]? = some t) (hK:K[j]? = some (cb,x)) (hz:z t.tb=some 2) (hcont:cont ⟨t.tb,2,none⟩=.chan (some t.gc))
 (hstop:∀ g w',GiveT z cont h S.bk t.gc Hm (Then z Ch S K v (waiting S i t 1 1 j) K) g w'->Stop g w') (code:Code) (hc:Tryd.f73.body=some code):
 GoesI Tryd.prog (h==0) (DT (ScZ z) Ch) Stop (G ((base 73).at { tmps:=#[Pt cb 0,Pt t.tb 0]++Array.replicate 19 undef,defers:=[] } [.code code]) (bc.at ac (.inRegion ops (q :: rest) :: k) :: cs)) w:=by
 obtain rfl:=Qd hc;clear hc;have e0:w.cell? ⟨cb,0,none⟩=some (I j):=by rw[hvw.cell?];exact (hm.cells hK).1
 simp only[Sy];have HM:Hid (Mem z S K v):=⟨hm⟩
 clear hm;refine goesI_seq (dt_idle _ _) ?_;refine goesI_region (dt_idle _ _) ?_;simp only[Sz,Sr,Nat.reduceAdd]
 (refine goesI_oper rfl rfl (by decide) (λd K hK=>?_)
  go_simp;refine hK _ _ ⟨dt_reads (λe he=>?_),GoesI.at ?_ d⟩
  .have hm:=mem_listed he
   simp[go_sem, *] at hm
  clear hK K)
 refine goesI_regionEnd (dt_idle _ _) ?_;refine goesI_seq (dt_idle _ _) ?_;refine goesI_region (dt_idle _ _) ?_;simp only[Sz,Sr,Nat.reduceAdd];iterate 5
  (refine goesI_oper rfl rfl (by decide) (λd K hK=>?_)
   go_simp;refine hK _ _ ⟨dt_reads (λe he=>?_),GoesI.at ?_ d⟩
   .have hm:=mem_listed he
    simp[go_sem, *] at hm
    try exact ⟨_,_,hm⟩
   clear hK K)
 refine goesI_into (f:=106) (fn:=Tryd.f106) (args:=#[Pt t.tb 0,I j,I 1]) (dt_idle _ _) rfl rfl (by decide) rfl (by simp[Act.eval]) Tryd.func106 (by decide) rfl ?_;refine turn_mem 1 j _ Hm rfl (λg hg=>hH g ?_) hvw hn HM.out ht hz hcont hstop _ rfl;intro z1 Ch1 St yy w1 v1 S1 K1 t1 x1 r1 n1 m1 h1 htb hop hce hK1 hn1 hk;refine hg _ St yy w1 (dt_idle _ _) ?_;refine goesI_regionEnd (dt_idle _ _) ?_;rw[<-htb];refine goesI_rest (f:=73) (fn:=Tryd.f73) (c:=rest17) hE fineT r1 n1 Tryd.func73 fine17 rfl hoc res17 (λτ=>?_) (λr v' w' hR hr' hn'=>?_) (R:=λr w'=>r=(effLoad x1).2.2∧∃ tv,Evo z1 S1 K1 v1 (didS S1 tv i t1 (effLoad x1).1.1 (effLoad x1).1.2) (K1.set j (cb,(effLoad x1).2.1)) w');refine wp_mono (tail17 (m1.same (v':=onTape v1 τ 0) rfl) h1 hK1 hn1 _ _ _ _ _ _) (bp_mono λr u hq=>⟨hq.1,hq.2.choose,hq.2.choose_spec.base rfl rfl rfl⟩)
 .obtain ⟨rfl,tv,he⟩:=hR
  exact hk v' w' tv hr' hn' he
end Go.Proofs.YtfjjoohflcchnaaDoor
