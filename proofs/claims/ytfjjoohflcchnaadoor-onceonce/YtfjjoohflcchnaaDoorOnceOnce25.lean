/- OnceOnce, part 25 of 26: OnY, OnY2, SamA, GPts, OnAw1, OnAw2, OnAw3, GFin, La3c, GAe. -/
import Derived.Test.YtfjjoohflcchnaaDoorOnceOnce01
import Derived.Test.YtfjjoohflcchnaaDoorOnceOnce08
import Derived.Test.YtfjjoohflcchnaaDoorOnceOnce13
import Derived.Test.YtfjjoohflcchnaaDoorOnceOnce14
import Derived.Test.YtfjjoohflcchnaaDoorOnceOnce16
import Derived.Test.YtfjjoohflcchnaaDoorOnceOnce23
import Derived.Test.YtfjjoohflcchnaaDoorOnceOnce24
import Derived.Deep.RegionHeld3
import Derived.BigQuiet
import Derived.KernelRfl
set_option linter.unusedSimpArgs false
set_option linter.unusedVariables false
set_option maxHeartbeats 4000000
set_option maxRecDepth 100000
noncomputable section
namespace Go.Proofs.YtfjjoohflcchnaaDoor.Gen
open Go Go.Lift Go.Conc Go.RowKit
variable {k mb n sb xb:Nat} {u v w:World} {S S1:TS} {K:List (Nat×Int)} {bc:Frame} {ac:Act} {ops:Array Oper} {rest:List Nat} {oc:Oper}
def yB:Code:=Tryd.f18.body.getD .skip
def y0:Code:=seq1 yB
def y1:Code:=seq1 (seq2 yB)
def y2:Code:=seq1 (seq2 (seq2 yB))
def y3:Code:=seq1 (seq2 (seq2 (seq2 yB)))
def y4:Code:=seq1 (seq2 (seq2 (seq2 (seq2 yB))))
def yR:Code:=seq2 (seq2 (seq2 (seq2 (seq2 yB))))
theorem eYB:yB=.seq y0 (.seq y1 (.seq y2 (.seq y3 (.seq y4 yR)))):=by kernel_rfl
theorem fine_y0:fineCode Tryd.prog true LV y0:=fineCode_askS callV extT (by kernel_rfl)
theorem fine_y1:fineCode Tryd.prog true LV y1:=fineCode_askS callV extT (by kernel_rfl)
theorem fine_y2:fineCode Tryd.prog true LV y2:=fineCode_askS callV extT (by kernel_rfl)
theorem fine_y3:fineCode Tryd.prog true LV y3:=fineCode_askS callV extT (by kernel_rfl)
theorem fine_y4:fineCode Tryd.prog true LV y4:=fineCode_askS callV extT (by kernel_rfl)
section
variable {S:TS}{v:World}{a:Act}{n cap mb xb:Nat}{p:Option Addr}{m:Int}
theorem y0_wp (hA:Fl 40 [(0,Pt S.wb 0),(1,I m),(2,.slice p n cap)] a):y0.wp Tryd.prog (λe a w'=>e=.normal∧Fl 40 [(0,Pt S.wb 0),(2,.slice p n cap),(4,Pt v.heap.size 0),(6,.slice none 0 0),(7,I 0)] a∧w'.heap=v.heap.push (.cells #[I m] 3)∧w'.os=v.os∧w'.output=v.output) a v:=by
 obtain ⟨hsz,hd,hpp⟩:=hA;obtain ⟨u,rfl,hg⟩:=litN hsz hd;have u0:=(hg 0).symm.trans (hpp (0,Pt S.wb 0) (by simp));have u1:=(hg 1).symm.trans (hpp (1,I m) (by simp));have u2:=(hg 2).symm.trans (hpp (2,.slice p n cap) (by simp));clear hg hpp hsz hd;unfold y0 yB Tryd.f18 seq1;simp only[Qa,lits,Nat.reduceAdd,u0,u1,u2];clear u0 u1 u2;go_wp2_with fail;exact ⟨⟨rfl,rfl,by
  intro p hp;simp only[Sm,or_false] at hp;rcases hp with rfl|rfl|rfl|rfl|rfl<;>rfl⟩,rfl,rfl,rfl⟩
theorem y1_no (h:Rep zn S v) (pc:Nat->Option Addr) (ln cp:Nat->Nat) (hs:∀ k,k<n->∃ sb so,p=some ⟨sb,so,none⟩∧v.cell? ⟨sb,so+k,none⟩=some (.slice (pc k) (ln k) (cp k))) (hn:n<=17592186043904) (hr:S.ran=false) {E:Int}(hE:Refused n ln E) (hA:Fl 40 [(0,Pt S.wb 0),(2,.slice p n cap),(4,Pt mb 0),(6,.slice none 0 0),(7,I 0)] a):
 y1.wp Tryd.prog (λe a w'=>e=.ret∧∃ x,(results Tryd.f18 a.tmps).run Tryd.prog w'=.ok x w'∧x=.tuple #[.slice none 0 0,I E]∧w'.heap=v.heap∧w'.os=v.os∧w'.output=v.output) a v:=by
 have h19:=(body19 h p n cap hn pc ln cp hs).calls Tryd.func59 rfl;have H19:Hid (Calls Tryd.prog 59 #[Pt S.wb 0,.slice p n cap] v (λe w'=>e=.returned (I E)∧w'=v)):=⟨h19.mono (by
  rintro e w' ⟨r,rfl,rfl,⟨hk,rfl⟩|⟨hk,rfl⟩⟩
  .rcases hE with ⟨_,rfl⟩|⟨h1,_⟩
   exact ⟨rfl,rfl⟩
   .obtain ⟨k,k1,k2⟩:=hk
    exact absurd (h1 k k1) (by omega)
  .rcases hE with ⟨⟨k,k1,k2⟩,_⟩|⟨_,h1,rfl⟩
   exact absurd (hk k k1) (by omega)
   .refine ⟨?_,rfl⟩
    unfold checkE;rw[if_pos (h1.imp_right .inl)])⟩
 have hE0:¬ E=0:=by rcases hE with ⟨_,rfl⟩|⟨_,_,rfl⟩<;>decide
 clear h19 h hs hn hr hE;obtain ⟨hsz,hd,hpp⟩:=hA;obtain ⟨u,rfl,hg⟩:=litN hsz hd;have u0:=(hg 0).symm.trans (hpp (0,Pt S.wb 0) (by simp));have u2:=(hg 2).symm.trans (hpp (2,.slice p n cap) (by simp));have u4:=(hg 4).symm.trans (hpp (4,Pt mb 0) (by simp));have u6:=(hg 6).symm.trans (hpp (6,.slice none 0 0) (by simp));have u7:=(hg 7).symm.trans (hpp (7,I 0) (by simp));clear hg hpp hsz hd;unfold y1 yB Tryd.f18 seq1 seq2;simp only[Qa,lits,Nat.reduceAdd,u0,u2,u4,u6,u7];clear u0 u2 u4 u6 u7
 go_wp2_with (first
  |(go_at_call 59;refine H19.out.mono ?_;rintro e w1 ⟨rfl,rfl⟩))
 exact results_tmp2 (t:=6) (u:=7) rfl _ _ _
theorem y1_yes (h:Rep zn S v) (pc:Nat->Option Addr) (ln cp:Nat->Nat) (hs:∀ k,k<n->∃ sb so,p=some ⟨sb,so,none⟩∧v.cell? ⟨sb,so+k,none⟩=some (.slice (pc k) (ln k) (cp k))) (hln:∀ k,k<n->ln k<=64) (hn:0<n∧n<=8) (hr:S.ran=false) (hA:Fl 40 [(0,Pt S.wb 0),(2,.slice p n cap),(4,Pt mb 0),(6,.slice none 0 0),(7,I 0)] a):
 y1.wp Tryd.prog (λe a w'=>e=.normal∧Fl 40 [(0,Pt S.wb 0),(2,.slice p n cap),(4,Pt mb 0),(6,.slice none 0 0),(7,I 0)] a∧w'.heap=v.heap∧w'.os=v.os∧w'.output=v.output) a v:=by
 have h19:=(body19 h p n cap (by omega) pc ln cp hs).calls Tryd.func59 rfl;have he:checkE n S.ran=0:=by unfold checkE;rw[if_neg (by rw[hr];rintro (h|h|h)<;>first|omega|cases h)]
 have H19:Hid (Calls Tryd.prog 59 #[Pt S.wb 0,.slice p n cap] v (λe w'=>e=.returned (I 0)∧w'=v)):=⟨h19.mono (by rintro e w' ⟨r,rfl,rfl,⟨⟨k,hk,h1⟩,_⟩|⟨_,rfl⟩⟩;exact absurd (hln k hk) (by omega);rw[he];exact ⟨rfl,rfl⟩)⟩
 clear h19 h hs hln hn hr he;obtain ⟨hsz,hd,hpp⟩:=hA;obtain ⟨u,rfl,hg⟩:=litN hsz hd;have u0:=(hg 0).symm.trans (hpp (0,Pt S.wb 0) (by simp));have u2:=(hg 2).symm.trans (hpp (2,.slice p n cap) (by simp));have u4:=(hg 4).symm.trans (hpp (4,Pt mb 0) (by simp));have u6:=(hg 6).symm.trans (hpp (6,.slice none 0 0) (by simp));have u7:=(hg 7).symm.trans (hpp (7,I 0) (by simp));clear hg hpp hsz hd;unfold y1 yB Tryd.f18 seq1 seq2;simp only[Qa,lits,Nat.reduceAdd,u0,u2,u4,u6,u7];clear u0 u2 u4 u6 u7
 go_wp2_with (first
  |(go_at_call 59;refine H19.out.mono ?_;rintro e w1 ⟨rfl,rfl⟩))
 first
  |exact ⟨rfl,rfl,by
    intro p hp;simp only[Sm,or_false] at hp;rcases hp with rfl|rfl|rfl|rfl|rfl<;>rfl⟩
  |exact ⟨⟨rfl,rfl,by
    intro p hp;simp only[Sm,or_false] at hp;rcases hp with rfl|rfl|rfl|rfl|rfl<;>rfl⟩,rfl,rfl,rfl⟩
theorem y2_yes (h1:1<=m) (h2:m<=1000) (hmb:v.cell? ⟨mb,0,none⟩=some (I m)) (hA:Fl 40 [(0,Pt S.wb 0),(2,.slice p n cap),(4,Pt mb 0),(6,.slice none 0 0),(7,I 0)] a):y2.wp Tryd.prog (λe a w'=>e=.normal∧Fl 40 [(0,Pt S.wb 0),(2,.slice p n cap),(4,Pt mb 0),(6,.slice none 0 0),(7,I 0)] a∧w'.heap=v.heap∧w'.os=v.os∧w'.output=v.output) a v:=by
 have g1:decide (m<1)=false:=decide_eq_false (by omega);have g2:decide (m > 1000)=false:=decide_eq_false (by omega);have g3:¬ m<1:=by omega
 have g4:¬ m > 1000:=by omega
 obtain ⟨hsz,hd,hpp⟩:=hA;obtain ⟨u,rfl,hg⟩:=litN hsz hd;have u0:=(hg 0).symm.trans (hpp (0,Pt S.wb 0) (by simp));have u2:=(hg 2).symm.trans (hpp (2,.slice p n cap) (by simp));have u4:=(hg 4).symm.trans (hpp (4,Pt mb 0) (by simp));have u6:=(hg 6).symm.trans (hpp (6,.slice none 0 0) (by simp));have u7:=(hg 7).symm.trans (hpp (7,I 0) (by simp));clear hg hpp hsz hd;unfold y2 yB Tryd.f18 seq1 seq2;simp only[Qa,lits,Nat.reduceAdd,u0,u2,u4,u6,u7];clear u0 u2 u4 u6 u7;go_wp2_with fail;first
  |exact ⟨rfl,rfl,by
    intro p hp;simp only[Sm,or_false] at hp;rcases hp with rfl|rfl|rfl|rfl|rfl<;>rfl⟩
  |exact ⟨⟨rfl,rfl,by
    intro p hp;simp only[Sm,or_false] at hp;rcases hp with rfl|rfl|rfl|rfl|rfl<;>rfl⟩,rfl,rfl,rfl⟩
theorem y2_no1 (h1:m<1) (hmb:v.cell? ⟨mb,0,none⟩=some (I m)) (hA:Fl 40 [(0,Pt S.wb 0),(2,.slice p n cap),(4,Pt mb 0),(6,.slice none 0 0),(7,I 0)] a):y2.wp Tryd.prog (λe a w'=>e=.ret∧∃ x,(results Tryd.f18 a.tmps).run Tryd.prog w'=.ok x w'∧x=.tuple #[.slice none 0 0,I 1]∧w'.heap=v.heap∧w'.os=v.os∧w'.output=v.output) a v:=by have g1:decide (m<1)=true:=decide_eq_true h1;obtain ⟨hsz,hd,hpp⟩:=hA;obtain ⟨u,rfl,hg⟩:=litN hsz hd;have u0:=(hg 0).symm.trans (hpp (0,Pt S.wb 0) (by simp));have u2:=(hg 2).symm.trans (hpp (2,.slice p n cap) (by simp));have u4:=(hg 4).symm.trans (hpp (4,Pt mb 0) (by simp));have u6:=(hg 6).symm.trans (hpp (6,.slice none 0 0) (by simp));have u7:=(hg 7).symm.trans (hpp (7,I 0) (by simp));clear hg hpp hsz hd;unfold y2 yB Tryd.f18 seq1 seq2;simp only[Qa,lits,Nat.reduceAdd,u0,u2,u4,u6,u7];clear u0 u2 u4 u6 u7;go_wp2_with fail;exact results_tmp2 (t:=6) (u:=7) rfl _ _ _
theorem y2_no2 (h1:1000<m) (hmb:v.cell? ⟨mb,0,none⟩=some (I m)) (hA:Fl 40 [(0,Pt S.wb 0),(2,.slice p n cap),(4,Pt mb 0),(6,.slice none 0 0),(7,I 0)] a):y2.wp Tryd.prog (λe a w'=>e=.ret∧∃ x,(results Tryd.f18 a.tmps).run Tryd.prog w'=.ok x w'∧x=.tuple #[.slice none 0 0,I 1]∧w'.heap=v.heap∧w'.os=v.os∧w'.output=v.output) a v:=by
 have g1:decide (m<1)=false:=decide_eq_false (by omega);have g2:decide (m > 1000)=true:=decide_eq_true h1;have g3:¬ m<1:=by omega
 obtain ⟨hsz,hd,hpp⟩:=hA;obtain ⟨u,rfl,hg⟩:=litN hsz hd;have u0:=(hg 0).symm.trans (hpp (0,Pt S.wb 0) (by simp));have u2:=(hg 2).symm.trans (hpp (2,.slice p n cap) (by simp));have u4:=(hg 4).symm.trans (hpp (4,Pt mb 0) (by simp));have u6:=(hg 6).symm.trans (hpp (6,.slice none 0 0) (by simp));have u7:=(hg 7).symm.trans (hpp (7,I 0) (by simp));clear hg hpp hsz hd;unfold y2 yB Tryd.f18 seq1 seq2;simp only[Qa,lits,Nat.reduceAdd,u0,u2,u4,u6,u7];clear u0 u2 u4 u6 u7;go_wp2_with fail;exact results_tmp2 (t:=6) (u:=7) rfl _ _ _
end
theorem info46:(Tryd.prog.info? 46).map (λi=>(i.zero,i.size,i.bytes))=some (some (.pointer none),1,8):=by kernel_rfl
theorem make_onces (n:Nat) (hn:n<=1048576) (w:World):
 (Instr.makeSlice 99 (.int .i64 (n:Int)) (.int .i64 (n:Int))).run Tryd.prog w=.ok (.slice (some ⟨w.heap.size,0,none⟩) n n) (w.alloc (.cells (madeCells #[.pointer none] n) 46)):=by
 cases hq:Tryd.prog.info? 46 with
 |none=>have:=info46;rw[hq] at this;cases this
 |some i =>have hi:=info46;rw[hq] at hi;simp only[Option.map_some,Option.some.injEq,Prod.mk.injEq] at hi;obtain ⟨hz,hs,hb⟩:=hi;have:=run_make (P:=Tryd.prog) w 99 46 i _ Tryd.underlying99 hq hz .i64 .i64 (n:Int) (n:Int) (by omega) (by omega) (by rw[hb];omega) (by omega);rw[hs] at this;rw[this];simp[Value.cells]
def rowQ (s:Nat) (obs:List Nat):List Value:=(List.range s).map λj=>match obs[j]? with|some b=>Pt b 0|none=>.pointer none
def objQ (s:Nat) (obs:List Nat):Obj:=.cells (rowQ s obs).toArray 46 (0,0)
theorem made_rowQ (s:Nat):(.cells (madeCells #[.pointer none] s) 46:Obj)=objQ s []:=by
 unfold objQ rowQ
 congr 1
 apply Array.ext_getElem?;intro i;by_cases h:i<s;simp[madeCells,h,Nat.mod_one];simp[madeCells,h]
theorem rowQ_next {s:Nat}{obs:List Nat}(c:Nat) (hK:obs.length<s):(rowQ s obs).toArray.setIfInBounds obs.length (Pt c 0)=(rowQ s (obs++[c])).toArray:=by
 apply Array.ext_getElem?;intro i;unfold rowQ;rw[Array.getElem?_setIfInBounds];by_cases h:obs.length=i
 .subst h
  simp[hK]
 .rw[if_neg h]
  by_cases hi:i<s
  .by_cases hlt:i<obs.length
   .have e2:(obs++[c])[i]? = obs[i]?:=Qn hlt
    simp[hi,e2]
   .have h1:obs[i]? = none:=List.getElem?_eq_none (by omega)
    have h2:(obs++[c])[i]? = none:=List.getElem?_eq_none (by simp;omega);simp[hi,h1,h2]
  simp[hi]
theorem objQ_at {s:Nat}{obs:List Nat}{N:Nat}(h:w.heap[N]? = some (objQ s obs)) (hK:obs.length=k) (hk:k<s):w.cell? ⟨N,k,none⟩=some (.pointer none)∧w.frozen? ⟨N,k,none⟩=false:=by
 constructor
 .refine cell_of h ?_
  unfold rowQ;have:obs[k]? = none:=List.getElem?_eq_none (by omega);simp[hk,this]
 .simp only[World.frozen?,h,objQ]
  simp
structure OI (v:World) (S:TS) (m k sb xb mb:Nat) (pk:Nat->Option Obj) (S1:TS) (K:List (Nat×Int)) (u:World):Prop where
 objs:Objs v S (List.replicate (2*k) 0) pk S1 K u
 klen:K.length=2*k
 fl:∀ w,(∀ b o,b<v.heap.size->pk b=some o->w.heap[b]? = some o)->R1.Flds w
 var:pk xb=some (.cells #[.slice (some ⟨sb,0,none⟩) m m] 99 (0,0))
 many:pk mb=some (.cells #[I m] 3 (0,0))
 low:v.heap.size<=sb
 row:∃ obs:List Nat,obs.length=k∧pk sb=some (objQ m obs)∧∀ o b,obs[o]? = some b->∃ kp cw cv,pk b=some (.cells #[Pt kp 0] 105 (0,0))∧pk kp=some (.cells #[Pt cw 0,Pt cv 0] 146 (0,0))∧K[2*o]? = some (cw,0)∧K[2*o+1]? = some (cv,0)
theorem OI.same {m:Nat}{pk:Nat->Option Obj}{u':World}(h:OI v S m k sb xb mb pk S1 K u) (e:u'.heap=u.heap) (e1:u'.os=u.os) (e2:u'.output=u.output):OI v S m k sb xb mb pk S1 K u':=⟨h.objs.same e e1 e2,h.klen,h.fl,h.var,h.many,h.low,h.row⟩
theorem OI.next {m:Nat}{pk:Nat->Option Obj}{S2:TS}{w1:World}(h:OI v S m k sb xb mb pk S1 K u) (hk:k<m) {cw cv ob:Nat}(ho:u.heap.size<ob) (o2:Objs v S (List.replicate (2*k) 0++[0]++[0]) (padd (padd pk u.heap.size (.cells #[Pt cw 0,Pt cv 0] 146 (0,0))) ob (.cells #[Pt u.heap.size 0] 105 (0,0))) S2 (K++[(cw,0)]++[(cv,0)]) w1):∃ pk',OI v S m (k+1) sb xb mb pk' S2 (K++[(cw,0)]++[(cv,0)]) (w1.setCell ⟨sb,k,none⟩ (Pt ob 0)):=by
 have lt:∀ b o,pk b=some o->b<u.heap.size:=λb o hb=>(Qb (h.objs.has b o hb)).1;obtain ⟨obs,hl,hrow,hobs⟩:=h.row;have hsb:=lt _ _ hrow
 let pk1:=padd (padd pk u.heap.size (.cells #[Pt cw 0,Pt cv 0] 146 (0,0))) ob (.cells #[Pt u.heap.size 0] 105 (0,0))
 have old:∀ b o,pk b=some o->pk1 b=some o:=λb o hb=>by have:=lt b o hb;show padd (padd pk _ _) _ _ b=_;rw[padd_ne (by omega),padd_ne (by omega)];exact hb
 have hN:w1.heap[sb]? = some (objQ m obs):=o2.has sb _ (old _ _ hrow);have hrow2:(w1.setCell ⟨sb,k,none⟩ (Pt ob 0)).heap[sb]? = some (objQ m (obs++[ob])):=by have:=heap_setCell_same (o:=k) (show w1.heap[sb]? = some (.cells (rowQ m obs).toArray 46 (0,0)) from hN) (Pt ob 0);rw[<-hl,rowQ_next ob (by omega)] at this;rw[<-hl];exact this
 have o3:=o2.set (u':=w1.setCell ⟨sb,k,none⟩ (Pt ob 0)) (b:=sb) (o':=objQ m (obs++[ob])) (old _ _ hrow) h.low (λx hx=>Below.heap_setCell _ _ _ _ hx) hrow2 (by simp[World.setCell]) rfl rfl ⟨_,_,_,rfl⟩;have old2:∀ b o,b≠sb->pk b=some o->padd pk1 sb (objQ m (obs++[ob])) b=some o:=λb o hne hb=>by rw[padd_ne hne];exact old b o hb
 have eR:List.replicate (2*k) (0:Int)++[0]++[0]=List.replicate (2*(k+1)) 0:=by rw[show 2*(k+1)=2*k+1+1 by omega,List.replicate_succ',List.replicate_succ']
 rw[eR] at o3;have ne1:∀ (c:Array Value) (t:TypeId),t≠46->∀ b,pk b=some (.cells c t (0,0))->b≠sb:=λc t ht b hb e=>by subst e;rw[hrow] at hb;unfold objQ at hb;cases hb;exact ht rfl
 refine ⟨padd pk1 sb (objQ m (obs++[ob])),o3,by simp[h.klen];omega,λw hw=>h.fl w (λb o hlt hb=>hw b o hlt (old2 b o (by have:=h.low;omega) hb)),old2 _ _ (ne1 _ _ (by decide) _ h.var) h.var,old2 _ _ (ne1 _ _ (by decide) _ h.many) h.many,h.low,obs++[ob],by simp[hl],padd_at _ _ _,λo b hb=>?_⟩
 .rw[List.getElem?_append] at hb
  split at hb
  .rename_i hlt
   obtain ⟨kp,cw',cv',q1,q2,q3,q4⟩:=hobs o b hb;refine ⟨kp,cw',cv',old2 _ _ (ne1 _ _ (by decide) _ q1) q1,old2 _ _ (ne1 _ _ (by decide) _ q2) q2,?_,?_⟩;rw[List.append_assoc,Qn (Qc q3).1];exact q3;rw[List.append_assoc,Qn (Qc q4).1];exact q4
  .rename_i hge
   have e0:o=obs.length:=by have:=(Qc hb).1;simp at this;omega
   subst e0;simp at hb;subst hb;refine ⟨u.heap.size,cw,cv,?_,?_,?_,?_⟩;rw[padd_ne (by omega)];exact padd_at _ _ _
   .rw[padd_ne (by omega)]
    show padd (padd pk _ _) _ _ _=_;rw[padd_ne (by omega)];exact padd_at _ _ _
   rw[List.append_assoc,List.getElem?_append_right (by rw[h.klen,hl];exact Qi _),h.klen,hl];simp;rw[List.append_assoc,List.getElem?_append_right (by rw[h.klen,hl];omega),h.klen,hl,show 2*k+1 - 2*k=1 by omega];rfl
theorem y3_wp {a:Act}{cap m:Nat}{p:Option Addr}(h1:m<=1000) (hmb:v.cell? ⟨mb,0,none⟩=some (I m)) (hA:Fl 40 [(0,Pt S.wb 0),(2,.slice p n cap),(4,Pt mb 0),(6,.slice none 0 0),(7,I 0)] a):y3.wp Tryd.prog (λe a w'=>e=.normal∧Fl 40 [(0,Pt S.wb 0),(2,.slice p n cap),(4,Pt mb 0),(6,.slice none 0 0),(7,I 0),(9,Pt (v.heap.size+1) 0)] a∧w'.heap=((v.alloc (objQ m [])).alloc (.cells #[.slice (some ⟨v.heap.size,0,none⟩) m m] 99)).heap∧w'.os=v.os∧w'.output=v.output) a v:=by
 have hmk:=make_onces m (by omega);rw[made_rowQ] at hmk;obtain ⟨hsz,hd,hpp⟩:=hA;obtain ⟨u,rfl,hg⟩:=litN hsz hd;have u0:=(hg 0).symm.trans (hpp (0,Pt S.wb 0) (by simp));have u2:=(hg 2).symm.trans (hpp (2,.slice p n cap) (by simp));have u4:=(hg 4).symm.trans (hpp (4,Pt mb 0) (by simp));have u6:=(hg 6).symm.trans (hpp (6,.slice none 0 0) (by simp));have u7:=(hg 7).symm.trans (hpp (7,I 0) (by simp));clear hg hpp hsz hd;unfold y3 yB Tryd.f18 seq1 seq2;simp only[Qa,lits,Nat.reduceAdd,u0,u2,u4,u6,u7];clear u0 u2 u4 u6 u7;go_wp2_with fail;exact ⟨⟨rfl,rfl,by
  intro p hp;simp only[Sm,or_false] at hp;rcases hp with rfl|rfl|rfl|rfl|rfl|rfl<;>rfl⟩,rfl,rfl⟩
theorem y4_wp {a:Act}{cap m:Nat}{p:Option Addr}{pk:Nat->Option Obj}(h1:m<=1000) (hI:OI v S m 0 sb xb mb pk S1 K u) (hA:Fl 40 [(0,Pt S.wb 0),(2,.slice p n cap),(4,Pt mb 0),(6,.slice none 0 0),(7,I 0),(9,Pt xb 0)] a):y4.wp Tryd.prog (λe a w'=>e=.normal∧Fl 40 [(0,Pt S.wb 0),(2,.slice p n cap),(4,Pt mb 0),(6,.slice none 0 0),(7,I 0),(9,Pt xb 0)] a∧∃ pk S1 K,OI v S m m sb xb mb pk S1 K w') a u:=by
 have HI:Hid (OI v S m 0 sb xb mb pk S1 K u):=⟨hI⟩
 have c1:u.cell? ⟨xb,0,none⟩=some (.slice (some ⟨sb,0,none⟩) m m):=cell_of (hI.objs.has _ _ hI.var) rfl;clear hI;obtain ⟨hsz,hd,hpp⟩:=hA;obtain ⟨u,rfl,hg⟩:=litN hsz hd;have u0:=(hg 0).symm.trans (hpp (0,Pt S.wb 0) (by simp));have u2:=(hg 2).symm.trans (hpp (2,.slice p n cap) (by simp));have u4:=(hg 4).symm.trans (hpp (4,Pt mb 0) (by simp));have u6:=(hg 6).symm.trans (hpp (6,.slice none 0 0) (by simp));have u7:=(hg 7).symm.trans (hpp (7,I 0) (by simp));have u9:=(hg 9).symm.trans (hpp (9,Pt xb 0) (by simp));clear hg hpp hsz hd;unfold y4 yB Tryd.f18 seq1 seq2;simp only[Qa,lits,Nat.reduceAdd,u0,u2,u4,u6,u7,u9];clear u0 u2 u4 u6 u7 u9;go_wp2_with fail
 go_loopw [27] (λi u'=>∃ (k:Nat) (pk:Nat->Option Obj) (S1:TS) (K:List (Nat×Int)),k<=m∧i=.int .i64 k∧OI v S m k sb xb mb pk S1 K u') (λi _=>m - (intOf i).toNat)
 case atStart=>exact ⟨0,pk,S1,K,Nat.zero_le _,rfl,HI.out⟩
 case round =>
  obtain ⟨k,pk2,S2,K2,hk,rfl,hO⟩:=hrel;have HOB:Hid (OI v S m k sb xb mb pk2 S2 K2 wr):=⟨hO⟩
  by_cases hlt:k<m
  .have c1:wr.cell? ⟨xb,0,none⟩=some (.slice (some ⟨sb,0,none⟩) m m):=cell_of (hO.objs.has _ _ hO.var) rfl
   have hks:(k:Int)<(m:Int):=by omega
   have hne:sb≠xb:=λe=>by
    have h1:=hO.var;obtain ⟨obs,_,h2,_⟩:=hO.row;rw[<-e,h2] at h1;have h3:(46:Nat)=99:=by have:=Qd h1;unfold objQ at this;injection this
    exact absurd h3 (by decide)
   have hx:∀ (ww:World) (val:Value),(ww.setCell ⟨sb,k,none⟩ val).cell? ⟨xb,0,none⟩=ww.cell? ⟨xb,0,none⟩:=λww val=>World.cell?_setCell_far _ _ _ _ hne;clear hO;go_wp2_with fail
   go_region_held3 (λu=>u.cell? ⟨xb,0,none⟩=some (.slice (some ⟨sb,0,none⟩) m m))
    (first|assumption|(simp[go_sem, *];done))
    (first
      |(go_at_call 25;refine (once_new (HOB.out.same (u':=wr.drew) rfl rfl rfl).objs (by rw[List.length_replicate];omega)).mono ?_;rintro e w1 ⟨cw,cv,ob,rfl,hs1,hs2,S3,o2⟩
        have HO2:Hid (∃ pk',OI v S m (k+1) sb xb mb pk' S3 (K2++[(cw,0)]++[(cv,0)]) (w1.setCell ⟨sb,k,none⟩ (Pt ob 0))):=⟨(HOB.out.same (u':=wr.drew) rfl rfl rfl).next hlt hs1 o2⟩
        have lt:∀ b o,pk2 b=some o->b<wr.heap.size:=λb o hb=>(Qb (HOB.out.objs.has b o hb)).1;have oldv:∀ b o,pk2 b=some o->w1.heap[b]? = some o:=λb o hb=>o2.has b o (by have:=lt b o hb;have hs1:wr.heap.size<ob:=hs1;rw[padd_ne (by omega),padd_ne (by show b≠wr.heap.size;omega)];exact hb)
        have c2:w1.cell? ⟨xb,0,none⟩=some (.slice (some ⟨sb,0,none⟩) m m):=cell_of (oldv _ _ HOB.out.var) rfl;obtain ⟨obs,ol,orow,-⟩:=HOB.out.row;obtain ⟨c3,c4⟩:=objQ_at (oldv _ _ orow) ol hlt;clear o2 lt oldv hs1 hs2 obs ol orow))
   go_wp2_with fail
   go_roundw
   case rel =>obtain ⟨pk',hn⟩:=HO2.out;exact ⟨k+1,pk',S3,_,by omega,by go_num,hn⟩
   case measure=>simp[intOf];omega
  .have:k=m:=by omega
   subst this;clear hO;go_wp2_with fail;exact ⟨⟨rfl,rfl,by
    intro p hp;simp only[Sm,or_false] at hp;rcases hp with rfl|rfl|rfl|rfl|rfl|rfl<;>rfl⟩,pk2,S2,K2,HOB.out⟩
def QO (m:Nat) (caps:Array Value) (pk:Nat->Option Obj) (K:List (Nat×Int)):Prop :=
 0<m∧m<=1000∧∃ xb mb sb,caps=#[Pt xb 0,Pt mb 0]∧(∀ w,Has pk w->R1.Flds w)∧pk xb=some (.cells #[.slice (some ⟨sb,0,none⟩) m m] 99 (0,0))∧pk mb=some (.cells #[I m] 3 (0,0)) ∧
   ∃ obs:List Nat,obs.length=m∧pk sb=some (objQ m obs)∧∀ o b,obs[o]? = some b->∃ kp cw cv,pk b=some (.cells #[Pt kp 0] 105 (0,0))∧pk kp=some (.cells #[Pt cw 0,Pt cv 0] 146 (0,0))∧K[2*o]? = some (cw,0)∧K[2*o+1]? = some (cv,0)
theorem mineO (m:Nat) (caps:Array Value) (pk:Nat->Option Obj) (K:List (Nat×Int)) (h:QO m caps pk K) (X:Fix (mcO m)) (hf:X.fid=61) (hc:X.caps=caps) (hp:X.pk=pk) (hk:X.kb=K.map (·.1)):(pkgO m).Mine X:=by
 obtain ⟨h0,h1,xb,mb,sb,rfl,hfl,hx,hmb,obs,hl,hrow,hobs⟩:=h;subst hp;refine ⟨xb,mb,sb,hc,h0,h1,λv hv=>⟨hfl v hv,cell_of (hv _ _ hx) rfl,cell_of (hv _ _ hmb) rfl⟩,λo ho=>?_⟩;obtain ⟨b,hb⟩:∃ b,obs[o]? = some b:=⟨_,Qf (by omega)⟩
 obtain ⟨kp,cw,cv,q1,q2,q3,q4⟩:=hobs o b hb;refine ⟨b,kp,cw,cv,by rw[hk,List.getElem?_map,q3];rfl,by rw[hk,List.getElem?_map,q4];rfl,λv hv=>⟨cell_of (hv _ _ hrow) ?_,cell_of (hv _ _ q1) rfl,cell_of (hv _ _ q2) rfl,cell_of (hv _ _ q2) rfl⟩⟩;unfold rowQ;simp[ho,hb]
theorem kokO (m:Nat) (caps:Array Value) (pk:Nat->Option Obj) (K:List (Nat×Int)) (h:QO m caps pk K):KOk (mcO m) K:=λj p _=>trivial
theorem oplay_no {Ch:Nat->Prop}{Stop:Goroutine->World->Prop}{main:Bool}(m:Int) (p:Option Addr) (n cap:Nat) (pc:Nat->Option Addr) (ln cp:Nat->Nat) (hs:∀ k,k<n->∃ sb so,p=some ⟨sb,so,none⟩∧v.cell? ⟨sb,so+k,none⟩=some (.slice (pc k) (ln k) (cp k))) (hn1:n<=17592186043904) (hran:S.ran=false) (hm:Mem zn S [] v)
 {E:Int} (hRe:Refused n ln E∨((∀ k,k<n->ln k<=64)∧(0<n∧n<=8)∧(m<1∨1000<m)∧E=1)) (cs:List Frame) {q:Nat} {k:List Item} (hoc:ops[q]? = some oc)
 (hvw:Rel zn v w) (hn:NoRow Ch v)
 (hk:∀ v' w',Rel zn v' w'->NoRow Ch v'->Grows v v'->GoesI Tryd.prog main (DT (ScZ zn) Ch) Stop (G (bc.at (ac.put oc.dst (.tuple #[.slice none 0 0,I E])) (.inRegion ops rest :: k)) cs) w'):
 GoesI Tryd.prog main (DT (ScZ zn) Ch) Stop (G ((base 18).at { tmps:=#[Pt S.wb 0,I m,.slice p n cap]++Array.replicate 37 undef,defers:=[] } [.code yB]) (bc.at ac (.inRegion ops (q :: rest) :: k) :: cs)) w:=by
 have hA0:Fl 40 [(0,Pt S.wb 0),(1,I m),(2,.slice p n cap)] { tmps:=#[Pt S.wb 0,I m,.slice p n cap]++Array.replicate 37 undef,defers:=[] }:=by
  simp only[Sy];exact ⟨rfl,rfl,by
   intro p hp;simp only[Sm,or_false] at hp;rcases hp with rfl|rfl|rfl<;>rfl⟩
 rw[eYB];refine goesI_seq (dt_idle _ _) ?_;refine goesI_plain (z:=zn) (wr:=true) (L:=LV) (I:=NoRow Ch) hE fineV noRow_keeps (λv v' w w' es hi hr ho he=>dt_of_z v v' w w' es hi hr ho he) hvw fine_y0 hA0.2.1 (by simp[base]) hn (Q:=λa w'=>Fl 40 [(0,Pt S.wb 0),(2,.slice p n cap),(4,Pt v.heap.size 0),(6,.slice none 0 0),(7,I 0)] a∧w'.heap=v.heap.push (.cells #[I m] 3)∧w'.os=v.os∧w'.output=v.output) (λτ=>y0_wp (v:=onTape v τ 0) hA0) ?_;rintro a0 v0 w0 ⟨hB0,e0,o0,u0⟩ hr0 hn0 -;have g0:Grows v v0:=⟨by rw[e0];simp,λb hb=>by rw[e0,Qg,if_neg (by omega)],o0,u0⟩
 have m0:Mem zn S [] v0:=(hm.grows g0).mem;have hmb:v0.cell? ⟨v.heap.size,0,none⟩=some (I m):=by
  have:v0.heap[v.heap.size]? = some (.cells #[I m] 3):=by rw[e0];exact Qo
  exact cell_of this rfl
 have hs0:∀ τ,∀ k,k<n->∃ sb so,p=some ⟨sb,so,none⟩∧(onTape v0 τ 0).cell? ⟨sb,so+k,none⟩=some (.slice (pc k) (ln k) (cp k)):=λτ k hk=>by obtain ⟨sb,so,h1,h2⟩:=hs k hk;exact ⟨sb,so,h1,g0.cell h2⟩
 refine goesI_seq (dt_idle _ _) ?_;rcases hRe with hRe|⟨hE1,hE2,hE3,rfl⟩
 .refine goesI_outZ (c:=y1) (f:=18) (fn:=Tryd.f18) (L:=LV) hE fineV hr0 hn0 Tryd.func18 fine_y1 hB0.2.1 hoc (R:=λr w'=>r=.tuple #[.slice none 0 0,I E]∧w'.heap=v0.heap∧w'.os=v0.os∧w'.output=v0.output) (λτ=>y1_no (v:=onTape v0 τ 0) (m0.grows (v':=onTape v0 τ 0) ⟨Qi _,λ_ _=>rfl,rfl,rfl⟩).mem.rep pc ln cp (hs0 τ) hn1 hran hRe hB0) (λr v' w' hR hr' hn'=>?_)
  obtain ⟨rfl,h1,h2,h3⟩:=hR;exact hk v' w' hr' hn' (Am g0 ⟨by rw[h1];exact Qi _,λb _=>by rw[h1],h2,h3⟩)
 .refine goesI_plain (z:=zn) (wr:=true) (L:=LV) (I:=NoRow Ch) hE fineV noRow_keeps (λv v' w w' es hi hr ho he=>dt_of_z v v' w w' es hi hr ho he) hr0 fine_y1 hB0.2.1 (by simp[base]) hn0 (Q:=λa w'=>Fl 40 [(0,Pt S.wb 0),(2,.slice p n cap),(4,Pt v.heap.size 0),(6,.slice none 0 0),(7,I 0)] a∧w'.heap=v0.heap∧w'.os=v0.os∧w'.output=v0.output) (λτ=>y1_yes (v:=onTape v0 τ 0) (m0.grows (v':=onTape v0 τ 0) ⟨Qi _,λ_ _=>rfl,rfl,rfl⟩).mem.rep pc ln cp (hs0 τ) hE1 hE2 hran hB0) ?_
  rintro a1 v1 w1 ⟨hB1,e1,o1,u1⟩ hr1 hn1 -;have g1:Grows v0 v1:=⟨by rw[e1];exact Qi _,λb _=>by rw[e1],o1,u1⟩
  refine goesI_seq (dt_idle _ _) ?_;refine goesI_outZ (c:=y2) (f:=18) (fn:=Tryd.f18) (L:=LV) hE fineV hr1 hn1 Tryd.func18 fine_y2 hB1.2.1 hoc (R:=λr w'=>r=.tuple #[.slice none 0 0,I 1]∧w'.heap=v1.heap∧w'.os=v1.os∧w'.output=v1.output) (λτ=>hE3.elim (λh=>y2_no1 (v:=onTape v1 τ 0) h (g1.cell hmb) hB1) (λh=>y2_no2 (v:=onTape v1 τ 0) h (g1.cell hmb) hB1)) (λr v' w' hR hr' hn'=>?_);obtain ⟨rfl,h1,h2,h3⟩:=hR;exact hk v' w' hr' hn' (Am (Am g0 g1) ⟨by rw[h1];exact Qi _,λb _=>by rw[h1],h2,h3⟩)
theorem oplay_in {Ch:Nat->Prop}{Stop:Goroutine->World->Prop}{main:Bool}(m:Nat) (h0:0<m) (h1:m<=1000) {pk0:Nat->Option Obj}(hfl:∀ w,Has pk0 w->R1.Flds w) (hO:Objs v S [] pk0 S [] v) (hlt:∀ b,pk0 b≠none->b<v.heap.size) (p:Option Addr) (n cap:Nat) (hn8:0<n∧n<=8) (hran:S.ran=false) (pc:Nat->Option Addr) (ln cp:Nat->Nat) (hs:∀ k,k<n->∃ sb so,p=some ⟨sb,so,none⟩∧v.cell? ⟨sb,so+k,none⟩=some (.slice (pc k) (ln k) (cp k))) (hln:∀ k,k<n->ln k<=64)
 (cs:List Frame) {q:Nat} {k:List Item} (hoc:ops[q]? = some oc) (hvw:Rel zn v w) (hn:NoRow Ch v)
 (hk:∀ v' w' (bd:Frame) (ad:Act) (od:Array Oper) (qd:Nat) (rd:List Nat) (oe:Oper) (kd:List Item) (caps:Array Value) (pk:Nat->Option Obj) (S1:TS) (K:List (Nat×Int)),Rel zn v' w'->NoRow Ch v'->Objs v S (List.replicate (2*m) 0) pk S1 K v'->QO m caps pk K->od[qd]? = some oe ->
   (∀ (Ch:Nat->Prop) (Stop:Goroutine->World->Prop) (w:World) (x:Value),(∀ d,GoesI Tryd.prog main (DT (ScZ zn) Ch) Stop (G (bc.at (ac.put oc.dst (.tuple #[x,I 0])) (.inRegion ops rest :: k)) cs) (w.at d))->GoesI Tryd.prog main (DT (ScZ zn) Ch) Stop (G (bd.at (ad.put oe.dst x) (.inRegion od rd :: kd)) (bc.at ac (.inRegion ops (q :: rest) :: k) :: cs)) w) ->
   GoesI Tryd.prog main (DT (ScZ zn) Ch) Stop (G ((base 60).at { tmps:=#[Pt S.wb 0,.slice p n cap,.func (.func 61) ((mcO m).bn caps) ((mcO m).fr caps)]++Array.replicate 36 undef,defers:=[] } [.code B20]) (bd.at ad (.inRegion od (qd :: rd):: kd):: bc.at ac (.inRegion ops (q :: rest):: k):: cs)) w'):
 GoesI Tryd.prog main (DT (ScZ zn) Ch) Stop (G ((base 18).at { tmps:=#[Pt S.wb 0,I m,.slice p n cap]++Array.replicate 37 undef,defers:=[] } [.code yB]) (bc.at ac (.inRegion ops (q :: rest) :: k) :: cs)) w:=by
 have hm:=hO.cel.mem;have hA0:Fl 40 [(0,Pt S.wb 0),(1,I m),(2,.slice p n cap)] { tmps:=#[Pt S.wb 0,I m,.slice p n cap]++Array.replicate 37 undef,defers:=[] }:=by
  simp only[Sy];exact ⟨rfl,rfl,by
   intro p hp;simp only[Sm,or_false] at hp;rcases hp with rfl|rfl|rfl<;>rfl⟩
 rw[eYB];refine goesI_seq (dt_idle _ _) ?_;refine goesI_plain (z:=zn) (wr:=true) (L:=LV) (I:=NoRow Ch) hE fineV noRow_keeps (λv v' w w' es hi hr ho he=>dt_of_z v v' w w' es hi hr ho he) hvw fine_y0 hA0.2.1 (by simp[base]) hn (Q:=λa w'=>Fl 40 [(0,Pt S.wb 0),(2,.slice p n cap),(4,Pt v.heap.size 0),(6,.slice none 0 0),(7,I 0)] a∧w'.heap=v.heap.push (.cells #[I m] 3)∧w'.os=v.os∧w'.output=v.output) (λτ=>y0_wp (v:=onTape v τ 0) hA0) ?_;rintro a0 v0 w0 ⟨hB0,e0,o0,u0⟩ hr0 hn0 -;have g0:Grows v v0:=⟨by rw[e0];simp,λb hb=>by rw[e0,Qg,if_neg (by omega)],o0,u0⟩
 have m0:Mem zn S [] v0:=(hm.grows g0).mem;have hmb:v0.cell? ⟨v.heap.size,0,none⟩=some (I m):=by
  have:v0.heap[v.heap.size]? = some (.cells #[I m] 3):=by rw[e0];exact Qo
  exact cell_of this rfl
 have hs0:∀ τ,∀ k,k<n->∃ sb so,p=some ⟨sb,so,none⟩∧(onTape v0 τ 0).cell? ⟨sb,so+k,none⟩=some (.slice (pc k) (ln k) (cp k)):=λτ k hk=>by obtain ⟨sb,so,h1,h2⟩:=hs k hk;exact ⟨sb,so,h1,g0.cell h2⟩
 refine goesI_seq (dt_idle _ _) ?_;refine goesI_plain (z:=zn) (wr:=true) (L:=LV) (I:=NoRow Ch) hE fineV noRow_keeps (λv v' w w' es hi hr ho he=>dt_of_z v v' w w' es hi hr ho he) hr0 fine_y1 hB0.2.1 (by simp[base]) hn0 (Q:=λa w'=>Fl 40 [(0,Pt S.wb 0),(2,.slice p n cap),(4,Pt v.heap.size 0),(6,.slice none 0 0),(7,I 0)] a∧w'.heap=v0.heap∧w'.os=v0.os∧w'.output=v0.output) (λτ=>y1_yes (v:=onTape v0 τ 0) (m0.grows (v':=onTape v0 τ 0) ⟨Qi _,λ_ _=>rfl,rfl,rfl⟩).mem.rep pc ln cp (hs0 τ) hln hn8 hran hB0) ?_;rintro a1 v1 w1 ⟨hB1,e1,o1,u1⟩ hr1 hn1 -;have g1:Grows v0 v1:=⟨by rw[e1];exact Qi _,λb _=>by rw[e1],o1,u1⟩
 refine goesI_seq (dt_idle _ _) ?_;refine goesI_plain (z:=zn) (wr:=true) (L:=LV) (I:=NoRow Ch) hE fineV noRow_keeps (λv v' w w' es hi hr ho he=>dt_of_z v v' w w' es hi hr ho he) hr1 fine_y2 hB1.2.1 (by simp[base]) hn1 (Q:=λa w'=>Fl 40 [(0,Pt S.wb 0),(2,.slice p n cap),(4,Pt v.heap.size 0),(6,.slice none 0 0),(7,I 0)] a∧w'.heap=v1.heap∧w'.os=v1.os∧w'.output=v1.output) (λτ=>y2_yes (v:=onTape v1 τ 0) (by omega) (by omega) (g1.cell hmb) hB1) ?_;rintro a2 v2 w2 ⟨hB2,e2,o2,u2⟩ hr2 hn2 -;have g2:Grows v1 v2:=⟨by rw[e2];exact Qi _,λb _=>by rw[e2],o2,u2⟩
 refine goesI_seq (dt_idle _ _) ?_;refine goesI_plain (z:=zn) (wr:=true) (L:=LV) (I:=NoRow Ch) hE fineV noRow_keeps (λv v' w w' es hi hr ho he=>dt_of_z v v' w w' es hi hr ho he) hr2 fine_y3 hB2.2.1 (by simp[base]) hn2 (Q:=λa w'=>Fl 40 [(0,Pt S.wb 0),(2,.slice p n cap),(4,Pt v.heap.size 0),(6,.slice none 0 0),(7,I 0),(9,Pt (v2.heap.size+1) 0)] a∧w'.heap=((v2.alloc (objQ m [])).alloc (.cells #[.slice (some ⟨v2.heap.size,0,none⟩) m m] 99)).heap∧w'.os=v2.os∧w'.output=v2.output) (λτ=>y3_wp (v:=onTape v2 τ 0) h1 (g2.cell (g1.cell hmb)) hB2) ?_;rintro a3 v3 w3 ⟨hB3,e3,o3,u3⟩ hr3 hn3 -;have O0:=hO.push (u':=v0) (c:=#[I m]) (t:=3) e0 o0 u0;have O2:=(O0.same e1 o1 u1).same e2 o2 u2;have O3a:=O2.push (u':=v2.alloc (objQ m [])) (c:=(rowQ m []).toArray) (t:=46) rfl rfl rfl;have O3:=(O3a.push (u':=(v2.alloc (objQ m [])).alloc (.cells #[.slice (some ⟨v2.heap.size,0,none⟩) m m] 99)) (c:=#[.slice (some ⟨v2.heap.size,0,none⟩) m m]) (t:=99) rfl rfl rfl).same (u':=v3) e3 o3 u3;have hsz:(v2.alloc (objQ m [])).heap.size=v2.heap.size+1:=by simp
 rw[hsz] at O3;have hs2:v2.heap.size=v.heap.size+1:=by rw[e2,e1,e0];simp
 have hI:OI v S m 0 v2.heap.size (v2.heap.size+1) v.heap.size (padd (padd (padd pk0 v.heap.size (.cells #[I m] 3)) v2.heap.size (.cells (rowQ m []).toArray 46)) (v2.heap.size+1) (.cells #[.slice (some ⟨v2.heap.size,0,none⟩) m m] 99)) S [] v3 :=
  ⟨O3,rfl,λw hw=>hfl w (λb o hb=>hw b o (hlt b (by rw[hb];simp)) (by have:=hlt b (by rw[hb];simp);rw[padd_ne (by omega),padd_ne (by omega),padd_ne (by omega)];exact hb)),padd_at _ _ _,by rw[padd_ne (by omega),padd_ne (by omega)];exact padd_at _ _ _,by omega,[],rfl,by rw[padd_ne (by omega)];exact padd_at _ _ _,λo b hb=>by simp at hb⟩
 refine goesI_seq (dt_idle _ _) ?_;refine goesI_plain (z:=zn) (wr:=true) (L:=LV) (I:=NoRow Ch) hE fineV noRow_keeps (λv v' w w' es hi hr ho he=>dt_of_z v v' w w' es hi hr ho he) hr3 fine_y4 hB3.2.1 (by simp[base]) hn3 (Q:=λa w'=>Fl 40 [(0,Pt S.wb 0),(2,.slice p n cap),(4,Pt v.heap.size 0),(6,.slice none 0 0),(7,I 0),(9,Pt (v2.heap.size+1) 0)] a∧∃ pk S1 K,OI v S m m v2.heap.size (v2.heap.size+1) v.heap.size pk S1 K w') (λτ=>y4_wp h1 (hI.same (u':=onTape v3 τ 0) rfl rfl rfl) hB3) ?_;rintro a4 v4 w4 ⟨hB4,pk,S1,K,hI4⟩ hr4 hn4 -;have hset:=hI4.objs;have hql:QO m #[Pt (v2.heap.size+1) 0,Pt v.heap.size 0] pk K:=⟨h0,h1,_,_,_,rfl,λw hw=>hI4.fl w (λb o _ hb=>hw b o hb),hI4.var,hI4.many,hI4.row⟩
 clear hI4 hI O3 O3a O2 O0 hr0 hr1 hr2 hr3 hn0 hn1 hn2 hn3 e0 e1 e2 e3 o0 o1 o2 o3 u0 u1 u2 u3 hvw hn hs hs0 hln m0 hO hlt hB0 hB1 hB2 hB3 hmb hm;generalize v2.heap.size+1=xb at hB4 hql;generalize v.heap.size=mb at hB4 hql;have hA:=hB4;clear hB4;obtain ⟨hsz,hd,hpp⟩:=hA;obtain ⟨u,rfl,hg⟩:=litN hsz hd;have u0:=(hg 0).symm.trans (hpp (0,Pt S.wb 0) (by simp));have u2:=(hg 2).symm.trans (hpp (2,.slice p n cap) (by simp));have u4:=(hg 4).symm.trans (hpp (4,Pt mb 0) (by simp));have u6:=(hg 6).symm.trans (hpp (6,.slice none 0 0) (by simp));have u7:=(hg 7).symm.trans (hpp (7,I 0) (by simp));have u9:=(hg 9).symm.trans (hpp (9,Pt xb 0) (by simp));clear hg hpp hsz hd;unfold yR yB Tryd.f18 seq2;simp only[Qa,lits,Nat.reduceAdd,u0,u2,u4,u6,u7,u9];clear u0 u2 u4 u6 u7 u9;refine goesI_seq (dt_idle _ _) ?_;refine goesI_region (dt_idle _ _) ?_;simp only[Sz,Sr,Nat.reduceAdd];iterate 3
  (refine goesI_oper rfl rfl (by decide) (λd K hK=>?_)
   go_simp;refine hK _ _ ⟨dt_reads (λe he=>?_),GoesI.at ?_ d⟩
   .have hm:=mem_listed he
    simp[go_sem, *] at hm
    try exact ⟨_,_,hm⟩
    try (rcases hm with rfl|rfl<;>exact ⟨_,_,rfl⟩)
   clear hK K)
 refine goesI_into (f:=60) (fn:=Tryd.f60) (args:=#[Pt S.wb 0,.slice p n cap,.func (.func 61) #[] #[Pt xb 0,Pt mb 0]]) (dt_idle _ _) rfl rfl (by decide) rfl (by simp[Act.eval]) Tryd.func60 (by decide) rfl ?_;refine hk v4 w4 _ _ _ _ _ _ _ _ _ _ _ hr4 hn4 hset hql rfl (λCh Stop w x hg=>?_);clear hk hset hr4 hn4 hql;iterate 2
  (refine goesI_oper rfl rfl (by decide) (λd K hK=>?_)
   go_simp;refine hK _ _ ⟨dt_reads (λe he=>?_),GoesI.at ?_ d⟩
   .have hm:=mem_listed he
    simp[go_sem, *] at hm
    try exact ⟨_,_,hm⟩
    try (rcases hm with rfl|rfl<;>exact ⟨_,_,rfl⟩)
   clear hK K)
 refine goesI_regionEnd (dt_idle _ _) ?_;refine GoesI.ctl rfl (λ_=>stepG_ret') (dt_idle _ _) ?_;refine goesI_leave (b:=base 18) (fn:=Tryd.f18) (v:=.tuple #[x,I 0]) rfl rfl Tryd.func18 (λw=>?_) (λw=>by simp[results,go_sem,Tryd.f18]) hoc (dt_idle _ _) ?_
 .rw[results_tmp2 (t:=6) (u:=7) rfl]
  simp
 .have:=hg w.drawn
  exact this
section
variable {S:TS}{n sb so cap:Nat}{pc:Nat->Option Addr}{ln cp rb:Nat->Nat}{cl:Nat->List Cl}
theorem oplay_all (m:Nat) (h0:0<m) (h1:m<=1000) {pk0:Nat->Option Obj}(hfl:∀ w,Has pk0 w->R1.Flds w) {cs:List Frame}{q0:Nat}{k0:List Item}(hoc:ops[q0]? = some oc) {T:Trace}{gs:Array Goroutine}{q:Nat->Nat}(sl:Option (Nat×Nat)) (NT:Nat) (A:Alone gs w T q)
 (hg:gs[0]? = some (G ((base 18).at { tmps:=#[Pt S.wb 0,I m,.slice (some ⟨sb,so,none⟩) n cap]++Array.replicate 37 undef,defers:=[] } [.code yB]) (bc.at ac (.inRegion ops (q0 :: rest) :: k0) :: cs)))
 (hm:Mem zn S [] w) (hthr:S.thr=[]) (hran:S.ran=false) (hch:S.chg=[]) (hbk:Open w S.bk) (hpk:Has pk0 w) (hpf:∀ b,pk0 b≠none->¬ Own S [] b∧b≠S.bk) (hpr:∀ b o,pk0 b=some o->∃ c e f,o=.cells c e f) (t:Asked w S n sb so pc ln cp rb cl) (hn8:0<n∧n<=8)
 (hlen:∀ caps pk N K,S.n+2*lens (scrs (mcO m) 61 caps pk N n K pc ln cp rb cl)<=1000000) (hsl:S.sched.length<=4611686018427387904) (hsc:∀ x∈S.sched,-9223372036854775808<=x∧x<9223372036854775808) (l0:Nat->Ph)
 (hturn:∀ (caps:Array Value) (pk:Nat->Option Obj) (N:Nat) (cv:Value) (K:List (Nat×Int)),K.map (·.2)=List.replicate (2*m) 0->∀ S1 l1,Hires (mcO m) 0 (scrs (mcO m) 61 caps pk N n K pc ln cp rb cl) (nv { cellsS S cv (List.replicate (2*m) (0:Int)).length with ran:=true }) l0 S1 l1->∃ mm p',mm<=NT∧Turns (mcO m) mm ⟨S1,K,l1⟩ p'∧p'.S.n*40<=140737488355328):
 ∃ (N':Nat) (gs':Array Goroutine) (w':World) (sl':Option (Nat×Nat)) (T':Trace) (q':Nat->Nat) (caps:Array Value) (pk:Nat->Option Obj) (N:Nat) (cv:Value) (K:List (Nat×Int)) (S':TS) (S1:TS) (l1:Nat->Ph) (mm:Nat) (p':PSt),
   runNT Tryd.prog N' (crowd gs w sl) T=(.next (crowd gs' w' sl'),T')∧gs'.size=gs.size+n∧gs'[0]? = some (G (bc.at (ac.put oc.dst (.tuple #[.slice (some ⟨N+1,0,none⟩) n n,I 0])) (.inRegion ops rest :: k0)) cs) ∧
   Alone gs' w' T' q'∧K.map (·.2)=List.replicate (2*m) 0∧nv S'=p'.S∧Hires (mcO m) 0 (scrs (mcO m) 61 caps pk N n K pc ln cp rb cl) (nv { cellsS S cv (List.replicate (2*m) (0:Int)).length with ran:=true }) l0 S1 l1∧Turns (mcO m) mm ⟨S1,K,l1⟩ p'∧GOut w S n ln N S' p'.K p'.l w':=by
 refine gplay_all (xs:=List.replicate (2*m) 0) (cap:=cap) (q0:=q0) (pkgO m) (mineO m) (kokO m) sl NT A hg ?_ hm hthr hran hbk t hn8 hlen hsl hsc l0 hturn;exact oplay_in m h0 h1 hfl (Objs.startG (pk:=pk0) hm hch hpk hpf hpr) (λb hb=>by obtain ⟨o,ho⟩:=Option.ne_none_iff_exists'.1 hb;exact (Qb (hpk b o ho)).1) (some ⟨sb,so,none⟩) n cap hn8 hran pc ln cp (λk hk=>⟨sb,so,rfl,t.row k hk⟩) (λk hk=>(t.len k hk).2) cs hoc (Rel.refl w) (λc hc=>hc.elim)
  (λv' w' bd ad od qd rd oe kd caps pk S1 K hr hn ho hq hoe hback=>GoesI.stop λd=>⟨bd,ad,od,qd,rd,oe,kd,caps,pk,S1,K,ho.same hr.eq hr.os hr.output,hq,hoe,hback,rfl⟩)
end
structure Rws (M:Nat) (n:Nat) (A cp ln:Nat->Nat) (e x:Nat->Nat->Int) (v:World):Prop where
 row:∀ k,k<n->v.cell? ⟨M,k,none⟩=some (.slice (some ⟨A k,0,none⟩) (ln k) (cp k))
 ans:∀ k,k<n->∀ j,j<ln k->v.cell? ⟨A k,j*2,none⟩=some (I (e k j))∧v.cell? ⟨A k,j*2+1,none⟩=some (I (x k j))
theorem Rws.same {M:Nat}{A cp ln:Nat->Nat}{e x:Nat->Nat->Int}{v':World}(h:Rws M n A cp ln e x v) (hh:v'.heap=v.heap):Rws M n A cp ln e x v':=by have hc:∀ a,v'.cell? a=v.cell? a:=λa=>World.cell?_of_block (w:=v) (w':=v') (by rw[hh]);exact ⟨λk hk=>by rw[hc];exact h.row k hk,λk hk j hj=>by rw[hc,hc];exact h.ans k hk j hj⟩
def Sam (v u:World):Prop:=u.heap=v.heap∧u.os=v.os∧u.output=v.output
theorem body22 (M M' n c1 c2:Nat) {A B ca cb ln:Nat->Nat}{e x:Nat->Nat->Int}(h1:Rws M n A ca ln e x v) (h2:Rws M' n B cb ln e x v) (hn:n<=1000000) (hln:∀ k,k<n->ln k<=1000000):
 Body Tryd.f58 #[.slice (some ⟨M,0,none⟩) n c1,.slice (some ⟨M',0,none⟩) n c2] v (λr v'=>r=.bool true∧v'.heap=v.heap∧v'.os=v.os∧v'.output=v.output):=by
 intro code hb;obtain rfl:=Qd hb;clear hb;have H1:Hid (∀ u,Sam v u->Rws M n A ca ln e x u∧Rws M' n B cb ln e x u):=⟨λu hu=>⟨h1.same hu.1,h2.same hu.1⟩⟩
 have HL:Hid (∀ k,k<n->ln k<=1000000):=⟨hln⟩
 clear h1 h2 hln;simp only[Tryd.ntmps58,Sz,Nat.reduceAdd,Nat.reduceSub,Sy];go_wp2_with fail
 go_loopw [5] (λi u=>∃ k:Nat,k<=n∧i=.int .i64 k∧Hid (Sam v u)) (λi _=>n - (intOf i).toNat)
 case atStart=>exact ⟨0,Nat.zero_le _,rfl,⟨rfl,rfl,rfl⟩⟩
 case round =>
  obtain ⟨k,hk,rfl,hs⟩:=hrel;by_cases hlt:k<n
  .obtain ⟨r1,r2⟩:=H1.out wr hs.out
   have a1:=r1.row k hlt;have a2:=r2.row k hlt;have hl:=HL.out k hlt;clear r1 r2;have hlt':(k:Int)<(n:Int):=by omega
   have hnl:¬ n<=k:=by omega
   obtain ⟨wo,hwo⟩:∃ wo,wo=wr:=⟨wr,rfl⟩
   rw[<-hwo] at hs a1 a2 ⊢;clear hwo;go_wp2_with fail
   go_quiet (fail)
   go_wp2_with fail
   go_loopw [6] (λi u=>∃ j:Nat,j<=ln k∧i=.int .i64 j∧Hid (Sam v u)) (λi _=>ln k - (intOf i).toNat)
   case atStart=>exact ⟨0,Nat.zero_le _,rfl,hs.out.1,hs.out.2.1,hs.out.2.2⟩
   case round =>
    obtain ⟨j,hj,rfl,hs2⟩:=hrel;obtain ⟨r1,r2⟩:=H1.out wr hs2.out;have b1:=r1.row k hlt;have b2:=r2.row k hlt;by_cases hjl:j<ln k
    .have c1':=r1.ans k hlt j hjl
     have c2':=r2.ans k hlt j hjl;obtain ⟨x1,x2⟩:=c1';obtain ⟨y1,y2⟩:=c2';clear r1 r2 a1 a2;have hjl':(j:Int)<(ln k:Int):=by omega
     have hnj:¬ ln k<=j:=by omega
     go_wp2_with fail
     go_quiet (fail)
     go_wp2_with fail
     go_roundw
     case rel=>exact ⟨j+1,by omega,by go_num,hs2.out.1,hs2.out.2.1,hs2.out.2.2⟩
     case measure=>simp[intOf];omega
    .have hjj:j=ln k:=by omega
     subst hjj;clear r1 r2 a1 a2;go_wp2_with fail
     go_roundw
     case rel=>exact ⟨k+1,by omega,by go_num,hs2.out.1,hs2.out.2.1,hs2.out.2.2⟩
     case measure=>simp[intOf];omega
  .have hkk:k=n:=by omega
   subst hkk;go_wp2_with fail;go_ret;exact ⟨_,rfl,rfl,hs.out.1,hs.out.2.1,hs.out.2.2⟩
variable {mc:Mc}
theorem turns_det:∀ {m m':Nat}{p p1 p2:PSt},Turns mc m p p1->Turns mc m' p p2->p1=p2
 |_,_,_,_,_,.stop h,.stop h'=>rfl
 |_,_,_,_,_,.stop h,.step h' _=>by rw[h] at h';cases h'
 |_,_,_,_,_,.step h _,.stop h'=>by rw[h] at h';cases h'
 |_,_,_,_,_,.step h t,.step h' t'=>by rw[h] at h';cases h';exact turns_det t t'
def pt (mc:Mc) (p:PSt):PSt:=(pturn mc p).getD p
def pts (mc:Mc):Nat->PSt->PSt
 |0,p=>p
 |n+1,p=>pts mc n (pt mc p)
def runs (mc:Mc):Nat->PSt->Bool
 |0,p=>(pturn mc p).isNone
 |n+1,p=>(pturn mc p).isSome&&runs mc n (pt mc p)
theorem turns_of:∀ (n:Nat) (p:PSt),runs mc n p=true->Turns mc n p (pts mc n p)
 |0,p,h=>by
  refine .stop ?_;cases hp:pturn mc p with
  |none=>rfl
  |some x=>unfold runs at h;rw[hp] at h;cases h
 |n+1,p,h=>by
  unfold runs at h;rw[Bool.and_eq_true] at h;refine .step ?_ (turns_of n (pt mc p) h.2);unfold pt;cases hp:pturn mc p with
  |none=>rw[hp] at h;cases h.1
  |some x=>rfl
end Go.Proofs.YtfjjoohflcchnaaDoor.Gen
namespace Go.Proofs.YtfjjoohflcchnaaDoor.Gen
open Go Go.Lift Go.Conc Go.RowKit
open Go.ConcN (upd upd_same upd_ne)
def clW (j:Nat):List Cl:=[⟨2,0,7,0⟩,⟨1,0,8,0⟩]
def lnW (j:Nat):Nat:=2
def an0 (j:Nat):List (Int×Int):=List.replicate (lnW j) (0,0)
def awST (wb bk base:Nat) (sc cv:Value) (k:Nat):TS:=nv { cellsS (newS wb bk base sc []) cv k with ran:=true }
def awF (wb bk base:Nat) (sc cv:Value) (tv0:Value) (tb0 gc0:Nat):TS×Ph:=flow 0 (mcO 1) (clW 0) 0 false (an0 0) (hiredS (awST wb bk base sc cv 2) tv0 tb0 gc0)
def awPT (wb bk base:Nat) (sc cv:Value) (tv0:Value) (tb0 gc0:Nat) (cb0 cb1:Nat) (l0:Nat->Ph):PSt :=
 ⟨(awF wb bk base sc cv tv0 tb0 gc0).1,[(cb0,0),(cb1,0)],upd l0 0 (awF wb bk base sc cv tv0 tb0 gc0).2⟩
section
variable (wb bk base:Nat) (sc cv:Value) (tv0:Value) (tb0 gc0:Nat) (cb0 cb1:Nat) (l0:Nat->Ph)
set_option maxRecDepth 100000
theorem awt_runs:runs (mcO 1) 6 (awPT wb bk base sc cv tv0 tb0 gc0 cb0 cb1 l0)=true:=by kernel_rfl
theorem awt_n:(pts (mcO 1) 6 (awPT wb bk base sc cv tv0 tb0 gc0 cb0 cb1 l0)).S.n=10:=by kernel_rfl
theorem awt_ans:((pts (mcO 1) 6 (awPT wb bk base sc cv tv0 tb0 gc0 cb0 cb1 l0)).l 0).ans=[(70,7),(70,7)]:=by kernel_rfl
end
end Go.Proofs.YtfjjoohflcchnaaDoor.Gen
namespace Go.Proofs.YtfjjoohflcchnaaDoor.Gen
open Go Go.Lift Go.Conc Go.RowKit
variable {v:World}
def B7:Code:=Tryd.f16.body.getD .skip
def b70:Code:=seq1 B7
def b71:Code:=seq1 (seq2 B7)
def r72:Code:=seq1 (seq2 (seq2 B7))
def T7:Code:=seq2 (seq2 (seq2 B7))
theorem eB7:B7=.seq b70 (.seq b71 (.seq r72 T7)):=by kernel_rfl
theorem fine70:fineCode Tryd.prog true LV b70:=fineCode_askS callV extT (by kernel_rfl)
theorem fine71:fineCode Tryd.prog true LV b71:=fineCode_askS callV extT (by kernel_rfl)
theorem fineT7:fineCode Tryd.prog true LV T7:=fineCode_askS callV extT (by kernel_rfl)
theorem b70_wp :
 b70.wp Tryd.prog (λe a w'=>e=.normal∧a={ tmps:=#[.bool false]++Array.replicate 25 undef,defers:=[] }∧w'.heap=v.heap∧w'.os=v.os∧w'.output=v.output)
  { tmps:=Array.replicate 26 undef,defers:=[] } v:=by
 show Code.wp Tryd.prog (seq1 (Tryd.f16.body.getD .skip)) _ _ _;unfold Tryd.f16 seq1;simp only[Qa,Sy];go_wp2_with fail
 try exact ⟨rfl,rfl,rfl⟩
theorem b71_wp :
 b71.wp Tryd.prog (λe a w'=>e=.normal∧∃ wb bk sc,a={ tmps:=#[.bool false,Pt wb 0,undef,undef,undef,Pt wb 0]++Array.replicate 20 undef,defers:=[] }∧IsNew v [] wb bk sc w')
  { tmps:=#[.bool false]++Array.replicate 25 undef,defers:=[] } v:=by
 have H7:Hid (Calls Tryd.prog 17 #[.slice none 0 0] v _):=⟨(body70 (v:=v) none 0).calls Tryd.func17 rfl⟩
 show Code.wp Tryd.prog (seq1 (seq2 (Tryd.f16.body.getD .skip))) _ _ _;unfold Tryd.f16 seq1 seq2;simp only[Qa,Sy]
 go_wp2_with (first
  |(go_at_call 17;refine H7.out.mono ?_;rintro e w1 ⟨_,rfl,wb,bk,sc,rfl,hnew⟩))
 exact ⟨bk,sc,hnew⟩
structure Done7 (M:Nat) (A:Nat->Nat) (u:World):Prop where
 row:∀ k,k<1->u.cell? ⟨M,k,none⟩=some (.slice (some ⟨A k,0,none⟩) (lnW k) (lnW k))
 a0:u.heap[A 0]? = some (.cells #[I 70,I 7,I 70,I 7] 38)
theorem same7 {M:Nat}{A:Nat->Nat}(h:Done7 M A v):Calls Tryd.prog 58 #[.slice (some ⟨M,0,none⟩) 1 1,.slice (some ⟨v.heap.size+2,0,none⟩) 1 1] (((v.alloc (.cells #[I 70,I 7] 38)).alloc (.cells #[I 70,I 7,I 70,I 7] 38)).alloc (.cells #[.slice (some ⟨(v.heap.size+1),0,none⟩) 2 2] 31)) (λe w'=>e=.returned (.bool true)∧w'.heap=(((v.alloc (.cells #[I 70,I 7] 38)).alloc (.cells #[I 70,I 7,I 70,I 7] 38)).alloc (.cells #[.slice (some ⟨(v.heap.size+1),0,none⟩) 2 2] 31)).heap∧w'.os=v.os∧w'.output=v.output):=by
 have old:∀ b,b<v.heap.size->(((v.alloc (.cells #[I 70,I 7] 38)).alloc (.cells #[I 70,I 7,I 70,I 7] 38)).alloc (.cells #[.slice (some ⟨(v.heap.size+1),0,none⟩) 2 2] 31)).heap[b]? = v.heap[b]?:=λb hb=>by
  show (((v.heap.push _).push _).push _)[b]? = _;simp only[Qg,Array.size_push]
  repeat rw[if_neg (by omega)]
 have n0:(((v.alloc (.cells #[I 70,I 7] 38)).alloc (.cells #[I 70,I 7,I 70,I 7] 38)).alloc (.cells #[.slice (some ⟨(v.heap.size+1),0,none⟩) 2 2] 31)).heap[v.heap.size+1]? = some (.cells #[I 70,I 7,I 70,I 7] 38):=by
  show (((v.heap.push _).push _).push _)[v.heap.size+1]? = _;simp only[Qg,Array.size_push]
  repeat first|rw[if_pos trivial]|rw[if_pos (by omega)]|rw[if_neg (by omega)]
 have n2:(((v.alloc (.cells #[I 70,I 7] 38)).alloc (.cells #[I 70,I 7,I 70,I 7] 38)).alloc (.cells #[.slice (some ⟨(v.heap.size+1),0,none⟩) 2 2] 31)).heap[v.heap.size+2]? = some (.cells #[.slice (some ⟨(v.heap.size+1),0,none⟩) 2 2] 31):=by
  show (((v.heap.push _).push _).push _)[v.heap.size+2]? = _;simp only[Qg,Array.size_push]
  repeat first|rw[if_pos trivial]|rw[if_pos (by omega)]|rw[if_neg (by omega)]
 have hb:=body22 (v:=(((v.alloc (.cells #[I 70,I 7] 38)).alloc (.cells #[I 70,I 7,I 70,I 7] 38)).alloc (.cells #[.slice (some ⟨(v.heap.size+1),0,none⟩) 2 2] 31))) M (v.heap.size+2) 1 1 1 (A:=A) (B:=λk=>v.heap.size+1+k) (ca:=lnW) (cb:=lnW) (ln:=lnW) (e:=λ_ _=>70) (x:=λ_ _=>7) ⟨λk hk=>?_,λk hk j hj=>?_⟩ ⟨λk hk=>?_,λk hk j hj=>?_⟩ (by decide) (λk hk=>by unfold lnW;decide)
 .refine (hb.calls Tryd.func58 rfl).mono ?_
  rintro e w' ⟨r,rfl,rfl,h1,h2,h3⟩;exact ⟨rfl,h1,h2,h3⟩
 .have:=h.row k hk
  rw[World.cell?_of_block (w:=v) (w':=(((v.alloc (.cells #[I 70,I 7] 38)).alloc (.cells #[I 70,I 7,I 70,I 7] 38)).alloc (.cells #[.slice (some ⟨(v.heap.size+1),0,none⟩) 2 2] 31))) (old M (World.block_lt_of_cell? _ _ this))];exact this
 .obtain rfl:k=0:=by omega
  have h2:(((v.alloc (.cells #[I 70,I 7] 38)).alloc (.cells #[I 70,I 7,I 70,I 7] 38)).alloc (.cells #[.slice (some ⟨(v.heap.size+1),0,none⟩) 2 2] 31)).heap[A 0]? = some (.cells #[I 70,I 7,I 70,I 7] 38):=by rw[old _ (Qb h.a0).1];exact h.a0
  have:j=0∨j=1:=by simp[lnW] at hj;omega
  rcases this with rfl|rfl<;>exact ⟨cell_of h2 rfl,cell_of h2 rfl⟩
 .obtain rfl:k=0:=by omega
  exact cell_of n2 rfl
 .obtain rfl:k=0:=by omega
  have:j=0∨j=1:=by simp[lnW] at hj;omega
  rcases this with rfl|rfl<;>exact ⟨cell_of n0 rfl,cell_of n0 rfl⟩
theorem T7_wp {M:Nat}{A:Nat->Nat}(h:Done7 M A v) {a:Act}(hA:Fl 26 [(2,.slice (some ⟨M,0,none⟩) 1 1),(3,I 0)] a):
 T7.wp Tryd.prog (λe a w'=>e=.ret∧∃ x,(results Tryd.f16 a.tmps).run Tryd.prog w'=.ok x w'∧x=.bool true∧Grows v w') a v:=by
 have g3:Grows v (((v.alloc (.cells #[I 70,I 7] 38)).alloc (.cells #[I 70,I 7,I 70,I 7] 38)).alloc (.cells #[.slice (some ⟨(v.heap.size+1),0,none⟩) 2 2] 31)):=⟨by show _<=(((v.heap.push _).push _).push _).size;simp;omega,λb hb=>by
  show (((v.heap.push _).push _).push _)[b]? = _;simp only[Qg,Array.size_push]
  repeat rw[if_neg (by omega)],rfl,rfl⟩
 have H1:Hid (Calls Tryd.prog 58 #[.slice (some ⟨M,0,none⟩) 1 1,.slice (some ⟨v.heap.size+2,0,none⟩) 1 1] (((v.alloc (.cells #[I 70,I 7] 38)).alloc (.cells #[I 70,I 7,I 70,I 7] 38)).alloc (.cells #[.slice (some ⟨(v.heap.size+1),0,none⟩) 2 2] 31)) (λe w1=>e=.returned (.bool true)∧Hid (Grows v w1))):=⟨(same7 h).mono (by rintro e w1 ⟨rfl,h1,h2,h3⟩;exact ⟨rfl,⟨by rw[h1];exact g3.size,λb hb=>by rw[h1];exact g3.old b hb,h2,h3⟩⟩)⟩
 clear h g3;obtain ⟨hsz,hd,hpp⟩:=hA;obtain ⟨u,rfl,hg⟩:=litN hsz hd;have u2:=(hg 2).symm.trans (hpp (2,.slice (some ⟨M,0,none⟩) 1 1) (by simp));have u3:=(hg 3).symm.trans (hpp (3,I 0) (by simp));clear hg hpp hsz hd;unfold T7 B7 Tryd.f16 seq2;simp only[Qa,lits,Nat.reduceAdd,u2,u3];clear u2 u3
 go_wp2_with (first
  |(go_at_call 58;refine H1.out.mono ?_;rintro e w1 ⟨rfl,H2⟩))
 exact ⟨_,results_tmp (t:=0) rfl _ _ _,rfl,H2.out⟩
structure Set7 (v:World) (wb bk:Nat) (sc:Value) (c:Nat) (u:World):Prop where
 mem:Mem zn (newS wb bk v.heap.size sc []) [] u
 opn:Open u bk
 c0:u.heap[c]? = some (.cells #[I 2,I 0,I 7,I 0,I 1,I 0,I 8,I 0] 35)
 scr:u.heap[c+1]? = some (.cells #[.slice (some ⟨c,0,none⟩) 2 2] 33)
 own:∀ b,Own (newS wb bk v.heap.size sc []) [] b∨b=bk->v.heap.size<=b∧b<c
 old:Grows v u
theorem Set7.same {wb bk:Nat}{sc:Value}{c:Nat}{u u':World}(h:Set7 v wb bk sc c u) (e:u'.heap=u.heap) (e1:u'.os=u.os) (e2:u'.output=u.output):Set7 v wb bk sc c u':=by
 have g:Grows u u':=⟨by rw[e];exact Qi _,λb _=>by rw[e],e1,e2⟩
 refine ⟨(h.mem.grows g).mem,?_,by rw[e];exact h.c0,by rw[e];exact h.scr,h.own,⟨by rw[e];exact h.old.size,λb hb=>by rw[e];exact h.old.old b hb,e1.trans h.old.os,e2.trans h.old.output⟩⟩;obtain ⟨c,m,hh⟩:=h.opn;exact ⟨c,m,by rw[e];exact hh⟩
theorem oawake_in {Ch:Nat->Prop}{Stop:Goroutine->World->Prop}{main:Bool}{w:World}(cs:List Frame) {bc:Frame}{ac:Act}{ops:Array Oper}{q:Nat}{rest:List Nat}{oc:Oper}{k:List Item}(hoc:ops[q]? = some oc)
 (hvw:Rel zn v w) (hn:NoRow Ch v)
 (hk:∀ v' w' (wb bk:Nat) (sc:Value) (c:Nat) (bd:Frame) (ad:Act) (od:Array Oper) (qd:Nat) (rd:List Nat) (oe:Oper) (kd:List Item),Rel zn v' w'->NoRow Ch v'->Set7 v wb bk sc c v'->od[qd]? = some oe ->
   (∀ (Ch:Nat->Prop) (Stop:Goroutine->World->Prop) (M:Nat) (A:Nat->Nat) (v w:World),Rel zn v w->NoRow Ch v->Done7 M A v->(∀ v' w',Rel zn v' w'->NoRow Ch v'->Grows v v'->GoesI Tryd.prog main (DT (ScZ zn) Ch) Stop (G (bc.at (ac.put oc.dst (.bool true)) (.inRegion ops rest :: k)) cs) w')->GoesI Tryd.prog main (DT (ScZ zn) Ch) Stop (G (bd.at (ad.put oe.dst (.tuple #[.slice (some ⟨M,0,none⟩) 1 1,I 0])) (.inRegion od rd :: kd)) (bc.at ac (.inRegion ops (q :: rest) :: k) :: cs)) w) ->
   GoesI Tryd.prog main (DT (ScZ zn) Ch) Stop (G ((base 18).at { tmps:=#[Pt wb 0,I 1,.slice (some ⟨c+1,0,none⟩) 1 1]++Array.replicate 37 undef,defers:=[] } [.code yB]) (bd.at ad (.inRegion od (qd :: rd):: kd):: bc.at ac (.inRegion ops (q :: rest):: k):: cs)) w'):
 GoesI Tryd.prog main (DT (ScZ zn) Ch) Stop (G ((base 16).at { tmps:=Array.replicate 26 undef,defers:=[] } [.code B7]) (bc.at ac (.inRegion ops (q :: rest) :: k) :: cs)) w:=by
 rw[eB7];refine goesI_seq (dt_idle _ _) ?_;refine goesI_plain (z:=zn) (wr:=true) (L:=LV) (I:=NoRow Ch) hE fineV noRow_keeps (λv v' w w' es hi hr ho he=>dt_of_z v v' w w' es hi hr ho he) hvw fine70 rfl (by simp[base]) hn
  (Q:=λa w'=>a={ tmps:=#[.bool false]++Array.replicate 25 undef,defers:=[] }∧w'.heap=v.heap∧w'.os=v.os∧w'.output=v.output) (λτ=>b70_wp (v:=onTape v τ 0)) ?_
 rintro a0 v0 w0 ⟨rfl,e0,o0,u0⟩ hr0 hn0 -;refine goesI_seq (dt_idle _ _) ?_;refine goesI_plain (z:=zn) (wr:=true) (L:=LV) (I:=NoRow Ch) hE fineV noRow_keeps (λv v' w w' es hi hr ho he=>dt_of_z v v' w w' es hi hr ho he) hr0 fine71 rfl (by simp[base]) hn0
  (Q:=λa w'=>∃ wb bk sc,a={ tmps:=#[.bool false,Pt wb 0,undef,undef,undef,Pt wb 0]++Array.replicate 20 undef,defers:=[] }∧IsNew v0 [] wb bk sc w') (λτ=>?_) ?_
 .refine wp_mono (b71_wp (v:=onTape v0 τ 0)) (λe a w' hq=>⟨hq.1,?_⟩)
  obtain ⟨_,wb,bk,sc,h1,h2⟩:=hq;exact ⟨wb,bk,sc,h1,⟨h2.mem,h2.opn,h2.new,⟨h2.old.size,h2.old.old,h2.old.os,h2.old.output⟩⟩⟩
 rintro a1 v1 w1 ⟨wb,bk,sc,rfl,hnew⟩ hr1 hn1 -;have hset:Set7 v wb bk sc v1.heap.size ((v1.alloc (.cells #[I 2,I 0,I 7,I 0,I 1,I 0,I 8,I 0] 35)).alloc (.cells #[.slice (some ⟨v1.heap.size,0,none⟩) 2 2] 33)):=by
  have g1:Grows v1 ((v1.alloc (.cells #[I 2,I 0,I 7,I 0,I 1,I 0,I 8,I 0] 35)).alloc (.cells #[.slice (some ⟨v1.heap.size,0,none⟩) 2 2] 33)):=⟨by show _<=((v1.heap.push _).push _).size;simp;omega,λb hb=>by
   show ((v1.heap.push _).push _)[b]? = _;simp only[Qg,Array.size_push]
   repeat rw[if_neg (by omega)],rfl,rfl⟩
  have hm1:=hnew.mem;have hnn:=hnew.new;rw[e0] at hm1 hnn;refine ⟨(hm1.grows g1).mem,?_,?_,?_,λb hb=>⟨hnn b hb,?_⟩,⟨?_,λb hb=>?_,?_,?_⟩⟩
  .obtain ⟨c,m,h⟩:=hnew.opn
   exact ⟨c,m,by rw[g1.old _ (Qb h).1];exact h⟩
  .show ((v1.heap.push _).push _)[v1.heap.size]? = _
   simp only[Qg,Array.size_push]
   repeat first|rw[if_pos trivial]|rw[if_pos (by omega)]|rw[if_neg (by omega)]
  .show ((v1.heap.push _).push _)[v1.heap.size+1]? = _
   simp only[Qg,Array.size_push]
   repeat first|rw[if_pos trivial]|rw[if_pos (by omega)]|rw[if_neg (by omega)]
  .rcases hb with hb|rfl
   exact hm1.lt hb
   .obtain ⟨c,m,h⟩:=hnew.opn
    exact (Qb h).1
  have:=hnew.old.size;have:=g1.size;rw[e0] at *;omega;rw[g1.old b (by have:=hnew.old.size;rw[e0] at this;omega),hnew.old.old b (by rw[e0];exact hb),e0];exact hnew.old.os.trans o0;exact hnew.old.output.trans u0
 clear hnew hr0 hn0 e0 o0 u0 hvw hn;unfold r72 B7 Tryd.f16 seq1 seq2;simp only[Qa,Sy];refine goesI_seq (dt_idle _ _) ?_;refine goesI_region (dt_idle _ _) ?_;simp only[Sz,Sr,Nat.reduceAdd];iterate 1
  (refine goesI_oper rfl rfl (by decide) (λd K hK=>?_)
   go_simp;refine hK _ _ ⟨dt_reads (λe he=>?_),GoesI.at ?_ d⟩
   .have hm:=mem_listed he
    simp[go_sem, *] at hm
    try exact ⟨_,_,hm⟩
   clear hK K)
 refine goesI_opZ (L:=LV) rfl rfl (by decide) (fineOp_ask callV extT (by kernel_rfl)) hr1 hn1 (v':=v1) (x:=.agg #[I 2,I 0,I 7,I 0]) (by go_simp) rfl (λw2 hr2 hn2=>?_);refine goesI_opZ (L:=LV) rfl rfl (by decide) (fineOp_ask callV extT (by kernel_rfl)) hr2 hn2 (v':=v1) (x:=.agg #[I 1,I 0,I 8,I 0]) (by go_simp) rfl (λw2b hr2b hn2b=>?_);refine goesI_opZ (L:=LV) rfl rfl (by decide) (fineOp_ask callV extT (by kernel_rfl)) hr2b hn2b (v':=(v1.alloc (.cells #[I 2,I 0,I 7,I 0,I 1,I 0,I 8,I 0] 35))) (x:=.slice (some ⟨v1.heap.size,0,none⟩) 2 2) (by go_simp) rfl (λw3 hr3 hn3=>?_);refine goesI_opZ (L:=LV) rfl rfl (by decide) (fineOp_ask callV extT (by kernel_rfl)) hr3 hn3 (v':=((v1.alloc (.cells #[I 2,I 0,I 7,I 0,I 1,I 0,I 8,I 0] 35)).alloc (.cells #[.slice (some ⟨v1.heap.size,0,none⟩) 2 2] 33))) (x:=.slice (some ⟨v1.heap.size+1,0,none⟩) 1 1) (by go_simp) rfl (λw6 hr6 hn6=>?_);refine goesI_into (f:=18) (fn:=Tryd.f18) (args:=#[Pt wb 0,I 1,.slice (some ⟨v1.heap.size+1,0,none⟩) 1 1]) (dt_idle _ _) rfl rfl (by decide) rfl (by simp[Act.eval,Act.put]) Tryd.func18 (by decide) rfl ?_;refine hk _ w6 wb bk sc v1.heap.size _ _ _ _ _ _ _ hr6 hn6 hset rfl (λCh Stop M A vv ww hvw hn hD hg=>?_);clear hk hset hr1 hr2 hr2b hr3 hr6 hn1 hn2 hn2b hn3 hn6;iterate 5
  (refine goesI_oper rfl rfl (by decide) (λd K hK=>?_)
   go_simp;refine hK _ _ ⟨dt_reads (λe he=>?_),GoesI.at ?_ d⟩
   .have hm:=mem_listed he
    simp[go_sem, *] at hm
    try exact ⟨_,_,hm⟩
   clear hK K)
 refine goesI_regionEnd (dt_idle _ _) ?_;refine goesI_outZ (c:=T7) (f:=16) (fn:=Tryd.f16) (L:=LV) hE fineV hvw hn Tryd.func16 fineT7 rfl hoc (R:=λr w'=>r=.bool true∧Grows vv w') (λτ=>?_) (λr v' w' hR hr' hn'=>?_)
 .have hD':Done7 M A (onTape vv τ 0):=⟨hD.row,hD.a0⟩
  refine wp_mono (T7_wp (v:=onTape vv τ 0) hD' ⟨rfl,rfl,by
   intro p hp;simp only[Sm,or_false] at hp;rcases hp with rfl|rfl<;>rfl⟩) (λe a w' hq=>⟨hq.1,?_⟩)
  obtain ⟨_,x,h1,h2,h3⟩:=hq;exact ⟨x,h1,h2,⟨h3.size,h3.old,h3.os,h3.output⟩⟩
 .obtain ⟨rfl,hgr⟩:=hR
  exact hg v' w' hr' hn' hgr
end Go.Proofs.YtfjjoohflcchnaaDoor.Gen
namespace Go.Proofs.YtfjjoohflcchnaaDoor.Gen
open Go Go.Lift Go.Conc Go.RowKit
open Go.ConcN (upd upd_same upd_ne)
variable {w:World}
structure Gl (w:World):Prop where
 a:∃ c t f,w.heap[1]? = some (.cells c t f)∧c[0]? = some (I 0)∧c[1]? = some (I 2)
 b:∃ c t f,w.heap[2]? = some (.cells c t f)∧c[0]? = some (I 10)∧c[1]? = some (I 20)
 c:∃ c t f,w.heap[3]? = some (.cells c t f)∧c[0]? = some (I 2)∧c[1]? = some (I 8)
theorem Gl.grows {w':World}(h:Gl w) (g:Grows w w'):Gl w':=by obtain ⟨c,t,f,h1,h2⟩:=h.a;obtain ⟨c',t',f',k1,k2⟩:=h.b;obtain ⟨c'',t'',f'',l1,l2⟩:=h.c;exact ⟨⟨c,t,f,by rw[g.old 1 (Qb h1).1];exact h1,h2⟩,⟨c',t',f',by rw[g.old 2 (Qb k1).1];exact k1,k2⟩,⟨c'',t'',f'',by rw[g.old 3 (Qb l1).1];exact l1,l2⟩⟩
theorem Gl.flds (h:Gl w):R1.Flds w:=by obtain ⟨c,t,f,h1,h2,h3⟩:=h.a;obtain ⟨c',t',f',k1,k2,k3⟩:=h.b;obtain ⟨c'',t'',f'',l1,l2,l3⟩:=h.c;constructor<;>first|exact cell_of h1 h2|exact cell_of h1 h3|exact cell_of k1 k2|exact cell_of k1 k3|exact cell_of l1 l2|exact cell_of l1 l3
def glP (w:World):Nat->Option Obj:=λb=>if 0<b∧b<4 then w.heap[b]? else none
theorem glP_in {b:Nat}(h:glP w b≠none):0<b∧b<4:=by unfold glP at h;split at h;assumption;exact absurd rfl h
theorem glP_has (w:World):Has (glP w) w:=λb o hb=>by unfold glP at hb;split at hb;exact hb;cases hb
theorem glP_fl (h:Gl w) (u:World) (hu:Has (glP w) u):R1.Flds u:=by have e:∀ b o,0<b∧b<4->w.heap[b]? = some o->u.heap[b]? = some o:=λb o hb ho=>hu b o (by unfold glP;rw[if_pos hb];exact ho);obtain ⟨c,t,f,h1,h2⟩:=h.a;obtain ⟨c',t',f',k1,k2⟩:=h.b;obtain ⟨c'',t'',f'',l1,l2⟩:=h.c;exact Gl.flds ⟨⟨c,t,f,e _ _ (by decide) h1,h2⟩,⟨c',t',f',e _ _ (by decide) k1,k2⟩,⟨c'',t'',f'',e _ _ (by decide) l1,l2⟩⟩
theorem glP_row (h:Gl w):∀ b o,glP w b=some o->∃ c e f,o=.cells c e f:=λb o hb=>by
 have hw:=glP_has w b o hb;have h3:=glP_in (w:=w) (b:=b) (by rw[hb];simp);have:b=1∨b=2∨b=3:=by omega
 rcases this with rfl|rfl|rfl
 .obtain ⟨c,t,f,h1,_⟩:=h.a
  rw[h1] at hw;cases hw;exact ⟨_,_,_,rfl⟩
 .obtain ⟨c,t,f,h1,_⟩:=h.b
  rw[h1] at hw;cases hw;exact ⟨_,_,_,rfl⟩
 .obtain ⟨c,t,f,h1,_⟩:=h.c
  rw[h1] at hw;cases hw;exact ⟨_,_,_,rfl⟩
theorem Gl.lt (h:Gl w):3<w.heap.size:=by obtain ⟨c,t,f,h1,_⟩:=h.c;exact (Qb h1).1
abbrev pcW (c j:Nat):Option Addr:=some ⟨c+j,0,none⟩
section
variable {wb bk base:Nat}{sc cv:Value}{cb0 cb1:Nat}{l0:Nat->Ph}
theorem hires_on {caps:Array Value}{pk:Nat->Option Obj}{N c:Nat}{S1:TS}{l1:Nat->Ph}(h:Hires (mcO 1) 0 (scrs (mcO 1) 61 caps pk N 1 [(cb0,0),(cb1,0)] (pcW c) lnW lnW (λj=>c+j) clW) (awST wb bk base sc cv 2) l0 S1 l1):
 ∃ tv0 tb0 gc0,(⟨S1,[(cb0,0),(cb1,0)],l1⟩:PSt)=awPT wb bk base sc cv tv0 tb0 gc0 cb0 cb1 l0:=by
 have e:(scrs (mcO 1) 61 caps pk N 1 [(cb0,0),(cb1,0)] (pcW c) lnW lnW (λj=>c+j) clW)=[scrOf (mcO 1) 61 caps pk N 1 [cb0,cb1] (pcW c) lnW lnW (λj=>c+j) clW 0]:=rfl;rw[e] at h;cases h with
 |cons tv0 tb0 gc0 h =>
  cases h;exact ⟨tv0,tb0,gc0,rfl⟩
end
theorem asked7 {v u:World}{wb bk:Nat}{sc:Value}{c:Nat}(s:Set7 v wb bk sc c u):Asked u (newS wb bk v.heap.size sc []) 1 (c+1) 0 (pcW c) lnW lnW (λj=>c+j) clW:=by
 have one:∀ {j},j<1->j=0:=λh=>by omega
 refine ⟨λj hj=>by obtain rfl:=one hj;exact ⟨rfl,by decide⟩,λk hk=>?_,λh=>by have:=(s.own _ (.inl h)).2;omega,λj hj _=>⟨rfl,λh=>by have:=(s.own _ (.inl h)).2;omega⟩,λj hj k x hx=>?_,λj hj x hx=>?_⟩;obtain rfl:=one hk;exact cell_of s.scr rfl
 .obtain rfl:=one hj
  match k,hx with
  |0,hx=>cases hx;exact ⟨cell_of s.c0 rfl,cell_of s.c0 rfl,cell_of s.c0 rfl,cell_of s.c0 rfl⟩
  |1,hx=>cases hx;exact ⟨cell_of s.c0 rfl,cell_of s.c0 rfl,cell_of s.c0 rfl,cell_of s.c0 rfl⟩
  |k+2,hx=>simp[clW] at hx
 .obtain rfl:=one hj
  simp[clW] at hx;rcases hx with rfl|rfl<;>decide
theorem K_two {K:List (Nat×Int)}(hK:K.map (·.2)=List.replicate 2 0):∃ cb0 cb1,K=[(cb0,0),(cb1,0)]:=by
 match K,hK with
 | [(a,x),(b,y)],hK =>simp[List.replicate] at hK;obtain ⟨rfl,rfl⟩:=hK;exact ⟨a,b,rfl⟩
 | [],hK=>simp at hK
 | [x],hK=>simp[List.replicate] at hK
 |x :: y :: z :: l,hK=>simp[List.replicate] at hK
theorem oawake_all {cs:List Frame}{bc:Frame}{ac:Act}{ops:Array Oper}{q0:Nat}{rest:List Nat}{oc:Oper}{k0:List Item}(hoc:ops[q0]? = some oc) {T:Trace}{gs:Array Goroutine}{q:Nat->Nat}(sl:Option (Nat×Nat)) (A:Alone gs w T q) (hGl:Gl w)
 (hg:gs[0]? = some (G ((base 16).at { tmps:=Array.replicate 26 undef,defers:=[] } [.code B7]) (bc.at ac (.inRegion ops (q0 :: rest):: k0):: cs))):
 ∃ (N':Nat) (gs':Array Goroutine) (w':World) (sl':Option (Nat×Nat)) (T':Trace) (q':Nat->Nat),
   runNT Tryd.prog N' (crowd gs w sl) T=(.next (crowd gs' w' sl'),T')∧gs'[0]? = some (G (bc.at (ac.put oc.dst (.bool true)) (.inRegion ops rest :: k0)) cs)∧Alone gs' w' T' q'∧Grows w w':=by
 have hG:GoesI Tryd.prog true (DT (ScZ zn) (λ_=>False)) (λg w'=>∃ (wb bk:Nat) (sc:Value) (c:Nat) (bd:Frame) (ad:Act) (od:Array Oper) (qd:Nat) (rd:List Nat) (oe:Oper) (kd:List Item),Set7 w wb bk sc c w'∧od[qd]? = some oe ∧
  (∀ (Ch:Nat->Prop) (Stop:Goroutine->World->Prop) (M:Nat) (A:Nat->Nat) (v w:World),Rel zn v w->NoRow Ch v->Done7 M A v->(∀ v' w',Rel zn v' w'->NoRow Ch v'->Grows v v'->GoesI Tryd.prog true (DT (ScZ zn) Ch) Stop (G (bc.at (ac.put oc.dst (.bool true)) (.inRegion ops rest :: k0)) cs) w')->GoesI Tryd.prog true (DT (ScZ zn) Ch) Stop (G (bd.at (ad.put oe.dst (.tuple #[.slice (some ⟨M,0,none⟩) 1 1,I 0])) (.inRegion od rd :: kd)) (bc.at ac (.inRegion ops (q0 :: rest) :: k0) :: cs)) w) ∧
  g=G ((base 18).at { tmps:=#[Pt wb 0,I 1,.slice (some ⟨c+1,0,none⟩) 1 1]++Array.replicate 37 undef,defers:=[] } [.code yB]) (bd.at ad (.inRegion od (qd :: rd) :: kd) :: bc.at ac (.inRegion ops (q0 :: rest) :: k0) :: cs)) (G ((base 16).at { tmps:=Array.replicate 26 undef,defers:=[] } [.code B7]) (bc.at ac (.inRegion ops (q0 :: rest) :: k0) :: cs)) w :=
  oawake_in cs hoc (Rel.refl w) (λc hc=>hc.elim) (λv' w' wb bk sc c bd ad od qd rd oe kd hr hn hset ho hback=>GoesI.stop λd=>⟨wb,bk,sc,c,bd,ad,od,qd,rd,oe,kd,hset.same hr.eq hr.os hr.output,ho,hback,rfl⟩)
 obtain ⟨N1,gs1,a1,w1,sl1,T1,q1,r1,z1,h1,⟨wb,bk,sc,c,bd,ad,od,qd,rd,oe,kd,s,hoe,hback,rfl⟩,A1⟩:=alone_goes A hg sl hG;have l0:Nat->Ph:=λ_=>.done [];have hGl1:=hGl.grows s.old;have h7:=hGl.lt;have hpf:∀ b,glP w1 b≠none->¬ Own (newS wb bk w.heap.size sc []) [] b∧b≠(newS wb bk w.heap.size sc []).bk:=λb hb=>by have hb':=glP_in hb;exact ⟨λh=>by have:=(s.own b (.inl h)).1;omega,λh=>by have:=(s.own b (.inr h)).1;omega⟩
 obtain ⟨N2,gs2,w2,sl2,T2,q2,caps,pk,N,cv,K,S',S1,l1,m,p',r2,z2,h2,A2,hK,hnv,hH,hT,O⟩:=oplay_all (S:=newS wb bk w.heap.size sc []) (n:=1) (sb:=c+1) (so:=0) (cap:=1) (pc:=pcW c) (ln:=lnW) (cp:=lnW) (rb:=λj=>c+j) (cl:=clW) 1 (by decide) (by decide) (pk0:=glP w1) (glP_fl hGl1) hoe sl1 6 A1 h1 s.mem rfl rfl rfl s.opn (glP_has w1) hpf (glP_row hGl1) (asked7 s) (by decide) (λcaps pk N K=>by show 0+2*(2+0)<=1000000;decide) (by show 0<=4611686018427387904;decide) (by show ∀ x∈([]:List Int),_;simp) l0 (λcaps pk N cv K hK S1 l1 hH=>by obtain ⟨cb0,cb1,rfl⟩:=K_two hK;obtain ⟨tv0,tb0,gc0,e⟩:=hires_on (wb:=wb) (bk:=bk) (base:=w.heap.size) (sc:=sc) (cv:=cv) hH;exact ⟨6,_,Qi _,by rw[e];exact turns_of 6 _ (awt_runs wb bk _ sc cv tv0 tb0 gc0 cb0 cb1 l0),by rw[awt_n];decide⟩)
 obtain ⟨cb0,cb1,rfl⟩:=K_two hK;obtain ⟨tv0,tb0,gc0,e⟩:=hires_on (wb:=wb) (bk:=bk) (base:=w.heap.size) (sc:=sc) (cv:=cv) hH;have hT':Turns (mcO 1) m (⟨S1,[(cb0,0),(cb1,0)],l1⟩:PSt) p':=hT;rw[e] at hT';have hp:=turns_det hT' (turns_of 6 _ (awt_runs wb bk w.heap.size sc cv tv0 tb0 gc0 cb0 cb1 l0));have hans:=awt_ans wb bk w.heap.size sc cv tv0 tb0 gc0 cb0 cb1 l0;rw[<-hp] at hans;have a0:=(O.ans 0 (by decide)).2.1 (by decide);rw[hans] at a0;have hD:Done7 (N+1) (λk=>N+4+3*k+2) w2:=⟨λk hk=>O.rows k hk,a0⟩
 obtain ⟨N3,gs3,a3,w3,sl3,T3,q3,r3,z3,h3,⟨rfl,hg3⟩,A3⟩:=alone_goes A2 h2 sl2 (hback (λ_=>False) (λg w'=>g=G (bc.at (ac.put oc.dst (.bool true)) (.inRegion ops rest :: k0)) cs∧Grows w2 w') (N+1) _ w2 w2 (Rel.refl w2) (λc hc=>hc.elim) hD (λv' w' hr hn hgr=>GoesI.stop λd=>⟨rfl,hgr.toAt hr d⟩));refine ⟨N1+N2+N3,gs3,w3,sl3,T3,q3,runNT_then (runNT_then r1 r2) r3,h3,A3,⟨by have:=s.old.size;have:=O.size;have:=hg3.size;omega,λb hb=>?_,hg3.os.trans (O.os.trans s.old.os),hg3.output.trans (O.out.trans s.old.output)⟩⟩;have hs1:=s.old.size;have hno:¬ (Own (newS wb bk w.heap.size sc []) [] b∨b=bk):=λh=>by have:=(s.own b h).1;omega
 have h5:=O.old b (by omega) (λh=>hno (.inl h)) (λh=>hno (.inr h));rw[hg3.old b (by have:=O.size;omega),h5.1,s.old.old b hb]
end Go.Proofs.YtfjjoohflcchnaaDoor.Gen
namespace Go.Proofs.YtfjjoohflcchnaaDoor.Gen
open Go Go.Lift Go.Conc Go.RowKit
variable {v:World} {a:Act}
section
variable (mc:Mc) (fid:FuncId) (caps:Array Value) (pk:Nat->Option Obj) (N n:Nat) (K:List (Nat×Int)) (pc:Nat->Option Addr) (ln cp rb:Nat->Nat) (cl:Nat->List Cl)
theorem scrs_calls:(scrs mc fid caps pk N n K pc ln cp rb cl).map (·.calls)=(List.range' 0 n).map cl:=by unfold scrs;rw[List.map_map];rfl
theorem scrs_ans (hlen:∀ j,j<n->(cl j).length=ln j):∀ x∈scrs mc fid caps pk N n K pc ln cp rb cl,x.ans=List.replicate x.calls.length (0,0):=λs hs=>by simp only[scrs,List.mem_map,List.mem_range'] at hs;obtain ⟨j,⟨i,hi,rfl⟩,rfl⟩:=hs;show List.replicate (ln (0+1*i)) (0,0)=List.replicate (cl (0+1*i)).length (0,0);rw[hlen _ (by omega)]
end
def T3:Code:=.seq (.seq q3_4 (.cond ( .tmp 39 ) (.seq q3_5 .ret) .skip)) (.seq q3_6 (.seq (.seq q3_7 (.cond ( .tmp 66 ) (.seq q3_8 .ret) .skip)) (.seq q3_9 (.seq q3_10 (.seq q3_11 (.seq (.seq q3_12 (.block 0 K3_0)) (.seq (.seq q3_27 (.block 4 K3_4)) (.seq (.seq q3_37 (.block 8 K3_8)) (.seq q3_42 .ret)))))))))
theorem fine_T3:fineCode Tryd.prog true LV T3:=fineCode_askS callV extT (by kernel_rfl)
theorem row2z (w:World) (m:Nat):(w.alloc (.cells (madeCells #[I 0,I 0] (m*2)) 38)).rowIs w.heap.size 38 (m*2) (λ_=>I 0):=by
 have h:=World.rowIs_alloc w (madeCells #[I 0,I 0] (m*2)) 38 (λ_=>I 0) (λi hi=>by
  rw[size_madeCells] at hi;have:i % 2=0∨i % 2=1:=by omega
  unfold madeCells;rw[Array.getElem?_map,Array.getElem?_range,if_pos hi];rcases this with e|e<;>simp[e])
 rw[size_madeCells] at h;exact h
theorem p3_42 {m N b o cap wb:Nat}{S:TS}{L:List Stp}{ln cp rb ro:Nat->Nat}{pc:Nat->Option Addr}{cl:Nat->List Cl}(h0:0<m) (hm:m<=1000) (hN:N<=8) (hS:SL N b o ln cp rb ro pc cl v) (hR:Rep zn S v) (hwb:wb=S.wb) (htr:S.tr=flat L) (hSn:S.n=L.length) (hs4:S.n<=400000) (hst:StsO N m cl ro0 L) (hA:Fl 223 [(1,I (m:Nat)),(2,.slice (some ⟨b,o,none⟩) N cap),(8,Pt wb 0)] a):
 q3_42.wp Tryd.prog (λe a' w'=>e=.normal∧Fl 223 [(6,.bool true)] a'∧Kq v.heap.size v w') a v:=by
 subst hwb;have H3:Hid (Calls Tryd.prog 23 #[Pt S.wb 0] v _):=⟨(body9A hR (by omega) (by rw[htr];exact flat_one L)).calls Tryd.func23 rfl⟩
 rw[htr] at H3;have H4:Hid (∀ (w1:World) (p:Option Addr) (g ct:Nat),Grows v w1->(0<S.n->p=some ⟨g,0,none⟩)->(∀ j x,(flat L)[j]? = some x->w1.cell? ⟨g,j,none⟩=some x)->Calls Tryd.prog 22 #[.slice p S.n ct,I (m:Nat),.slice (some ⟨b,o,none⟩) N cap] w1 (λe w'=>∃ r,e=.returned r∧r=.bool true∧Grows w1 w')):=⟨λw1 p g ct hg hp hc=>(steps_any h0 hm hN (hS.go ⟨hg.os,hg.output,hg.size,hg.old⟩) hSn hs4 hp hc hst).calls Tryd.func22 rfl⟩
 clear hR htr hs4 hst hS h0 hm hN hSn;obtain ⟨hsz,hd,hp⟩:=hA;obtain ⟨u,rfl,hg⟩:=litN hsz hd;simp only[List.forall_mem_cons,hg] at hp;obtain ⟨u1,u2,u8,-⟩:=hp;clear hg hsz hd;unfold q3_42 C3 Tryd.f3 seq1 seq2;simp only[Qa,lits,Nat.reduceAdd,u1,u2,u8];clear u1 u2 u8
 go_wp2_with (first
  |(go_at_call 23;refine H3.out.mono ?_;rintro e w1 ⟨_,rfl,p,g,ct,rfl,k1,k2,k3⟩)
  |(go_at_call 22;refine (H4.out w1 p g ct k3 (λh=>(k1 h).1) k2).mono ?_;rintro e w2 ⟨_,rfl,rfl,k4⟩))
 have kk:Kq v.heap.size v w2:=⟨k4.os.trans k3.os,k4.output.trans k3.output,Qk k3.size k4.size,λi hi=>(k4.old i (Qp hi k3.size)).trans (k3.old i hi)⟩
 first|exact ⟨⟨rfl,rfl,by
  intro p hp;simp only[Sm,or_false] at hp;rcases hp with rfl<;>first|rfl|exact congrArg I (by omega)|exact congrArg Value.bool (by simp<;>omega)|exact congrArg Value.bool (by simp)|(simp;done)⟩,kk⟩|exact ⟨rfl,⟨rfl,rfl,by
  intro p hp;simp only[Sm,or_false] at hp;rcases hp with rfl<;>first|rfl|exact congrArg I (by omega)|exact congrArg Value.bool (by simp<;>omega)|exact congrArg Value.bool (by simp)|(simp;done)⟩,kk⟩
theorem tail3_no {E:Int}(hE:E=1∨E=2) (hA:Fl 223 [(7,.bool true),(10,I E)] a):T3.wp Tryd.prog (λe a' w'=>e=.ret∧Fl 223 [(6,.bool true)] a'∧Kq v.heap.size v w') a v:=by
 unfold T3;refine wp_seq (wp_then (p3_4n (by omega) hA) λa1 w1 h=>?_);obtain ⟨h1,rfl⟩:=h;refine wp_cond_true (h1.hd rfl) ?_;rcases hE with rfl|rfl
 .refine wp_then (p3_5a h1.tl) λa2 w2 h=>?_
  obtain ⟨h2,rfl⟩:=h;exact wp_ret ⟨rfl,h2,Kq.refl _ _⟩
 .refine wp_then (p3_5b h1.tl) λa2 w2 h=>?_
  obtain ⟨h2,rfl⟩:=h;exact wp_ret ⟨rfl,h2,Kq.refl _ _⟩
theorem tail3_yes {m N b o cap M:Nat}{S:TS}{A ln cp rb ro:Nat->Nat}{pc:Nat->Option Addr}{cl:Nat->List Cl}{l:Nat->Ph}{L:List Stp}{F:Nat->Int×Int}(h0:0<m) (hm:m<=1000) (hN:N<=8) (h64:∀ j,j<N->ln j<=64)
 (hS:SL N b o ln cp rb ro pc cl v) (hL:AL N M A ln l v) (hR:Rep zn S v) (hsk:S.stk=false) (htr:S.tr=flat L) (hSn:S.n=L.length) (hs4:S.n<=400000) (hst:StsO N m cl ro0 L) (hT:ToldO N m cl F l) (hAc:∀ h,CallO N m cl h->ActO N m cl h (F h))
 (hA:Fl 223 [(7,.bool true),(10,I 0),(1,I (m:Nat)),(2,.slice (some ⟨b,o,none⟩) N cap),(8,Pt S.wb 0),(9,.slice (some ⟨M,0,none⟩) N N)] a):T3.wp Tryd.prog (λe a' w'=>e=.ret∧Fl 223 [(6,.bool true)] a'∧Kq v.heap.size v w') a v:=by
 unfold T3;refine wp_seq (wp_then (p3_4 hA) λa1 w1 h=>?_);obtain ⟨h1,rfl⟩:=h;refine wp_cond_false (h1.hf rfl) (wp_skip ?_);show Code.wp _ _ _ _ _;refine wp_then (p3_6 hR rfl hsk h1.tl) λa2 w2 h=>?_;obtain ⟨h2,rfl⟩:=h;refine wp_seq (wp_then (p3_7 h0 hm h2) λa3 w3 h=>?_);obtain ⟨h3,rfl⟩:=h;refine wp_cond_false (h3.hf rfl) (wp_skip ?_);show Code.wp _ _ _ _ _;refine wp_then (p3_9 hm h3.tl) λa4 w4 h=>?_;obtain ⟨h4,hw4⟩:=h;have r1:w4.rowIs w3.heap.size 38 (m*2) (λ_=>I 0):=hw4▸row2z w3 m;have z4:w4.heap.size=w3.heap.size+1:=by rw[hw4];simp
 have k4:Kq w3.heap.size w3 w4:=hw4▸Kq.alloc _ (Qi _);refine wp_then (p3_10 hm h4) λa5 w5 h=>?_;obtain ⟨h5,hw5⟩:=h;rw[z4] at h5;have r2:w5.rowIs (w3.heap.size+1) 4 m (λ_=>.bool false):=by rw[hw5,<-z4];exact World.rowIs_made w4 (.bool false) m 4
 have r1:w5.rowIs w3.heap.size 38 (m*2) (λ_=>I 0):=hw5▸r1.alloc _;have z5:w5.heap.size=w3.heap.size+2:=by rw[hw5];simp;omega
 have k5:Kq w3.heap.size w3 w5:=k4.trans (hw5▸(Kq.alloc _ (by omega)));refine wp_then (p3_11 hm h5) λa6 w6 h=>?_;obtain ⟨h6,hw6⟩:=h;rw[z5] at h6;have r3:w6.rowIs (w3.heap.size+2) 4 m (λ_=>.bool false):=by rw[hw6,<-z5];exact World.rowIs_made w5 (.bool false) m 4
 have hM:M3 m w3.heap.size (λ_=>0) (λ_=>false) (λ_=>false) w6:=⟨(hw6▸r1.alloc _:w6.rowIs w3.heap.size 38 (m*2) (λ_=>I 0)),(hw6▸r2.alloc _:w6.rowIs (w3.heap.size+1) 4 m (λ_=>.bool false)),r3⟩
 have k6:Kq w3.heap.size w3 w6:=k5.trans (hw6▸(Kq.alloc _ (by omega)));clear hw4 hw5 hw6 r1 r2 r3 z4 z5 k4 k5 h4 h5;refine wp_seq (l3_first h0 hm hN hS hL h64 hT hM k6 (λh _ ha=>by cases ha) h6 λa7 w7 fr an h7 hM7 hk7 hI7=>?_);show Code.wp _ _ _ _ _;refine wp_seq (l3_second h0 hm hN hS hL h64 hM7 hk7 hI7 h7 λa8 w8 mf h8 hM8 hk8 hR8=>?_);show Code.wp _ _ _ _ _;refine wp_seq (l3_third hm hM8 (λh hh ha=>?_) h8 λa9 h9=>?_)
 .obtain ⟨i,hi,k,c,hc,hco,hw,he⟩:=hAc h (hI7 h hh ha).2.2
  have:=hR8 i k c (.inl hi) hc hco (by rw[hw];exact ha) (by rw[hw];exact he);rw[hw] at this;exact this
 show Code.wp _ _ _ _ _;have gR:Grows w3 w8:=hk8.grows (Qi _);refine wp_then (p3_42 (S:=S) h0 hm hN (hS.go hk8) (hR.grows gR.size gR.old) rfl htr hSn hs4 hst (show Fl 223 [(1,I (m:Nat)),(2,.slice (some ⟨b,o,none⟩) N cap),(8,Pt S.wb 0)] a9 from h9.sub (by simp))) λa10 w10 h=>?_;exact wp_ret ⟨rfl,h.1,hk8.trans (h.2.le hk8.size)⟩
theorem alone_ends {gs:Array Goroutine}{w:World}{T:Trace}{q:Nat->Nat}(A:Alone gs w T q) {a:Goroutine}(hg:gs[0]? = some a) (sl:Option (Nat×Nat)) {Post:Value->World->Prop}(hE:∀ B,∀ d,AtEnd Tryd.prog (λ_=>False) B Post a (w.at d)):
 ∃ N last o w' t',runNT Tryd.prog (N+1) (crowd gs w sl) T=(.ended o w',t')∧runN Tryd.prog N (crowd gs w sl)=.next last∧step Tryd.prog last=.ended o w'∧Go.Conc.Good Tryd.prog Post last o w' t':=by
 obtain ⟨B,hB,hP⟩:=A.past;refine beside_ends (D:=λ_ _ es=>es=#[]) (Shun:=λ_=>False) (B:=B) (n:=0) (λ_ _ es h e he=>by subst h;simp at he) hg A.left hP ?_;rintro w1 ⟨d,rfl⟩;exact hE B d
end Go.Proofs.YtfjjoohflcchnaaDoor.Gen
