/- CounterLinear, part 22 of 24: R3GoesW, R3GoesC. -/
import Derived.Test.YtfjjoohflcchnaaDoorCounterLinear01
import Derived.Test.YtfjjoohflcchnaaDoorCounterLinear15
import Derived.Test.YtfjjoohflcchnaaDoorCounterLinear21
set_option linter.unusedSimpArgs false
set_option linter.unusedVariables false
set_option maxHeartbeats 4000000
set_option maxRecDepth 100000
noncomputable section
namespace Go.Proofs.YtfjjoohflcchnaaDoor.His
open Go.RowKit
variable {T c i k:Nat} {σ:Type}
def Sup (T m:Nat):Prop:=∀ i,T.testBit i=true->m.testBit i=true
theorem sup_refl (T:Nat):Sup T T:=λ_ h=>h
theorem sup_or {m:Nat}(h:Sup (T ||| 2 ^ i) m):Sup T m∧m.testBit i=true :=
 ⟨λj hj=>h j (by rw[bit_or,hj];rfl),h i (by rw[bit_or];simp)⟩
theorem not_sup (h:T.testBit i=false):¬ Sup (T ||| 2 ^ i) T:=λhs=>by have:=(sup_or hs).2;rw[h] at this;cases this
def Vain (ways:Ways σ) (l:List Ev) (f:Nat->List σ) (m:Nat):Prop:=∀ t∈f m,¬ Goes ways l m t
def VainUp (ways:Ways σ) (l:List Ev) (T:Nat) (f:Nat->List σ):Prop:=∀ m,Sup T m->Vain ways l f m
structure Mid {σ:Type}(ways:Ways σ) (l:List Ev) (T:Nat) (s:σ) (f f2:Nat->List σ):Prop where
 above:∀ m,Sup T m->m≠T->Vain ways l f2 m
 here:f2 T=f T++[s]
 other:∀ m,¬ Sup T m->f2 m=f m
def updF (f:Nat->List σ) (T:Nat) (x:List σ):Nat->List σ:=λm=>if m=T then x else f m
theorem updF_at (f:Nat->List σ) (T:Nat) (x:List σ):updF f T x T=x:=by unfold updF;rw[if_pos rfl]
theorem updF_ne (f:Nat->List σ) {m:Nat}(x:List σ) (h:m≠T):updF f T x m=f m:=by unfold updF;rw[if_neg h]
section
variable {σ:Type}{ways:Ways σ}{l:List Ev}{T:Nat}{s:σ}{f f2 f3:Nat->List σ}
theorem mid_start (h:VainUp ways l T f):Mid ways l T s f (updF f T (f T++[s])) where
 above m hs hn:=by unfold Vain;rw[updF_ne f _ hn];exact h m hs
 here:=updF_at f T _
 other m hs:=updF_ne f _ (λe=>hs (e▸sup_refl T))
theorem mid_down (hm:Mid ways l T s f f2) (hi:T.testBit i=false):VainUp ways l (T ||| 2 ^ i) f2:=λm hs =>hm.above m (sup_or hs).1 (λe=>by have:=(sup_or hs).2;rw[e,hi] at this;cases this)
theorem mid_up (hm:Mid ways l T s f f2) (hi:T.testBit i=false) (h3:VainUp ways l (T ||| 2 ^ i) f3) (ho:∀ m,¬ Sup (T ||| 2 ^ i) m->f3 m=f2 m):Mid ways l T s f f3 where
 above m hs hn:=by by_cases h:Sup (T ||| 2 ^ i) m;exact h3 m h;unfold Vain;rw[ho m h];exact hm.above m hs hn
 here:=by rw[ho T (not_sup hi)];exact hm.here
 other m hs:=by rw[ho m (λh=>hs (sup_or h).1)];exact hm.other m hs
theorem mid_end (hm:Mid ways l T s f f2) (h0:VainUp ways l T f) (hn:¬ Goes ways l T s):VainUp ways l T f2:=λm hs=>by
 by_cases h:m=T
 .subst h
  intro t ht;rw[hm.here,List.mem_append] at ht;rcases ht with ht|ht;exact h0 m hs t ht
  .rw[List.mem_singleton] at ht
   rw[ht];exact hn
 exact hm.above m hs h
def NoWay (ways:Ways σ) (l:List Ev) (T:Nat) (s:σ) (i:Nat):Prop :=
 T.testBit i=false->(∀ k,k<l.length->evAhead (l.getD k ev0) (l.getD i ev0)=true->T.testBit k=true)->∀ o,o∈ways s (l.getD i ev0)->((l.getD i ev0).over=true->o.1=(l.getD i ev0).ans)->¬ Goes ways l (T ||| 2 ^ i) o.2
theorem goes_no (hd:¬ ∀ i,i<l.length->(l.getD i ev0).over=true->T.testBit i=true) (h:∀ i,i<l.length->NoWay ways l T s i):¬ Goes ways l T s:=λhg=>by
 rcases goes_step.1 hg with h'|⟨i,h1,h2,h3,o,h4,h5,h6⟩
 exact hd h';exact h i h1 h2 h3 o h4 h5 h6
theorem goes_yes (h1:i<l.length) (h2:T.testBit i=false) (h3:∀ k,k<l.length->evAhead (l.getD k ev0) (l.getD i ev0)=true->T.testBit k=true) {o:(Int×Int)×σ}(h4:o∈ways s (l.getD i ev0)) (h5:(l.getD i ev0).over=true->o.1=(l.getD i ev0).ans) (h6:Goes ways l (T ||| 2 ^ i) o.2):Goes ways l T s :=
 goes_step.2 (.inr ⟨i,h1,h2,h3,o,h4,h5,h6⟩)
end
def cnt:Nat->Nat
 |0=>0
 |c+1=>1+2*((c+1)*cnt c)
theorem cnt_le (c:Nat):cnt c<=cnt (c+1):=by show cnt c<=1+2*((c+1)*cnt c);have:1*cnt c<=(c+1)*cnt c:=Nat.mul_le_mul_right _ (by omega);omega
theorem cnt_mono {a:Nat}:∀ {b:Nat},a<=b->cnt a<=cnt b
 |0,h=>by have:a=0:=by omega
          subst this;exact Qi _
 |b+1,h=>by by_cases e:a=b+1;subst e;exact Qi _;exact Qk (cnt_mono (by omega)) (cnt_le b)
theorem cnt_twelve (h:c<=12):cnt c<=1272785005033:=Qk (cnt_mono h) (by decide)
theorem left_mono (T:Nat) {a:Nat}:∀ {b:Nat},a<=b->left T a<=left T b
 |0,h=>by have:a=0:=by omega
          subst this;exact Qi _
 |b+1,h=>by
  by_cases e:a=b+1;subst e;exact Qi _
  .refine Qk (left_mono T (b:=b) (by omega)) ?_
   show left T b<=left T b+_;omega
theorem left_no (h:T.testBit k=false):left T (k+1)=left T k+1:=by show left T k+(if T.testBit k=true then 0 else 1)=_;rw[if_neg (by rw[h];decide)]
theorem cnt_room {n j:Nat}(hc:left T n=c+1) (hk:k<n) (hb:T.testBit k=false) (hj:j<2):1+2*(left T k*cnt c)+j*cnt c+cnt c<=cnt (c+1):=by have h1:left T (k+1)<=left T n:=left_mono T (by omega);rw[left_no hb,hc] at h1;show _<=1+2*((c+1)*cnt c);have h2:(left T k+1)*cnt c<=(c+1)*cnt c:=Nat.mul_le_mul_right _ (by omega);rw[Nat.add_mul,Nat.one_mul] at h2;have h3:j*cnt c<=1*cnt c:=Nat.mul_le_mul_right _ (by omega);omega
theorem cnt_next (hb:T.testBit k=false):1+2*(left T k*cnt c)+2*cnt c=1+2*(left T (k+1)*cnt c):=by rw[left_no hb,Nat.add_mul,Nat.one_mul];omega
end Go.Proofs.YtfjjoohflcchnaaDoor.His
namespace Go.Proofs.YtfjjoohflcchnaaDoor.R3
open Go.RowKit Go.Proofs.YtfjjoohflcchnaaDoor.His Go.Deep Go.Maps
variable {w w':World} {v:Value} {base:Nat} {ss:List Value}
def IsSl (x:Value):Prop:=∃ p l c,x=Value.slice p l c
def KB (w w':World):Prop:=w.heap.size<=w'.heap.size∧∀ b o x,w.cell? ⟨b,o,none⟩=some (I x)->w'.heap[b]? = w.heap[b]?
theorem kb_below (h:Below w.heap.size w w'):KB w w':=⟨h.size,λ_ _ _ hc=>h.block _ (World.block_lt_of_cell? _ _ hc)⟩
theorem kb_refl (w:World):KB w w:=⟨Qi _,λ_ _ _ _=>rfl⟩
theorem KB.cells (h:KB w w') {b o:Nat}{x:Int}(hc:w.cell? ⟨b,o,none⟩=some (I x)) (o':Nat):w'.cell? ⟨b,o',none⟩=w.cell? ⟨b,o',none⟩ :=
 World.cell?_of_block (h.2 b o x hc)
theorem KB.trans {a b c:World}(h:KB a b) (k:KB b c):KB a c:=⟨Qk h.1 k.1,λb' o x hc=>by rw[k.2 b' o x (by rw[h.cells hc];exact hc),h.2 b' o x hc]⟩
theorem KB.si (h:KB w w') {s:List Int}(hs:SI w v s):SI w' v s:=by
 obtain ⟨p,cap,rfl,h1,h2,h3⟩:=hs;refine ⟨p,cap,rfl,h1,h2,λi a hi=>?_⟩;obtain ⟨blk,off,e,hlt,hr⟩:=h3 i a hi;have hc:w.cell? ⟨blk,off+i*1,none⟩=some (I a):=by simpa using hr 0 (I a) rfl
 refine ⟨blk,off,e,Qp hlt h.1,λj u hj=>?_⟩;rw[h.cells hc];exact hr j u hj
def RowS (w:World) (base:Nat) (v:Value) (ss:List Value):Prop :=
 (v=.slice none 0 0∧ss=[])∨∃ g cap cur,v=.slice (some ⟨g,0,none⟩) ss.length cap∧base<=g∧w.heap[g]? = some (.cells cur 22 (0,0))∧ss.length<=cap∧cap<=maxLen∧cur.size=cap∧cur.toList.take ss.length=ss∧∀ x∈cur.toList,IsSl x
theorem RowS.form (h:RowS w base v ss):∃ p cap,v=.slice p ss.length cap∧ss.length<=cap∧cap<=maxLen:=by
 rcases h with ⟨rfl,rfl⟩|⟨g,cap,cur,rfl,_,_,h1,h2,_⟩
 exact ⟨none,0,rfl,Qi _,Nat.zero_le _⟩;exact ⟨_,cap,rfl,h1,h2⟩
theorem RowS.own (h:RowS w base v ss):w.ownsRow base 22 1 v ss.length ss:=by
 refine ⟨by simp,?_⟩;rcases h with ⟨rfl,rfl⟩|⟨g,cap,cur,rfl,h0,hg,h1,h2,h3,h4,_⟩
 exact .inl ⟨rfl,rfl⟩;exact .inr ⟨g,cap,cur,rfl,h0,hg,h1,h2,by simpa using h3,by simpa using h4⟩
theorem RowS.lt (h:RowS w base v ss):∀ g,v.ownBlock=some g->base<=g∧g<w.heap.size:=h.own.lt
theorem RowS.block (h:RowS w base v ss) (hb:∀ g,v.ownBlock=some g->w'.heap[g]? = w.heap[g]?):RowS w' base v ss:=by
 rcases h with h|⟨g,cap,cur,rfl,h0,hg,h1⟩
 exact .inl h;exact .inr ⟨g,cap,cur,rfl,h0,(hb g rfl).trans hg,h1⟩
theorem RowS.noInt (h:RowS w base v ss) {g:Nat}(hg:v.ownBlock=some g) (o:Nat) (x:Int):w.cell? ⟨g,o,none⟩≠some (I x):=by
 rcases h with ⟨rfl,_⟩|⟨g',cap,cur,rfl,_,hb,_,_,_,_,hs⟩
 cases hg
 .have:g'=g:=Qd hg
  subst this;intro hc;simp only[World.cell?,hb] at hc;have hm:I x∈cur.toList:=by rw[Array.mem_toList_iff];exact Array.mem_of_getElem? (by simpa using hc)
  obtain ⟨_,_,_,e⟩:=hs _ hm;cases e
theorem RowS.tag (h:RowS w base v ss) {g:Nat}(hg:v.ownBlock=some g):∃ cur,w.heap[g]? = some (.cells cur 22 (0,0)):=by
 rcases h with ⟨rfl,_⟩|⟨g',cap,cur,rfl,_,hb,_⟩
 cases hg
 .have:g'=g:=Qd hg
  subst this;exact ⟨cur,hb⟩
theorem RowS.cell {p:Option Addr}{n cap:Nat}(h:RowS w base (.slice p n cap) ss) {i:Nat}{sv:Value}(hi:ss[i]? = some sv):∃ g,p=some ⟨g,0,none⟩∧w.cell? ⟨g,i,none⟩=some sv:=by
 rcases h with ⟨_,rfl⟩|⟨g,cap',cur,e,_,hb,_,_,_,h4,_⟩
 simp at hi
 .cases e
  refine ⟨g,rfl,?_⟩;have hl:i<ss.length:=(Qc hi).1;rw[<-h4,List.getElem?_take_of_lt hl] at hi;simp only[World.cell?,hb];simpa using hi
theorem info47:(Tryd.prog.info? 22).map (λi=>(i.zero,i.size,i.bytes))=some (some (.slice none 0 0),1,24):=by kernel_rfl
theorem zero_sl (n:Nat):∀ x∈(Builtin.zeroCells (Value.slice none 0 0).cells n).toList,IsSl x:=by intro x hx;simp only[Builtin.zeroCells,Array.toList_map,List.mem_map] at hx;obtain ⟨i,_,rfl⟩:=hx;simp only[Value.cells];exact ⟨none,0,0,by simp[Nat.mod_one]⟩
theorem rowS_append (w:World) (h:RowS w base v ss) (ty:TypeId) (ad:Addr) (c:Nat) (sv:Value) (hsv:IsSl sv) (hc:w.cell? ad=some sv) (hb:(ss.length+1)*24<=140737488355328) (hbase:base<=w.heap.size):
 ∃ g cap w',(Builtin.append_ #[85,85] ty #[v,.slice (some ad) 1 c]).run Tryd.prog w=.ok (.slice (some ⟨g,0,none⟩) (ss.length+1) cap) w'∧RowS w' base (.slice (some ⟨g,0,none⟩) (ss.length+1) cap) (ss++[sv]) ∧
   w.grownBy w' v.ownBlock∧(v.ownBlock=some g∨g=w.heap.size):=by
 obtain ⟨i,hi,hz,h1,h2⟩:=info_parts info47;have hnews:∀ j u,[sv][j]? = some u->w.cell? (ad.add j)=some u:=λj u hj=>by
  have:j=0:=by have:=(Qc hj).1;simp at this;omega
  subst this;simp at hj;subst hj;have e:ad.add 0=ad:=by obtain ⟨b,o,sp⟩:=ad;have:=World.cell?_spot hc;simp only at this;subst this;rw[Addr.add_mid];rfl
  rw[e];exact hc
 have h1c:∀ u∈[sv],u.oneCell'=true:=by intro u hu;simp at hu;subst hu;obtain ⟨p,l,c',rfl⟩:=hsv;rfl
 have hz1:(Value.slice none 0 0).cells.size=1:=rfl;have hgrown:∀ (old:Nat) (xs:List Value),xs.length=ss.length->(∀ x∈xs,IsSl x)->xs=ss->old<ss.length+1 ->
  RowS (w.drew.alloc (.cells (xs.toArray++[sv].toArray++Builtin.zeroCells (Value.slice none 0 0).cells (grownCap w (ss.length+1) old 22 - (ss.length+1))) 22)) base (.slice (some ⟨w.heap.size,0,none⟩) (ss.length+1) (grownCap w (ss.length+1) old 22)) (ss++[sv]):=by
  intro old xs hxl hxs hxe ho;subst hxe;have hge:=grownCap_ge w (xs.length+1) old 22;have hcm:grownCap w (xs.length+1) old 22<=maxLen:=grownCap_le_maxLen w (xs.length+1) old 22 (by unfold maxLen;omega);refine .inr ⟨w.heap.size,_,_,by simp,hbase,heap_alloc_new w.drew _,by simpa using hge,hcm,?_,?_,?_⟩
  .simp only[Array.size_append,List.size_toArray,size_zeroCells,hz1,List.length_cons,List.length_nil]
   omega
  .simp only[Array.toList_append,List.append_assoc,Qj,List.length_cons,List.length_nil]
   rw[<-List.append_assoc];have:(xs++[sv]).length=xs.length+(0+1):=by simp
   rw[<-this];exact List.take_left
  .intro x hx
   simp only[Array.toList_append,List.mem_append] at hx;rcases hx with (hx|hx)|hx;exact hxs x hx;simp at hx;subst hx;exact hsv;exact zero_sl _ x hx
 have hgb:∀ (o:Obj) (row:Option Nat),w.grownBy (w.drew.alloc o) row:=λo row=>⟨rfl,rfl,rfl,by simp,λk hk _=>Below.heap_alloc w.drew o k hk⟩
 rcases h with ⟨rfl,rfl⟩|⟨g,cap,cur,rfl,hbg,hg,hnc,hcm,hcs,htake,hall⟩
 .have hr:=run_append_nil (P:=Tryd.prog) w 85 ty 22 i (.slice none 0 0) Tryd.underlying85 hi hz ad 1 c [sv] (by rw[h1];rfl) hnews (by omega) (by omega) (by rw[h2];omega)
  have:=hgrown 0 [] rfl (by simp) rfl (by omega);simp only[List.length_nil,Nat.zero_add,Array.empty_append] at this hr ⊢;exact ⟨_,_,_,hr,this,hgb _ _,.inr rfl⟩
 .by_cases hroom:ss.length+1<=cap
  .have hr:=run_append_room (P:=Tryd.prog) w 85 ty 22 i Tryd.underlying85 hi g ss.length cap cur hg ad 1 c [sv] (by rw[h1];rfl) hnews h1c hroom (by rw[h1];simp;omega)
   refine ⟨g,cap,_,hr,.inr ⟨g,cap,_,by simp,hbg,setRow_heap w g cur _ 22 _ hg,by simpa using hroom,hcm,?_,?_,?_⟩,⟨rfl,rfl,rfl,by simp,λk _ hk=>setRow_other w g k _ (λe=>hk (by simp[Value.ownBlock,e]))⟩,.inl rfl⟩
   .simp only[h1,List.size_toArray,Qj,List.length_take,List.length_drop,Array.length_toList,List.length_cons,List.length_nil]
    omega
   .rw[h1,Nat.mul_one,htake,List.append_assoc]
    show List.take _ (ss++([sv]++_))=_;rw[<-List.append_assoc];exact List.take_left
   .intro x hx
    rw[h1,Nat.mul_one] at hx;simp only[List.mem_append] at hx;rcases hx with (hx|hx)|hx;exact hall x (List.mem_of_mem_take hx);simp at hx;subst hx;exact hsv;exact hall x (List.mem_of_mem_drop hx)
  .have holds:∀ j u,ss[j]? = some u->w.cell? ((⟨g,0,none⟩:Addr).add j)=some u:=λj u hj=>by rw[Addr.add_mid];have hl:j<ss.length:=(Qc hj).1;rw[<-htake,List.getElem?_take_of_lt hl] at hj;simp only[World.cell?,hg];simpa using hj
   have hr:=run_append_grow (P:=Tryd.prog) w 85 ty 22 i (.slice none 0 0) Tryd.underlying85 hi hz ⟨g,0,none⟩ ss.length cap ss (by rw[h1];omega) holds ad 1 c [sv] (by rw[h1];rfl) hnews (by omega) (by omega) (growslice_fits (by omega) (by rw[h2];exact hb));exact ⟨_,_,_,hr,hgrown cap ss rfl (λx hx=>hall x (List.mem_of_mem_take (by rw[htake];exact hx))) rfl (by omega),hgb _ _,.inr rfl⟩
theorem step_append_rowS {ops:Array Oper}{o:Oper}{a:Act}{K:Act->World->Prop}{Q:Exit->Act->World->Prop}{E:Prop}(hgd:o.guard=none) (s x:Operand)
 (ho:o.op=.call { callee:=.builtin .append,args:=#[s,x],argTypes:=#[85,85] }) (base:Nat) (v:Value) (ss:List Value) (hs:a.eval s=v) (hown:RowS w base v ss) (ad:Addr) (c:Nat) (sv:Value) (hx:a.eval x=.slice (some ad) 1 c)
 (hc:w.cell? ad=some sv) (hsv:IsSl sv) (hb:(ss.length+1)*24<=140737488355328) (hbase:base<=w.heap.size) (n:Nat) (hn:ss.length=n)
 (h:∀ g cap w',RowS w' base (.slice (some ⟨g,0,none⟩) (n+1) cap) (ss++[sv])->w.grownBy w' v.ownBlock->(v.ownBlock=some g∨g=w.heap.size)->K (a.put o.dst (.slice (some ⟨g,0,none⟩) (n+1) cap)) w'):
 if Region.wanted o (yielded ops a.tmps)=true then Oper.wp Tryd.prog o a w K Q else E:=by
 have hw:Region.wanted o (yielded ops a.tmps)=true:=by simp[Region.wanted,hgd]
 rw[if_pos hw];subst hn;obtain ⟨g,cap,w',hr,h2,h3,h4⟩:=rowS_append w hown o.type ad c sv hsv hc hb hbase;unfold Oper.wp execOp;simp only[ho,resolve,invoke,builtin,Sem.run_bind,Sem.run_pure,Result.andThen_ok,List.map_toArray,List.map_cons,List.map_nil,hs,hx,hr];exact h g cap w' h2 h3 h4
end Go.Proofs.YtfjjoohflcchnaaDoor.R3
namespace Go.Proofs.YtfjjoohflcchnaaDoor.R3
open Go.RowKit Go.Proofs.YtfjjoohflcchnaaDoor.His Go.Deep Go.Maps
variable {w:World} {v:Value} {T b k n:Nat}
def RowOf (w:World) (base:Nat) (v:Value) (fs:List (List Int)):Prop :=
 ∃ ss,RowS w base v ss∧ss.length=fs.length∧∀ (i:Nat) t,fs[i]? = some t->∃ sv,ss[i]? = some sv∧SI w sv t
theorem RowOf.kb {w':World}{base:Nat}{fs:List (List Int)}(h:RowOf w base v fs) (hk:KB w w') (hb:∀ g,v.ownBlock=some g->w'.heap[g]? = w.heap[g]?):RowOf w' base v fs:=by obtain ⟨ss,h1,h2,h3⟩:=h;refine ⟨ss,h1.block hb,h2,λi t hi=>?_⟩;obtain ⟨sv,e,hs⟩:=h3 i t hi;exact ⟨sv,e,hk.si hs⟩
structure Met (w:World) (base B M:Nat) (lv:Value) (ob st:Int) (N:Nat) (f:Nat->List (List Int)):Prop where
 b0:w.cell? ⟨B,0,none⟩=some (I ob)
 b1:w.cell? ⟨B,1,none⟩=some (I st)
 b2:w.cell? ⟨B,2,none⟩=some lv
 b3:w.cell? ⟨B,3,none⟩=some (.slice (some ⟨M,0,none⟩) N N)
 hM:base<=M
 rows:∃ vs:Nat->Value,w.rowIs M 85 N vs∧∀ m,m<N->RowOf w base (vs m) (f m)∧∀ m',m'<N->m'≠m->∀ g,(vs m).ownBlock=some g->(vs m').ownBlock≠some g
section
variable {w w':World}{base B M N T:Nat}{lv:Value}{ob st:Int}{f:Nat->List (List Int)}
theorem Met.later (h:Met w base B M lv ob st N f) (hb:Below w.heap.size w w'):Met w' base B M lv ob st N f:=by obtain ⟨vs,h1,h2⟩:=h.rows;refine ⟨kcell hb h.b0,kcell hb h.b1,kcell hb h.b2,kcell hb h.b3,h.hM,vs,h1.of_block (hb.block M h1.lt),λm hm=>⟨(h2 m hm).1.kb (kb_below hb) (λg hg=>?_),(h2 m hm).2⟩⟩;obtain ⟨ss,hr,_⟩:=(h2 m hm).1;exact hb.block g (hr.lt g hg).2
theorem Met.at (h:Met w base B M lv ob st N f) (hT:T<N):∃ p cap ss,w.cell? ⟨M,T,none⟩=some (.slice p (f T).length cap)∧w.frozen? ⟨M,T,none⟩=false∧RowS w base (.slice p (f T).length cap) ss∧ss.length=(f T).length ∧
 (f T).length<=cap∧cap<=maxLen∧∀ (i:Nat) t,(f T)[i]? = some t->∃ sv,ss[i]? = some sv∧SI w sv t:=by
 obtain ⟨vs,h1,h2⟩:=h.rows;obtain ⟨⟨ss,hr,hl,hs⟩,_⟩:=h2 T hT;obtain ⟨p,cap,e,g1,g2⟩:=hr.form;have hc:=h1.cell hT;rw[e,hl] at hc;rw[e,hl] at hr;exact ⟨p,cap,ss,hc,h1.frozen T,hr,hl,by omega,g2,hs⟩
theorem Met.apart (h:Met w base B M lv ob st N f) {o:Nat}{x:Int}(hc:w.cell? ⟨b,o,none⟩=some (I x)):b≠M:=by
 rintro rfl;obtain ⟨vs,h1,h2⟩:=h.rows;obtain ⟨c,hb,hn,hcs⟩:=h1;simp only[World.cell?,hb] at hc;have hc':c[o]? = some (I x):=by simpa using hc
 have ho:o<N:=by have:=(Qb hc').1;omega
 rw[hcs o ho] at hc';obtain ⟨⟨ss,hr,_⟩,_⟩:=h2 o ho;obtain ⟨p,cap,e,_⟩:=hr.form;rw[e] at hc';cases hc'
theorem Met.push (h:Met w base B M lv ob st N f) (hT:T<N) {nv:Value}{ss:List Value}{sv:Value}{s:List Int}{g cap:Nat}{w6:World}(hc:w.cell? ⟨M,T,none⟩=some v) (hr:RowS w base v ss) (hl:ss.length=(f T).length)
 (hss:∀ (i:Nat) t,(f T)[i]? = some t->∃ sv,ss[i]? = some sv∧SI w sv t) (hsv:SI w sv s) (hnv:nv=.slice (some ⟨g,0,none⟩) (ss.length+1) cap) (h6:RowS w6 base nv (ss++[sv])) (hg:w.grownBy w6 v.ownBlock) (hat:v.ownBlock=some g∨w.heap.size<=g):
 Met (w6.setCell ⟨M,T,none⟩ nv) base B M lv ob st N (updF f T (f T++[s]))∧KB w (w6.setCell ⟨M,T,none⟩ nv):=by
 obtain ⟨vs,h1,h2⟩:=h.rows;have hvT:vs T=v:=by have:=h1.cell hT;rw[hc] at this;exact (Qd this).symm
 have hMlt:M<w.heap.size:=h1.lt;obtain ⟨mc,hmb,hmn,hmc⟩:=h1;have htagM:∀ {x:Value} {xs:List Value},RowS w base x xs->∀ k,x.ownBlock=some k->k≠M:=λhx k hk e=>by obtain ⟨cur,ht⟩:=hx.tag hk;rw[e,hmb] at ht;cases ht
 have hMv:some M≠v.ownBlock:=λe=>htagM hr M e.symm rfl;have hnb:nv.ownBlock=some g:=by rw[hnv];rfl
 have hgM:g≠M:=by rcases hat with e|e;exact htagM hr g e;omega
 have hkb:KB w (w6.setCell ⟨M,T,none⟩ nv):=by refine ⟨by simp[World.setCell];exact hg.size,λb o x hx=>?_⟩;rw[Below.heap_setCell _ _ _ _ (h.apart hx)];exact hg.block b (World.block_lt_of_cell? _ _ hx) (λe=>hr.noInt e.symm o x hx)
 have hrow:(w6.setCell ⟨M,T,none⟩ nv).rowIs M 85 N (λm=>if m=T then nv else vs m) :=
  (World.rowIs.of_block ⟨mc,hmb,hmn,hmc⟩ (hg.block M hMlt hMv)).set T nv
 refine ⟨⟨?_,?_,?_,?_,h.hM,_,hrow,λm hm=>?_⟩,hkb⟩;rw[hkb.cells h.b0];exact h.b0;rw[hkb.cells h.b0];exact h.b1;rw[hkb.cells h.b0];exact h.b2;rw[hkb.cells h.b0];exact h.b3
 .by_cases e:m=T
  .subst e
   simp only[if_true];refine ⟨⟨ss++[sv],h6.block (λk hk=>?_),by rw[updF_at];simp[hl],λi t hi=>?_⟩,λm' hm' hne k hk=>?_⟩
   .rw[hnb] at hk
    cases hk;exact Below.heap_setCell _ _ _ _ hgM
   .rw[updF_at] at hi
    by_cases hil:i<(f m).length
    .rw[Qn hil] at hi
     obtain ⟨sv',e1,e2⟩:=hss i t hi;exact ⟨sv',by rw[Qn (by omega)];exact e1,hkb.si e2⟩
    .have hil2:i=(f m).length:=by have:=(Qc hi).1;simp at this;omega
     subst hil2;have ht:t=s:=by simpa using hi.symm
     subst ht;exact ⟨sv,by rw[<-hl];simp,hkb.si hsv⟩
   .rw[if_neg hne]
    rw[hnb] at hk;cases hk;rcases hat with e1|e1;exact (h2 m hm).2 m' hm' hne g (by rw[hvT];exact e1)
    .intro e2
     obtain ⟨ss',hr',_⟩:=(h2 m' hm').1;have:=(hr'.lt g e2).2;omega
  .simp only[if_neg e]
   rw[updF_ne f _ e];refine ⟨(h2 m hm).1.kb hkb (λk hk=>?_),λm' hm' hne k hk=>?_⟩
   .obtain ⟨ss',hr',_⟩:=(h2 m hm).1
    rw[Below.heap_setCell _ _ _ _ (htagM hr' k hk)];exact hg.block k (hr'.lt k hk).2 (λe2=>(h2 m hm).2 T hT (Ne.symm e) k hk (by rw[hvT];exact e2.symm))
   .by_cases e':m'=T
    .rw[if_pos e',hnb]
     intro e2;cases e2;rcases hat with e1|e1;exact (h2 m hm).2 T hT (Ne.symm e) g hk (by rw[hvT];exact e1)
     .obtain ⟨ss',hr',_⟩:=(h2 m hm).1
      have:=(hr'.lt g hk).2;omega
    .rw[if_neg e']
     exact (h2 m hm).2 m' hm' hne k hk
end
def GoesOut (ob st:Int) (l:List Ev) (w0 w:World) (B M N:Nat) (lv:Value) (T:Nat) (f:Nat->List (List Int)) (s:List Int) (e:Ending) (w':World):Prop :=
 Below w0.heap.size w0 w'∧KB w w'∧((e=.returned (.bool true)∧Goes (refWays ob st) l T s) ∨
  (e=.returned (.bool false)∧¬ Goes (refWays ob st) l T s∧∃ f',Met w' w0.heap.size B M lv ob st N f'∧VainUp (refWays ob st) l T f'∧(∀ m,¬ Sup T m->f' m=f m)∧∀ m,(f' m).length<=(f m).length+cnt (left T l.length)))
theorem lt_4096 (h:T<2 ^ n) (hn:n<=12):T<4096:=Qp h (Nat.pow_le_pow_right (by omega) hn:2 ^ n<=2 ^ 12)
theorem left_pos {i:Nat}(hi:i<n) (h:T.testBit i=false):0<left T n:=by have:=left_or h hi;omega
theorem evs_cell {p:Option Addr}{cap:Nat}{l:List Ev}(h:Evs w (.slice p n cap) l) (hk:k<l.length):∃ blk off,p=some ⟨blk,off,none⟩∧blk<w.heap.size∧w.rangeAt blk (off+k*8) (evC (l.getD k ev0)).toList:=by obtain ⟨p',cap',e,_,_,h3⟩:=h;cases e;obtain ⟨blk,off,e1,hr⟩:=h3 k hk;exact ⟨blk,off,e1,range_lt hr,hr⟩
theorem or_int {a:Nat}(ha:a<2 ^ 62) (hb:b<2 ^ 62):bits .or .i64 (a:Int) (b:Int)=((a ||| b:Nat):Int):=by show IntKind.i64.wrap ((BitVec.ofInt 64 (a:Int) ||| BitVec.ofInt 64 (b:Int)).toNat:Int)=_;rw[BitVec.toNat_or,of_nat64 (Qp ha (by decide)),of_nat64 (Qp hb (by decide)),IntKind.wrap_i64];have:=Nat.or_lt_two_pow ha hb;omega
theorem or_lt2 (hT:T<2 ^ n) (hk:k<n):T ||| 2 ^ k<2 ^ n:=Nat.or_lt_two_pow hT (Nat.pow_lt_pow_right (by omega) hk)
theorem keep11 {u u':World}{a1 a2 a3 a4 a5 a6 a7 a8 a9 a10 a11:Addr}{v1 v2 v3 v4 v5 v6 v7 v8 v9 v10 v11:Value}(h:u.cell? a1=some v1∧u.cell? a2=some v2∧u.cell? a3=some v3∧u.cell? a4=some v4∧u.cell? a5=some v5∧u.cell? a6=some v6∧u.cell? a7=some v7∧u.cell? a8=some v8∧u.cell? a9=some v9∧u.cell? a10=some v10∧u.cell? a11=some v11) (hb:Below u.heap.size u u'):u'.cell? a1=some v1∧u'.cell? a2=some v2∧u'.cell? a3=some v3∧u'.cell? a4=some v4∧u'.cell? a5=some v5∧u'.cell? a6=some v6∧u'.cell? a7=some v7∧u'.cell? a8=some v8∧u'.cell? a9=some v9∧u'.cell? a10=some v10∧u'.cell? a11=some v11:=by obtain ⟨h1,h2,h3,h4,h5,h6,h7,h8,h9,h10,h11⟩:=h;exact ⟨kcell hb h1,kcell hb h2,kcell hb h3,kcell hb h4,kcell hb h5,kcell hb h6,kcell hb h7,kcell hb h8,kcell hb h9,kcell hb h10,kcell hb h11⟩
theorem r14 {w0 w1 wr w6:World}{B M N cap2 g cpg:Nat}{p2:Option Addr}{lv sv:Value}{ob st:Int}{f:Nat->List (List Int)}{s:List Int}{ss:List Value}(hm:Met w1 w0.heap.size B M lv ob st N f) (hT:T<N) (hMT:w1.cell? ⟨M,T,none⟩=some (.slice p2 k cap2)) (hb:Below w1.heap.size w1 wr)
 (hrow:RowS w1 w0.heap.size (.slice p2 k cap2) ss) (hl:ss.length=k) (hk:(f T).length=k) (hss:∀ (i:Nat) t,(f T)[i]? = some t->∃ sv,ss[i]? = some sv∧SI w1 sv t) (hs:SI w1 sv s) (h6:RowS w6 w0.heap.size (.slice (some ⟨g,0,none⟩) (k+1) cpg) (ss++[sv]))
 (hg:wr.grownBy w6 (Value.slice p2 k cap2).ownBlock) (hat:(Value.slice p2 k cap2).ownBlock=some g∨wr.heap.size<=g) (hbw:Below w0.heap.size w0 w1):
 Met (w6.setCell ⟨M,T,none⟩ (.slice (some ⟨g,0,none⟩) (k+1) cpg)) w0.heap.size B M lv ob st N (updF f T (f T++[s]))∧KB w1 (w6.setCell ⟨M,T,none⟩ (.slice (some ⟨g,0,none⟩) (k+1) cpg))∧Below w0.heap.size w0 (w6.setCell ⟨M,T,none⟩ (.slice (some ⟨g,0,none⟩) (k+1) cpg)):=by
 have h1:=(hm.later hb).push hT (kcell hb hMT) (hrow.block (λg hg=>hb.block g (hrow.lt g hg).2)) (hl.trans hk.symm) (λi t hi=>by obtain ⟨sv,e,h⟩:=hss i t hi;exact ⟨sv,e,h.later hb⟩) (hs.later hb) (by rw[hl]) h6 hg hat
 refine ⟨h1.1,(kb_below hb).trans h1.2,?_⟩;have hb0:Below w0.heap.size w0 wr:=hbw.trans (hb.mono hbw.size);exact (hb0.grown hg (by have:=hb0.size;omega) (λq hq=>(hrow.lt q hq).1)).setCell hm.hM _
theorem refWays_len2 (ob n:Int) (s:List Int) (e:Ev):(refWays ob n s e).length<=2:=by
 unfold refWays wayStack wayThree;repeat' split
 all_goals (try simp)
theorem goesOut_bool {e:Ending}{p r:Prop}(h:(e=.returned (.bool true)∧p)∨(e=.returned (.bool false)∧r)):∃ b,e=.returned (.bool b)∧(b=true->p)∧(b=false->r):=by
 rcases h with ⟨rfl,h⟩|⟨rfl,h⟩
 exact ⟨true,rfl,λ_=>h,λh=>(nomatch h)⟩;exact ⟨false,rfl,λh=>(nomatch h),λ_=>h⟩
theorem keepK {u u':World}{o o':Nat}{x:Int}(h:u.cell? ⟨b,o,none⟩=some (I x)∧u.cell? ⟨b,o',none⟩=some v) (hk:KB u u'):u'.cell? ⟨b,o,none⟩=some (I x)∧u'.cell? ⟨b,o',none⟩=some v :=
 ⟨by rw[hk.cells h.1];exact h.1,by rw[hk.cells h.1];exact h.2⟩
theorem wrap_pow (h:k<12):IntKind.i64.wrap ((2:Int) ^ k)=((2 ^ k:Nat):Int):=by
 have e2:((2:Int) ^ k)=((2 ^ k:Nat):Int):=by push_cast;rfl
 have e3:2 ^ k<2 ^ 12:=Nat.pow_lt_pow_right (by omega) h;rw[e2,IntKind.wrap_i64];generalize 2 ^ k=z at e3;omega
def AtN (R:Act->World->Prop):Exit->Act->World->Prop
 |.normal,a,w=>R a w
 |_,_,_=>False
theorem wp_cut {P:Program}{c:Code}{a:Act}{Q:Exit->Act->World->Prop}(A:Nat->Nat->Act) (F:Nat->Nat->World->Prop) (h1:c.wp P (AtN λa' w'=>∃ g cp,a'=A g cp∧F g cp w') a w) (h2:∀ g cp W,F g cp W->Q .normal (A g cp) W):c.wp P Q a w :=
 Code.wp_mono (λe a' w' h=>by
  cases e with
  |normal =>obtain ⟨g,cp,rfl,hF⟩:=h;exact h2 g cp w' hF
  |_=>exact (h:False).elim) h1
theorem goes_any (ob st:Int) (hS:WaysC ob st) (l:List Ev) (h12:l.length<=12) (w0:World) (lv:Value) (hE:Evs w0 lv l) (B M N:Nat) (hN:N=2 ^ l.length):∀ (c T:Nat) (f:Nat->List (List Int)) (sv:Value) (s:List Int) (w:World),
 left T l.length=c->T<N->Below w0.heap.size w0 w->Met w w0.heap.size B M lv ob st N f->VainUp (refWays ob st) l T f->(∀ m,(f m).length+cnt c<=cnt l.length)->SI w sv s->StOk ob st (l.length - c) s ->
 Calls Tryd.prog 84 #[.pointer (some ⟨B,0,none⟩),I T,sv] w (GoesOut ob st l w0 w B M N lv T f s):=by
 intro c;induction c using Nat.strongRecOn with
 |ind c ih =>
 intro T f sv s w hc hT hbw hmet hvain hroom hsi hok;have IH:Hid (∀ m,m<c->∀ (T:Nat) (f:Nat->List (List Int)) (sv:Value) (s:List Int) (w:World),
  left T l.length=m->T<N->Below w0.heap.size w0 w->Met w w0.heap.size B M lv ob st N f->VainUp (refWays ob st) l T f->(∀ m',(f m').length+cnt m<=cnt l.length)->SI w sv s->StOk ob st (l.length - m) s ->
  Calls Tryd.prog 84 #[.pointer (some ⟨B,0,none⟩),I T,sv] w (GoesOut ob st l w0 w B M N lv T f s)):=ih
 have HS:Hid (WaysC ob st):=hS;have HE:Hid (Evs w0 lv l):=hE;have HC:Hid (left T l.length=c):=hc;have HBW:Hid (Below w0.heap.size w0 w):=hbw;have HMET:Hid (Met w w0.heap.size B M lv ob st N f):=hmet;have HV:Hid (VainUp (refWays ob st) l T f):=hvain;have HROOM:Hid (∀ m,(f m).length+cnt c<=cnt l.length):=hroom;have HSI:Hid (SI w sv s):=hsi;have HOK:Hid (StOk ob st (l.length - c) s):=hok;have hT4:T<4096:=lt_4096 (by rw[<-hN];exact hT) h12;have HN:Hid (N=2 ^ l.length):=hN;have hN4:N<=4096:=by rw[hN];exact Nat.pow_le_pow_right (by omega) h12
 obtain ⟨p,cap,rfl,hcap,hmax,_⟩:=hE;obtain ⟨sp,scap,rfl,hscap,hsmax,_⟩:=hsi;unfold maxLen at hmax hsmax;have hb2:=hmet.b2;have hb3:=hmet.b3;clear ih hS hc hbw hmet hvain hroom hok hN
 go_enter Tryd.func84,Tryd.ntmps84
 go_wp2_with fail
 go_loopw [7,8] (λt i u=>∃ (k:Nat) (b:Bool),k<=l.length∧i=.int .i64 k∧t=.bool b∧(b=true↔∃ j,j<k∧(l.getD j ev0).over=true∧T.testBit j=false)∧u=w) (λ_ i _=>l.length - (intOf i).toNat)
 case atStart=>exact ⟨0,false,Nat.zero_le _,rfl,rfl,⟨λh=>(nomatch h),λ⟨j,h,_⟩=>absurd h (Nat.not_lt_zero _)⟩,rfl⟩
 case round =>
  obtain ⟨k,b,hk,rfl,rfl,hbq,rfl⟩:=hrel;have HBQ:Hid (b=true↔∃ j,j<k∧(l.getD j ev0).over=true∧T.testBit j=false):=hbq;clear hbq;by_cases hlt:k<l.length
  .cases b
   .obtain ⟨blk,off,rfl,hbl,hr⟩:=evs_cell HE.out hlt
    have hno:∀ j,j<k->¬ ((l.getD j ev0).over=true∧T.testBit j=false):=λj hj h=>by have:=HBQ.out.2 ⟨j,hj,h⟩;cases this
    have HNO:Hid (∀ j,j<k->¬ ((l.getD j ev0).over=true∧T.testBit j=false)):=hno;have i5:wr.cell? ⟨blk,off+k*8+5,none⟩=some (I (l.getD k ev0).fin):=(range_later HBW.out hr hbl) 5 _ rfl;have HOV:Hid ((l.getD k ev0).over=((l.getD k ev0).fin != -1)):=rfl;generalize (l.getD k ev0).fin=xf at i5 HOV;clear hno hr HBQ;cases hf:(xf != -1)
    .have HF:Hid ((l.getD k ev0).over=false):=HOV.out.trans hf
     go_wp2_with fail
     go_roundw
     case rel =>refine ⟨k+1,false,by omega,by go_num,rfl,⟨λh=>(nomatch h),λ⟨j,hj,h1,h2⟩=>?_⟩,by first|rfl|trivial⟩;by_cases e:j=k;subst e;rw[HF.out] at h1;cases h1;exact absurd ⟨h1,h2⟩ (HNO.out j (by omega))
     case measure=>simp[intOf];omega
    .have HF:Hid ((l.getD k ev0).over=true):=HOV.out.trans hf
     by_cases hbit:T.testBit k=true
     .have hbi:=shr_yes hT4 hbit
      have HBI:Hid (T.testBit k=true):=hbit;clear hbit;go_wp2_with fail
      go_roundw
      case rel =>refine ⟨k+1,false,by omega,by go_num,rfl,⟨λh=>(nomatch h),λ⟨j,hj,h1,h2⟩=>?_⟩,by first|rfl|trivial⟩;by_cases e:j=k;subst e;rw[HBI.out] at h2;cases h2;exact absurd ⟨h1,h2⟩ (HNO.out j (by omega))
      case measure=>simp[intOf];omega
     .have hbi:=shr_no hT4 (Bool.eq_false_iff.2 hbit)
      have HBI:Hid (T.testBit k=false):=Bool.eq_false_iff.2 hbit;clear hbit;go_wp2_with fail
      go_roundw
      case rel=>exact ⟨k+1,true,by omega,by go_num,rfl,⟨λ_=>⟨k,by omega,HF.out,HBI.out⟩,λ_=>by trivial⟩,by first|rfl|trivial⟩
      case measure=>simp[intOf];omega
   .have hex:=HBQ.out.1 rfl
    have HEX:Hid (∃ j,j<k∧(l.getD j ev0).over=true∧T.testBit j=false):=hex;clear hex HBQ;go_wp2_with fail
    go_roundw
    case rel =>refine ⟨k+1,true,by omega,by go_num,rfl,⟨λ_=>?_,λ_=>by trivial⟩,by first|rfl|trivial⟩;obtain ⟨j,hj,h⟩:=HEX.out;exact ⟨j,by omega,h⟩
    case measure=>simp[intOf];omega
  .have hkl:k=l.length:=by omega
   subst hkl;cases b
   .have hall:∀ i,i<l.length->(l.getD i ev0).over=true->T.testBit i=true:=λi hi ho=>by
     cases e:T.testBit i with
     |true=>rfl
     |false=>have:=HBQ.out.2 ⟨i,hi,ho,e⟩;cases this
    have HALL:Hid (∀ i,i<l.length->(l.getD i ev0).over=true->T.testBit i=true):=hall;clear hall HBQ;go_wp2_with fail;go_ret;exact ⟨HBW.out,kb_refl _,.inl ⟨rfl,goes_step.2 (.inl HALL.out)⟩⟩
   .have hex:=HBQ.out.1 rfl
    have HD:Hid (¬ ∀ i,i<l.length->(l.getD i ev0).over=true->T.testBit i=true):=λh=>by obtain ⟨j,hj,h1,h2⟩:=hex;rw[h j hj h1] at h2;cases h2
    obtain ⟨q,hq⟩:∃ q,c=q+1:=by obtain ⟨j,hj,h1,h2⟩:=hex;have:=left_pos hj h2;have:=HC.out;exact ⟨c - 1,by omega⟩
    subst hq;clear hex HBQ;obtain ⟨p2,cap2,ss,hMT,hfz,hrow,hssl,hc2,hm2,hss⟩:=HMET.out.at hT;have HROW:Hid (RowS wr w0.heap.size (.slice p2 (f T).length cap2) ss):=hrow;have HSSL:Hid (ss.length=(f T).length):=hssl;have HSS:Hid (∀ (i:Nat) t,(f T)[i]? = some t->∃ sv,ss[i]? = some sv∧SI wr sv t):=hss;obtain ⟨w1,hw1⟩:∃ w1,w1=wr:=⟨wr,rfl⟩
    subst hw1;have lB:B<w1.heap.size:=World.block_lt_of_cell? _ _ hb3;have lM:M<w1.heap.size:=World.block_lt_of_cell? _ _ hMT;unfold maxLen at hm2;have HNF:Hid ((f T).length=(f T).length):=rfl;generalize hnf:(f T).length=nf at hMT hrow hssl hc2 hm2 HROW HSSL;have HNFE:Hid ((f T).length=nf):=hnf;clear hrow hssl hss hnf;have hTN:(T:Int)<(N:Int):=by omega
    go_wp2_with fail
    go_loopw [9] (λi u=>∃ k:Nat,k<=nf∧i=.int .i64 k∧(∀ (j:Nat) t,j<k->(f T)[j]? = some t->t≠s)∧Below w1.heap.size w1 u) (λi _=>nf - (intOf i).toNat)
    case atStart=>exact ⟨0,Nat.zero_le _,rfl,λj t hj=>absurd hj (Nat.not_lt_zero _),Below.refl _ _⟩
    case round =>
     obtain ⟨k,hk,rfl,hne,hbr⟩:=hrel;have HNE:Hid (∀ (j:Nat) t,j<k->(f T)[j]? = some t->t≠s):=hne;have HBR:Hid (Below w1.heap.size w1 wr):=hbr;have d3:=kcell' hbr lB hb3;have dM:=kcell' hbr lM hMT;by_cases hlt:k<nf
     .obtain ⟨svk,hsk,hsik⟩:=HSS.out k ((f T)[k]'(by rw[HNFE.out];exact hlt)) (Qf _)
      have HFK:Hid ((f T)[k]? = some ((f T)[k]'(by rw[HNFE.out];exact hlt))):=Qf _;generalize (f T)[k]'(by rw[HNFE.out];exact hlt)=tk at hsik HFK;obtain ⟨g,rfl,hgk⟩:=HROW.out.cell hsk;have dG:=kcell' hbr (World.block_lt_of_cell? _ _ hgk) hgk;have HSK:Hid (SI wr svk tk):=hsik.later hbr;obtain ⟨pk,ck,rfl,hk1,hk2,_⟩:=hsik;unfold maxLen at hk2;have hkn:(k:Int)<(nf:Int):=by omega
      clear hne hbr hsk hgk;go_wp2_with fail;refine (rsame_any _ _ tk s _ HSK.out (HSI.out.later HBR.out)).mono ?_;rintro e w3 ⟨⟨b,rfl,hb⟩,hb3'⟩;have HB3:Hid (Below w1.heap.size w1 w3):=below_step HBR.out hb3';cases b
      .have HNT:Hid (tk≠s):=λh=>by have:=hb.2 h;cases this
       clear hb hb3';go_wp2_with fail
       go_roundw
       case rel =>
        refine ⟨k+1,by omega,by go_num,λj t hj ht=>?_,HB3.out⟩;by_cases e:j=k
        .subst e
         rw[HFK.out] at ht;cases ht;exact HNT.out
        exact HNE.out j t (by omega) ht
       case measure=>simp[intOf];omega
      .have HTS:Hid (tk=s):=hb.1 rfl
       clear hb hb3';go_wp2_with fail;go_ret;refine ⟨HBW.out.trans (HB3.out.mono HBW.out.size),kb_below HB3.out,.inr ⟨rfl,?_,f,HMET.out.later HB3.out,HV.out,λ_ _=>rfl,λ_=>Nat.le_add_right _ _⟩⟩;have:=HV.out T (sup_refl T) tk (List.mem_of_getElem? HFK.out)
       rwa [HTS.out] at this
     .have hkn:k=nf:=by omega
      subst hkn;clear hne hbr HNE;have HROWR:Hid (RowS wr w0.heap.size (.slice p2 k cap2) ss):=HROW.out.block (λg hg=>HBR.out.block g (HROW.out.lt g hg).2);have hfzr:wr.frozen? ⟨M,T,none⟩=false:=by rw[HBR.out.frozen (p:=⟨M,T,none⟩) lM];exact hfz
      have hszr:w1.heap.size<=wr.heap.size:=HBR.out.size;have hsz0:w0.heap.size<=w1.heap.size:=HBW.out.size;have hnB:some B≠(Value.slice p2 k cap2).ownBlock:=λe=>HROW.out.noInt e.symm 0 ob HMET.out.b0;have hnM:some M≠(Value.slice p2 k cap2).ownBlock:=λe=>by obtain ⟨cur,hcur⟩:=HROW.out.tag e.symm;obtain ⟨vs,⟨mc,hmc,_⟩,_⟩:=HMET.out.rows;rw[hmc] at hcur;cases hcur
      have hkb:(ss.length+1)*24<=140737488355328:=by
       have h1:=HROOM.out T;have h2:=cnt_twelve h12;have h3:=HSSL.out;have h4:=HNFE.out;have h5:1<=cnt (q+1):=by show 1<=1+2*((q+1)*cnt q);omega
       omega
      go_wp2_with fail;have hal2:∀ o,(wr.alloc o).cell? ⟨M,T,none⟩=some (.slice p2 k cap2):=λo=>kcell (below_alloc (Below.refl _ _) _) dM;have hal3:∀ o,(wr.alloc o).cell? ⟨B,3,none⟩=some (.slice (some ⟨M,0,none⟩) N N):=λo=>kcell (below_alloc (Below.refl _ _) _) d3;have hal4:∀ o,(wr.alloc o).frozen? ⟨M,T,none⟩=false:=λo=>by rw[(below_alloc (Below.refl _ wr) o).frozen (p:=⟨M,T,none⟩) (by show M<wr.heap.size;omega)];exact hfzr
      apply wp_cut (F:=λg cp W=>Met W w0.heap.size B M (.slice p l.length cap) ob st N (updF f T (f T++[s]))∧KB w1 W∧Below w0.heap.size w0 W)
      case h1 =>
       go_region_law (
        (refine step_append_rowS rfl (.tmp 82) (.tmp 84) rfl w0.heap.size (.slice p2 k cap2) ss rfl (HROWR.out.block (λg hg=>?_)) ⟨wr.heap.size,0,none⟩ 1 (.slice sp s.length scap) rfl ?_ ⟨_,_,_,rfl⟩ hkb ?_ k HSSL.out ?_
         .first|exact (below_alloc (Below.refl _ wr).drew _).block g (HROWR.out.lt g hg).2|exact (below_alloc (Below.refl _ wr) _).drew.block g (HROWR.out.lt g hg).2|exact (below_alloc (Below.refl _ wr) _).block g (HROWR.out.lt g hg).2
         .first|exact World.cell?_alloc_at _ _ _ _ rfl|simp
         simp;omega;intro g cpg w6 h6 hg6 hat6;have z1:w6.cell? ⟨B,3,none⟩=some (.slice (some ⟨M,0,none⟩) N N):=hg6.cell (by first|exact kcell (below_alloc (Below.refl _ wr).drew _) d3|exact kcell (below_alloc (Below.refl _ wr) _).drew d3|exact kcell (below_alloc (Below.refl _ wr) _) d3) hnB;have z2:w6.cell? ⟨M,T,none⟩=some (.slice p2 k cap2):=hg6.cell (by first|exact kcell (below_alloc (Below.refl _ wr).drew _) dM|exact kcell (below_alloc (Below.refl _ wr) _).drew dM|exact kcell (below_alloc (Below.refl _ wr) _) dM) hnM;have z3:w6.frozen? ⟨M,T,none⟩=false:=by rw[hg6.frozen_far ⟨M,T,none⟩ (by simp;omega) hnM];first|exact hfzr|exact hal4 _|(simp;exact hfzr)))
       all_goals
        have hR:=r14 HMET.out hT hMT HBR.out HROW.out HSSL.out (by rw[HNFE.out]) HSS.out HSI.out h6 (by first|exact grown_pre (below_alloc (Below.refl _ wr).drew _) hg6|exact grown_pre (below_alloc (Below.refl _ wr) _).drew hg6|exact grown_pre (below_alloc (Below.refl _ wr) _) hg6) (hat6.imp id (λe=>by rw[e];simp)) HBW.out;exact ⟨g,cpg,rfl,hR⟩
      case h2 =>
       intro g cp W hF;obtain ⟨fm,fk,fb⟩:=hF;have HFM:Hid (Met W w0.heap.size B M (.slice p l.length cap) ob st N (updF f T (f T++[s]))):=fm;have HFK:Hid (KB w1 W):=fk;have HFB:Hid (Below w0.heap.size w0 W):=fb;clear fm fk fb hal2 hal3 hal4 hkb hnB hnM hfzr hszr d3 dM hMT hfz hb2 hb3 lB lM HROWR HROW HSS HBR HNF;go_wp2_with fail
       go_loopw [11] (λi u=>∃ (k:Nat) (f2:Nat->List (List Int)),k<=l.length∧i=.int .i64 k∧Met u w0.heap.size B M (.slice p l.length cap) ob st N f2∧Mid (refWays ob st) l T s f f2∧(∀ j,j<k->NoWay (refWays ob st) l T s j) ∧
        (∀ m,(f2 m).length<=(f m).length+(1+2*(left T k*cnt q)))∧Below w0.heap.size w0 u∧KB w1 u) (λi _=>l.length - (intOf i).toNat)
       case atStart =>refine ⟨0,_,Nat.zero_le _,rfl,HFM.out,mid_start HV.out,λj hj=>absurd hj (Nat.not_lt_zero _),λm=>?_,HFB.out,HFK.out⟩;by_cases e:m=T;subst e;rw[updF_at,Qj];simp only[List.length_cons,List.length_nil];omega;rw[updF_ne f _ e];omega
       case round =>
        obtain ⟨k3,f2,hk3,rfl,hm3,hmid,hnw,hlen,hbr,hkb3⟩:=hrel;obtain ⟨w2,hw2⟩:∃ w2,w2=wr:=⟨wr,rfl⟩
        subst hw2;have HM3:Hid (Met w2 w0.heap.size B M (.slice p l.length cap) ob st N f2):=hm3;have HMID:Hid (Mid (refWays ob st) l T s f f2):=hmid;have HNW:Hid (∀ j,j<k3->NoWay (refWays ob st) l T s j):=hnw;have HLEN:Hid (∀ m,(f2 m).length<=(f m).length+(1+2*(left T k3*cnt q))):=hlen;have HBR:Hid (Below w0.heap.size w0 w2):=hbr;have HKB:Hid (KB w1 w2):=hkb3;have e2:=hm3.b2;clear hm3 hmid hnw hlen hbr hkb3;by_cases hlt:k3<l.length
        .go_wp2_with fail
         refine (may_any B T k3 _ l _ hT4 h12 hlt e2 (HE.out.later HBR.out)).mono ?_;rintro e w3 ⟨⟨b,rfl,hb⟩,hb3⟩;have HB3:Hid (Below w2.heap.size w2 w3):=hb3;have HB03:Hid (Below w0.heap.size w0 w3):=HBR.out.trans (hb3.mono HBR.out.size);cases b
         .have HNM:Hid (¬ May l T k3):=λh=>by have:=hb.2 h;cases this
          clear hb hb3;go_wp2_with fail
          go_roundw
          case rel =>refine ⟨k3+1,f2,by omega,by go_num,HM3.out.later HB3.out,HMID.out,upto_succ HNW.out (λh1 h2=>absurd ⟨h1,h2⟩ HNM.out),λm=>?_,HB03.out,HKB.out.trans (kb_below HB3.out)⟩;have h1:=HLEN.out m;have h2:left T k3*cnt q<=left T (k3+1)*cnt q:=Nat.mul_le_mul_right _ (left_mono T (by omega));omega
          case measure=>simp[intOf];omega
         .have HMAY:Hid (May l T k3):=hb.1 rfl
          obtain ⟨blk,off,rfl,hbl,hr⟩:=evs_cell HE.out hlt;have HBL:Hid (blk<w0.heap.size):=hbl;generalize hx:l.getD k3 ev0=x at hr;have HX:Hid (l.getD k3 ev0=x):=hx;have HRX:Hid (w0.rangeAt blk (off+k3*8) (evC x).toList):=hr;have hM3':=HM3.out.later hb3;have HM33:Hid (Met w3 w0.heap.size B M (.slice (some ⟨blk,off,none⟩) l.length cap) ob st N f2):=hM3';have g0:=hM3'.b0;have g1:=hM3'.b1;have g2:=hM3'.b2;obtain ⟨c0,c1,c2,c3,c4,c5,c6,c7⟩:=ev_cells (range_later HB03.out hr hbl);have HS3:Hid (SI w3 (.slice sp s.length scap) s):=(HKB.out.trans (kb_below hb3)).si HSI.out;have hkl:(k3:Int)<(l.length:Int):=by omega
          have HKB3:Hid (KB w1 w3):=HKB.out.trans (kb_below hb3);clear hb hb3 hx hr e2 hM3' HM3 HKB HBR HB3 hbl;obtain ⟨k,hkk⟩:∃ k,k=k3:=⟨k3,rfl⟩
          subst hkk;go_wp2_with fail
          go_region_held3 (λu=>u.cell? ⟨B,0,none⟩=some (I ob)∧u.cell? ⟨B,1,none⟩=some (I st)∧u.cell? ⟨B,2,none⟩=some (.slice (some ⟨blk,off,none⟩) l.length cap)∧u.cell? ⟨blk,off+k*8,none⟩=some (I x.thr)∧u.cell? ⟨blk,off+k*8+1,none⟩=some (I x.op)∧u.cell? ⟨blk,off+k*8+2,none⟩=some (I x.a)∧u.cell? ⟨blk,off+k*8+3,none⟩=some (I x.b)∧u.cell? ⟨blk,off+k*8+4,none⟩=some (I x.beg)∧u.cell? ⟨blk,off+k*8+5,none⟩=some (I x.fin)∧u.cell? ⟨blk,off+k*8+6,none⟩=some (I x.code)∧u.cell? ⟨blk,off+k*8+7,none⟩=some (I x.val))
           (first|(exact keep11 ‹_› ‹Below _ _ _›)|(exact keep11 ‹_› (below_alloc (Below.refl _ _) _))|(simp[go_sem, *];done))
           ((go_at_call 117;refine (HS.out (l.length - (q+1)) (by omega) s HOK.out x _ _ (HS3.out.later (below_drewN (Below.refl _ _) _))).mono ?_;rintro e w4 ⟨wv,rfl,hwo,hb4⟩))
          rename_i hH;clear hH;obtain ⟨wp,hwv,hwc⟩:=hwo;subst hwv;refine (show ∀ W4,Below w3.heap.size w3 W4->(∀ i o,(refWays ob st s x)[i]? = some o->∃ blk sv,wp=some ⟨blk,0,none⟩∧W4.rangeAt blk (i*3) [I o.1.1,I o.1.2,sv]∧SI W4 sv o.2)->Exit.then _ _ Exit.normal _ W4 from λW4 hW4 hwc4=>?_) _ (below_step (below_drewN (Below.refl _ _) _) hb4) hwc;have HB04:Hid (Below w0.heap.size w0 W4):=HB03.out.trans (hW4.mono HB03.out.size);have HM4:Hid (Met W4 w0.heap.size B M (.slice (some ⟨blk,off,none⟩) l.length cap) ob st N f2):=HM33.out.later hW4;have HKB4:Hid (KB w1 W4):=HKB3.out.trans (kb_below hW4);have hol:=refWays_len2 ob st s x;have hosl:∀ o∈refWays ob st s x,StOk ob st (l.length - (q+1)+1) o.2:=λo ho=>stOk_next HOK.out ho;have HWAYS:Hid (refWays ob st s (l.getD k ev0)=refWays ob st s x):=by rw[HX.out];exact rfl
          generalize refWays ob st s x=os at hwc4 hol hosl HWAYS;have HWC:Hid (∀ (i:Nat) o,os[i]? = some o->∃ blk sv,wp=some ⟨blk,0,none⟩∧W4.rangeAt blk (i*3) [I o.1.1,I o.1.2,sv]∧SI W4 sv o.2):=hwc4;have HOSL:Hid (∀ o∈os,StOk ob st (l.length - (q+1)+1) o.2):=hosl;clear hb4 hwc hwc4 hW4 hosl g0 g1 g2 c0 c1 c2 c3 c4 c5 c6 c7 HB03 HM33 HKB3 HS3;go_wp2_with fail
          go_loopw [14] (λi u=>∃ (j:Nat) (f3:Nat->List (List Int)),j<=os.length∧i=.int .i64 j∧Met u w0.heap.size B M (.slice (some ⟨blk,off,none⟩) l.length cap) ob st N f3∧Mid (refWays ob st) l T s f f3 ∧
           (∀ o∈os.take j,(x.over=true->o.1=x.ans)->¬ Goes (refWays ob st) l (T ||| 2 ^ k) o.2)∧(∀ m,(f3 m).length<=(f m).length+(1+2*(left T k*cnt q)+j*cnt q))∧Below w0.heap.size w0 u∧KB w1 u∧KB W4 u) (λi _=>os.length - (intOf i).toNat)
          case atStart=>exact ⟨0,f2,Nat.zero_le _,rfl,HM4.out,HMID.out,(λo ho=>by simp at ho),(λm=>by have:=HLEN.out m;omega),HB04.out,HKB4.out,kb_refl _⟩
          case round =>
           obtain ⟨j,f3,hj,rfl,hm5,hmid5,hng,hlen5,hb5,hkb5,hkbW⟩:=hrel;have HM5:Hid (Met wr w0.heap.size B M (.slice (some ⟨blk,off,none⟩) l.length cap) ob st N f3):=hm5;have HMID5:Hid (Mid (refWays ob st) l T s f f3):=hmid5;have HNG:Hid (∀ o∈os.take j,(x.over=true->o.1=x.ans)->¬ Goes (refWays ob st) l (T ||| 2 ^ k) o.2):=hng;have HLEN5:Hid (∀ m,(f3 m).length<=(f m).length+(1+2*(left T k*cnt q)+j*cnt q)):=hlen5;have HB5:Hid (Below w0.heap.size w0 wr):=hb5;have HKB5:Hid (KB w1 wr):=hkb5;have HKBW:Hid (KB W4 wr):=hkbW;clear hm5 hmid5 hng hlen5 hb5 hkb5 hkbW;by_cases hjl:j<os.length
           .skip
            obtain ⟨wb,svo,hwp,hrng,hsvo⟩:=HWC.out j (os[j]) (Qf hjl);have hmem:os[j]∈os:=List.getElem_mem _;have htk:∀ o∈os.take (j+1),o∈os.take j∨o=os[j]:=by intro o ho;rw[List.take_add_one,Qf hjl,List.mem_append] at ho;rcases ho with h|h;exact .inl h;exact .inr (by simpa using h)
            generalize os[j]=o at hrng hsvo hmem htk;have HMEM:Hid (o∈os):=hmem;have HTK:Hid (∀ o'∈os.take (j+1),o'∈os.take j∨o'=o):=htk;subst hwp;have iw:W4.cell? ⟨wb,j*3,none⟩=some (I o.1.1):=by simpa using hrng 0 _ rfl
            have c0:wr.cell? ⟨wb,j*3,none⟩=some (I o.1.1):=by rw[HKBW.out.cells iw];exact iw
            have c1:wr.cell? ⟨wb,j*3+1,none⟩=some (I o.1.2):=by rw[HKBW.out.cells iw];exact hrng 1 _ rfl
            have HSVO:Hid (SI wr svo o.2):=HKBW.out.si hsvo;obtain ⟨po,co,rfl,ho1,ho2,_⟩:=hsvo;unfold maxLen at ho2;have c2:wr.cell? ⟨wb,j*3+2,none⟩=some (.slice po o.2.length co):=by rw[HKBW.out.cells iw];exact hrng 2 _ rfl
            have hev:=range_later HB5.out HRX.out HBL.out;have v5:wr.cell? ⟨blk,off+k*8+5,none⟩=some (I x.fin):=hev 5 _ rfl;have v6:wr.cell? ⟨blk,off+k*8+6,none⟩=some (I x.code):=hev 6 _ rfl;have v7:wr.cell? ⟨blk,off+k*8+6+1,none⟩=some (I x.val):=hev 7 _ rfl;have e2:=HM5.out.b2;have hkl:(k:Int)<(l.length:Int):=by omega
            have hjo:(j:Int)<(os.length:Int):=by omega
            have lwb:wb<wr.heap.size:=World.block_lt_of_cell? _ _ c0;clear hrng hev htk iw hmem;have hcase:((x.over=true->o.1=x.ans)∧((x.fin != -1)=false∨((x.fin != -1)=true∧(o.1.1==x.code)=true∧(o.1.2==x.val)=true)))∨(¬ (x.over=true->o.1=x.ans)∧(x.fin != -1)=true∧((o.1.1==x.code)=false∨((o.1.1==x.code)=true∧(o.1.2==x.val)=false))):=by
             have hov:x.over=(x.fin != -1):=rfl;rw[hov];cases hf:(x.fin != -1);exact .inl ⟨λh=>(nomatch h),.inl rfl⟩
             .by_cases ha:o.1.1=x.code
              .by_cases hb:o.1.2=x.val
               exact .inl ⟨λ_=>Prod.ext ha hb,.inr ⟨rfl,by simpa using ha,by simpa using hb⟩⟩;exact .inr ⟨λh=>hb (congrArg Prod.snd (h rfl)),rfl,.inr ⟨by simpa using ha,by simpa using hb⟩⟩
              exact .inr ⟨λh=>ha (congrArg Prod.fst (h rfl)),rfl,.inl (by simpa using ha)⟩
            rcases hcase with ⟨hans,hways⟩|⟨hnans,hfin,hways⟩
            .have HANS:Hid (x.over=true->o.1=x.ans):=hans
             clear hans;obtain ⟨T2,hT2⟩:∃ T2,T2=T ||| 2 ^ k:=⟨_,rfl⟩
             have HT2:Hid (T2=T ||| 2 ^ k):=hT2;have hor:bits .or .i64 (T:Int) (IntKind.i64.wrap ((2:Int) ^ k))=(T2:Int):=by rw[hT2];have e1:IntKind.i64.wrap ((2:Int) ^ k)=((2 ^ k:Nat):Int):=wrap_pow (show k<12 by omega);rw[e1];exact or_int (Qp hT4 (by decide)) (Qp (Nat.pow_lt_pow_right (by omega) (show k<12 by omega)) (by decide))
             have hT2N:T2<N:=by rw[hT2,HN.out];exact or_lt2 (by rw[<-HN.out];exact hT) hlt
             have hleft:left T2 l.length=q:=by have h1:=left_or HMAY.out.1 hlt;have h2:=HC.out;rw[hT2];omega
             have HLEFT:Hid (left T2 l.length=q):=hleft;have HVD:Hid (VainUp (refWays ob st) l T2 f3):=by rw[hT2];exact mid_down HMID5.out HMAY.out.1
             have HRM:Hid (∀ m,(f3 m).length+cnt q<=cnt l.length):=λm=>by have h1:=HLEN5.out m;have h2:=cnt_room HC.out hlt HMAY.out.1 (show j<2 by omega);have h3:=HROOM.out m;omega
             have HSTO:Hid (StOk ob st (l.length - q) o.2):=by
              have h1:=HOSL.out o HMEM.out;have h2:=HC.out;have h3:=left_le T l.length;have:l.length - q=l.length - (q+1)+1:=by omega
              rw[this];exact h1
             clear hT2 hleft;rcases hways with f1|⟨f1,f2',f3'⟩
             all_goals
              go_wp2_with fail
              go_quiet (fail)
              refine (show ∀ W,Below wr.heap.size wr W->Exit.then _ _ Exit.normal _ W from λW hW=>?_) _ (below_drewN (Below.refl _ _) _);have HBW5:Hid (Below wr.heap.size wr W):=hW;have u0:=kcell hW c0;have u2:=kcell hW c2;clear c0 c1 c2 v5 v6 v7 e2 hW;go_wp2_with fail
              go_region_held3 (λu=>u.cell? ⟨wb,j*3,none⟩=some (I o.1.1)∧u.cell? ⟨wb,j*3+2,none⟩=some (.slice po o.2.length co))
               (first|(exact keepK ‹_› ‹KB _ _›)|(exact keepK ‹_› (kb_below (below_alloc (Below.refl _ _) _)))|(simp[go_sem, *];done))
               ((go_at_call 84;refine (IH.out q (by omega) T2 f3 _ o.2 _ HLEFT.out hT2N (HB5.out.trans ((below_step HBW5.out (below_drewN (Below.refl _ _) _)).mono HB5.out.size)) (HM5.out.later (below_step HBW5.out (below_drewN (Below.refl _ _) _))) HVD.out HRM.out (HSVO.out.later (below_step HBW5.out (below_drewN (Below.refl _ _) _))) HSTO.out).mono ?_;rintro e w6 ⟨hb6,hk6,hor6⟩;obtain ⟨b6,rfl,hyes6,hno6⟩:=goesOut_bool hor6))
              rename_i hH;clear hH;refine (show ∀ W6,Below w0.heap.size w0 W6->KB wr W6->(b6=true->Goes (refWays ob st) l T2 o.2)->(b6=false->¬ Goes (refWays ob st) l T2 o.2∧∃ f',Met W6 w0.heap.size B M (.slice (some ⟨blk,off,none⟩) l.length cap) ob st N f'∧VainUp (refWays ob st) l T2 f'∧(∀ m,¬ Sup T2 m->f' m=f3 m)∧∀ m,(f' m).length<=(f3 m).length+cnt (left T2 l.length))->Exit.then _ _ Exit.normal _ W6 from λW6 hB6 hK6 hY6 hN6=>?_) _ hb6 ((kb_below (below_step HBW5.out (below_drewN (Below.refl _ _) _))).trans hk6) hyes6 hno6;have HB6:Hid (Below w0.heap.size w0 W6):=hB6;have HK6:Hid (KB wr W6):=hK6;clear hb6 hk6 hor6 hyes6 hno6 hB6 hK6 u0 u2;cases b6
              .obtain ⟨hng6,f4,hm6,hv6,ho6,hl6⟩:=hN6 rfl
               have HNG6:Hid (¬ Goes (refWays ob st) l T2 o.2):=hng6;have HM6:Hid (Met W6 w0.heap.size B M (.slice (some ⟨blk,off,none⟩) l.length cap) ob st N f4):=hm6;have HV6:Hid (VainUp (refWays ob st) l T2 f4):=hv6;have HO6:Hid (∀ m,¬ Sup T2 m->f4 m=f3 m):=ho6;have HL6:Hid (∀ m,(f4 m).length<=(f3 m).length+cnt (left T2 l.length)):=hl6;clear hng6 hm6 hv6 ho6 hl6 hY6 hN6;go_wp2_with fail
               go_roundw
               case rel =>
                refine ⟨j+1,f4,by omega,by go_num,HM6.out,?_,λo' ho' ha'=>?_,λm=>?_,HB6.out,HKB5.out.trans HK6.out,HKBW.out.trans HK6.out⟩
                .have h1:=HV6.out
                 have h2:=HO6.out;rw[HT2.out] at h1 h2;exact mid_up HMID5.out HMAY.out.1 h1 h2
                .rcases HTK.out o' ho' with h1|rfl
                 exact HNG.out o' h1 ha';rw[<-HT2.out];exact HNG6.out
                .have h1:=HL6.out m
                 have h2:=HLEN5.out m;have h3:=HLEFT.out;rw[h3] at h1;rw[Nat.add_mul,Nat.one_mul];omega
               case measure=>simp[intOf];omega
              .have HG6:Hid (Goes (refWays ob st) l T2 o.2):=hY6 rfl
               clear hY6 hN6;go_wp2_with fail;go_ret;refine ⟨HB6.out,HKB5.out.trans HK6.out,.inl ⟨rfl,goes_yes hlt HMAY.out.1 HMAY.out.2 (o:=o) (by rw[HWAYS.out];exact HMEM.out) (by rw[HX.out];exact HANS.out) (by rw[<-HT2.out];exact HG6.out)⟩⟩
            .have HNANS:Hid (¬ (x.over=true->o.1=x.ans)):=hnans
             clear hnans;rcases hways with f1|⟨f1,f2'⟩
             all_goals
              go_wp2_with fail
              go_quiet (fail)
              refine (show ∀ W,Below wr.heap.size wr W->Exit.then _ _ Exit.normal _ W from λW hW=>?_) _ (below_drewN (Below.refl _ _) _);have HBW5:Hid (Below wr.heap.size wr W):=hW;clear c0 c1 c2 v5 v6 v7 e2 hW;go_wp2_with fail
              go_roundw
              case rel =>
               refine ⟨j+1,f3,by omega,by go_num,HM5.out.later HBW5.out,HMID5.out,λo' ho' ha'=>?_,λm=>?_,HB5.out.trans (HBW5.out.mono HB5.out.size),HKB5.out.trans (kb_below HBW5.out),HKBW.out.trans (kb_below HBW5.out)⟩
               .rcases HTK.out o' ho' with h1|rfl
                exact HNG.out o' h1 ha';exact absurd ha' HNANS.out
               .have h2:=HLEN5.out m
                rw[Nat.add_mul,Nat.one_mul];omega
              case measure=>simp[intOf];omega
           .have hjo:j=os.length:=by omega
            subst hjo;go_wp2_with fail
            go_roundw
            case rel =>
             refine ⟨k+1,f3,by omega,by go_num,HM5.out,HMID5.out,upto_succ HNW.out (λh1 h2 o ho ha=>?_),λm=>?_,HB5.out,HKB5.out⟩
             .rw[HWAYS.out] at ho
              rw[HX.out] at ha;exact HNG.out o (by rw[List.take_length];exact ho) ha
             .have h1:=HLEN5.out m
              have h2:=cnt_next (c:=q) HMAY.out.1;have h3:os.length*cnt q<=2*cnt q:=Nat.mul_le_mul_right _ hol;omega
            case measure=>simp[intOf];omega
        .have hkl:k3=l.length:=by omega
         subst hkl;have HNG:Hid (¬ Goes (refWays ob st) l T s):=goes_no HD.out HNW.out;go_wp2_with fail;go_ret;refine ⟨HBR.out,HKB.out,.inr ⟨rfl,HNG.out,f2,HM3.out,His.mid_end HMID.out HV.out HNG.out,HMID.out.other,λm=>?_⟩⟩;have h1:=HLEN.out m;have h2:=HC.out;rw[h2] at h1 ⊢;exact h1
end Go.Proofs.YtfjjoohflcchnaaDoor.R3
