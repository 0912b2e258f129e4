/- StackLinear, part 26 of 32: StY, StE, StV, StV2, StK, StK2, StK3, StKc, StKd, StKe, StKf, StL1, StJ. -/
import Derived.Test.YtbbhahigofeacaaDoorStackLinear01
import Derived.Test.YtbbhahigofeacaaDoorStackLinear04
import Derived.Test.YtbbhahigofeacaaDoorStackLinear09
import Derived.Test.YtbbhahigofeacaaDoorStackLinear12
import Derived.Test.YtbbhahigofeacaaDoorStackLinear20
import Derived.Test.YtbbhahigofeacaaDoorStackLinear25
set_option linter.unusedSimpArgs false
set_option linter.unusedVariables false
set_option maxHeartbeats 4000000
set_option maxRecDepth 100000
noncomputable section
namespace Go.Proofs.YtbbhahigofeacaaDoor.Gen
open Go Go.Lift Go.Conc Go.RowKit
open R1 (fstI verI hdI)
variable {pk0:Nat->Option Obj} {v w:World} {j n:Nat} {bc:Frame} {ac:Act} {ops:Array Oper} {rest:List Nat} {oc:Oper} {f:Nat->Int}
def B28:Code:=Tryd.f28.body.getD .skip
def k280:Code:=seq1 B28
def k281:Code:=seq1 (seq2 B28)
def k282:Code:=seq1 (seq2 (seq2 B28))
def R28:Code:=seq2 (seq2 (seq2 B28))
theorem eB28:B28=.seq k280 (.seq k281 (.seq k282 R28)):=by kernel_rfl
theorem fine_k280:A7 Tryd.prog true LV k280:=Cc Cb extT (by kernel_rfl)
theorem fine_k281:A7 Tryd.prog true LV k281:=Cc Cb extT (by kernel_rfl)
theorem fine_k282:A7 Tryd.prog true LV k282:=Cc Cb extT (by kernel_rfl)
section
variable {S:TS}{v:World}{a:Act}{n cap:Nat}{p:Option Addr}{m:Int}
theorem k280_wp (hA:Fl 30 [(0,Pt S.wb 0),(1,I m),(2,.slice p n cap)] a):k280.wp Tryd.prog (λe a w'=>e=.normal∧Fl 30 [(0,Pt S.wb 0),(1,I m),(2,.slice p n cap),(6,.slice none 0 0),(7,I 0)] a∧w'.heap=v.heap∧w'.os=v.os∧w'.output=v.output) a v:=by
 obtain ⟨u,rfl,hu⟩:=litF hA;clear hA;simp only[Fls] at hu;unfold k280 B28 Tryd.f28 seq1;simp only[Qa,lits,Nat.reduceAdd,hu];clear hu;go_wp2_with fail;first
  |exact ⟨rfl,⟨rfl,rfl,(alC rfl<|alC rfl<|alC rfl<|alC rfl<|alC rfl<|alN)⟩,rfl,rfl,rfl⟩
  |exact ⟨⟨rfl,rfl,(alC rfl<|alC rfl<|alC rfl<|alC rfl<|alC rfl<|alN)⟩,rfl,rfl,rfl⟩
  |exact ⟨rfl,rfl,(alC rfl<|alC rfl<|alC rfl<|alC rfl<|alC rfl<|alN)⟩
theorem k281_no (h:Rep zn S v) (pc:Nat->Option Addr) (ln cp:Nat->Nat) (hs:∀ k,k<n->∃ sb so,p=some ⟨sb,so,none⟩∧v.cell? ⟨sb,so+k,none⟩=some (.slice (pc k) (ln k) (cp k))) (hn:n<=17592186043904) (hr:S.ran=false) {E:Int}(hE:Refused n ln E) (hA:Fl 30 [(0,Pt S.wb 0),(1,I m),(2,.slice p n cap),(6,.slice none 0 0),(7,I 0)] a):
 k281.wp Tryd.prog (λe a w'=>e=.ret∧∃ x,(results Tryd.f28 a.tmps).run Tryd.prog w'=.ok x w'∧x=.tuple #[.slice none 0 0,I E]∧w'.heap=v.heap∧w'.os=v.os∧w'.output=v.output) a v:=by
 have h19:=(body19 h p n cap hn pc ln cp hs).calls Tryd.func36 rfl;have H19:Hid (Calls Tryd.prog 36 #[Pt S.wb 0,.slice p n cap] v (λe w'=>e=.returned (I E)∧w'=v)):=⟨h19.mono (by
  rintro e w' ⟨r,rfl,rfl,⟨hk,rfl⟩|⟨hk,rfl⟩⟩
  .rcases hE with ⟨_,rfl⟩|⟨h1,_⟩
   exact ⟨rfl,rfl⟩
   .obtain ⟨k,k1,k2⟩:=hk
    exact absurd (h1 k k1) (by omega)
  .rcases hE with ⟨⟨k,k1,k2⟩,_⟩|⟨_,h1,rfl⟩
   exact absurd (hk k k1) (by omega)
   .refine ⟨?_,rfl⟩
    unfold checkE;rw[if_pos (h1.imp_right .inl)])⟩
 have hE0:¬ E=0:=by rcases hE with ⟨_,rfl⟩|⟨_,_,rfl⟩<;>decide
 clear h19 h hs hn hr hE;obtain ⟨u,rfl,hu⟩:=litF hA;clear hA;simp only[Fls] at hu;unfold k281 B28 Tryd.f28 seq1 seq2;simp only[Qa,lits,Nat.reduceAdd,hu];clear hu
 go_wp2_with (first
  |(go_at_call 36;refine H19.out.mono ?_;rintro e w1 ⟨rfl,rfl⟩))
 exact results_tmp2 (t:=6) (u:=7) rfl _ _ _
theorem k281_yes (h:Rep zn S v) (pc:Nat->Option Addr) (ln cp:Nat->Nat) (hs:∀ k,k<n->∃ sb so,p=some ⟨sb,so,none⟩∧v.cell? ⟨sb,so+k,none⟩=some (.slice (pc k) (ln k) (cp k))) (hln:∀ k,k<n->ln k<=64) (hn:0<n∧n<=8) (hr:S.ran=false) (hA:Fl 30 [(0,Pt S.wb 0),(1,I m),(2,.slice p n cap),(6,.slice none 0 0),(7,I 0)] a):
 k281.wp Tryd.prog (λe a w'=>e=.normal∧Fl 30 [(0,Pt S.wb 0),(1,I m),(2,.slice p n cap),(6,.slice none 0 0),(7,I 0)] a∧w'.heap=v.heap∧w'.os=v.os∧w'.output=v.output) a v:=by
 have h19:=(body19 h p n cap (by omega) pc ln cp hs).calls Tryd.func36 rfl;have he:checkE n S.ran=0:=by unfold checkE;rw[if_neg (by rw[hr];rintro (h|h|h)<;>first|omega|cases h)]
 have H19:Hid (Calls Tryd.prog 36 #[Pt S.wb 0,.slice p n cap] v (λe w'=>e=.returned (I 0)∧w'=v)):=⟨h19.mono (by rintro e w' ⟨r,rfl,rfl,⟨⟨k,hk,h1⟩,_⟩|⟨_,rfl⟩⟩;exact absurd (hln k hk) (by omega);rw[he];exact ⟨rfl,rfl⟩)⟩
 clear h19 h hs hln hn hr he;obtain ⟨u,rfl,hu⟩:=litF hA;clear hA;simp only[Fls] at hu;unfold k281 B28 Tryd.f28 seq1 seq2;simp only[Qa,lits,Nat.reduceAdd,hu];clear hu
 go_wp2_with (first
  |(go_at_call 36;refine H19.out.mono ?_;rintro e w1 ⟨rfl,rfl⟩))
 first
  |exact ⟨rfl,⟨rfl,rfl,(alC rfl<|alC rfl<|alC rfl<|alC rfl<|alC rfl<|alN)⟩,rfl,rfl,rfl⟩
  |exact ⟨⟨rfl,rfl,(alC rfl<|alC rfl<|alC rfl<|alC rfl<|alC rfl<|alN)⟩,rfl,rfl,rfl⟩
  |exact ⟨rfl,rfl,(alC rfl<|alC rfl<|alC rfl<|alC rfl<|alC rfl<|alN)⟩
theorem k282_yes (h1:0<=m) (h2:m<=1000) (hA:Fl 30 [(0,Pt S.wb 0),(1,I m),(2,.slice p n cap),(6,.slice none 0 0),(7,I 0)] a):k282.wp Tryd.prog (λe a w'=>e=.normal∧Fl 30 [(0,Pt S.wb 0),(1,I m),(2,.slice p n cap),(6,.slice none 0 0),(7,I 0)] a∧w'.heap=v.heap∧w'.os=v.os∧w'.output=v.output) a v:=by
 have g1:decide (m<0)=false:=decide_eq_false (by omega);have g2:decide (m > 1000)=false:=decide_eq_false (by omega);have g3:¬ m<0:=by omega
 have g4:¬ m > 1000:=by omega
 obtain ⟨u,rfl,hu⟩:=litF hA;clear hA;simp only[Fls] at hu;unfold k282 B28 Tryd.f28 seq1 seq2;simp only[Qa,lits,Nat.reduceAdd,hu];clear hu;go_wp2_with fail;first
  |exact ⟨rfl,⟨rfl,rfl,(alC rfl<|alC rfl<|alC rfl<|alC rfl<|alC rfl<|alN)⟩,rfl,rfl,rfl⟩
  |exact ⟨⟨rfl,rfl,(alC rfl<|alC rfl<|alC rfl<|alC rfl<|alC rfl<|alN)⟩,rfl,rfl,rfl⟩
  |exact ⟨rfl,rfl,(alC rfl<|alC rfl<|alC rfl<|alC rfl<|alC rfl<|alN)⟩
theorem k282_no1 (h1:m<0) (hA:Fl 30 [(0,Pt S.wb 0),(1,I m),(2,.slice p n cap),(6,.slice none 0 0),(7,I 0)] a):k282.wp Tryd.prog (λe a w'=>e=.ret∧∃ x,(results Tryd.f28 a.tmps).run Tryd.prog w'=.ok x w'∧x=.tuple #[.slice none 0 0,I 1]∧w'.heap=v.heap∧w'.os=v.os∧w'.output=v.output) a v:=by have g1:decide (m<0)=true:=decide_eq_true h1;obtain ⟨u,rfl,hu⟩:=litF hA;clear hA;simp only[Fls] at hu;unfold k282 B28 Tryd.f28 seq1 seq2;simp only[Qa,lits,Nat.reduceAdd,hu];clear hu;go_wp2_with fail;exact results_tmp2 (t:=6) (u:=7) rfl _ _ _
theorem k282_no2 (h1:1000<m) (hA:Fl 30 [(0,Pt S.wb 0),(1,I m),(2,.slice p n cap),(6,.slice none 0 0),(7,I 0)] a):k282.wp Tryd.prog (λe a w'=>e=.ret∧∃ x,(results Tryd.f28 a.tmps).run Tryd.prog w'=.ok x w'∧x=.tuple #[.slice none 0 0,I 1]∧w'.heap=v.heap∧w'.os=v.os∧w'.output=v.output) a v:=by
 have g1:decide (m<0)=false:=decide_eq_false (by omega);have g2:decide (m > 1000)=true:=decide_eq_true h1;have g3:¬ m<0:=by omega
 obtain ⟨u,rfl,hu⟩:=litF hA;clear hA;simp only[Fls] at hu;unfold k282 B28 Tryd.f28 seq1 seq2;simp only[Qa,lits,Nat.reduceAdd,hu];clear hu;go_wp2_with fail;exact results_tmp2 (t:=6) (u:=7) rfl _ _ _
end
structure GF (pk0:Nat->Option Obj):Prop where
 a:∃ c t f,pk0 0=some (.cells c t f)∧c[0]? = some (I 0)∧c[1]? = some (I 32)
 b:∃ c t f,pk0 1=some (.cells c t f)∧c[0]? = some (I 32)∧c[1]? = some (I 30)
 c:∃ c t f,pk0 2=some (.cells c t f)∧c[0]? = some (I 0)∧c[1]? = some (I 32)
 d:∃ c t f,pk0 3=some (.cells c t f)∧c[0]? = some (I 32)∧c[1]? = some (I 30)
theorem GF.flds (h:GF pk0) (hv:Has pk0 v):R1.Flds v:=by obtain ⟨c0,t0,f0,g0,a0,a1⟩:=h.a;obtain ⟨c1,t1,f1,g1,b0,b1⟩:=h.b;obtain ⟨c2,t2,f2,g2,d0,d1⟩:=h.c;obtain ⟨c3,t3,f3,g3,e0,e1⟩:=h.d;exact ⟨cell_of (hv _ _ g0) a0,cell_of (hv _ _ g0) a1,cell_of (hv _ _ g1) b0,cell_of (hv _ _ g1) b1,cell_of (hv _ _ g2) d0,cell_of (hv _ _ g2) d1,cell_of (hv _ _ g3) e0,cell_of (hv _ _ g3) e1⟩
def QStk (n:Nat) (caps:Array Value) (pk:Nat->Option Obj) (K:List (Nat×Int)):Prop :=
 n<=1000∧∃ pk0 c s sb rb,GF pk0∧caps=#[Pt c 0]∧StkN pk0 pk n c s sb rb K∧K.map (·.2)=sts n n
theorem mineStk (n:Nat) (caps:Array Value) (pk:Nat->Option Obj) (K:List (Nat×Int)) (h:QStk n caps pk K) (X:Fix (mcT n)) (hf:X.fid=52) (hc:X.caps=caps) (hp:X.pk=pk) (hk:X.kb=K.map (·.1)):(pkgT n).Mine X:=by
 obtain ⟨h1,pk0,c,s,sb,rb,hG,rfl,hS,hK⟩:=h;refine ⟨c,s,sb,rb,hc,λv hv=>?_⟩;rw[hp] at hv;have hl:K.length=2*n+2+2*n:=by have:=congrArg List.length hK;rw[List.length_map,G0] at this;exact this
 have hkj:∀ j,j<K.length->∃ c,K[j]? = some c∧X.kb[j]? = some c.1:=λj hj=>⟨_,Qf hj,by rw[hk,List.getElem?_map,Qf hj];rfl⟩
 obtain ⟨c0,e0,e1⟩:=hS.sbox;obtain ⟨c1,e2,e3⟩:=hS.box;have f0:=hv _ _ e1;have f1:=hv _ _ e3;have f2:=hv _ _ hS.srow;have f3:=hv _ _ hS.row;refine ⟨⟨⟨⟨c0.1,by rw[hk,List.getElem?_map,e0];rfl,cell_of f0 rfl⟩,cell_of f0 rfl,λk hk=>?_,λk hk=>?_⟩,cell_of f1 rfl,⟨c1.1,by unfold hdJ;rw[hk,List.getElem?_map,e2];rfl,cell_of f1 rfl⟩,cell_of f1 rfl,λk hk=>?_,λk hk=>?_,h1⟩,hG.flds (λb o hb=>hv b o (hS.old b o hb))⟩
 .obtain ⟨c,g1,g2⟩:=hkj (1+k*2) (by omega)
  exact ⟨c.1,by unfold nxJ;rw[Nat.mul_comm];exact g2,Ia f2 (by omega) g1⟩
 .obtain ⟨c,g1,g2⟩:=hkj (1+(k*2+1)) (by omega)
  exact ⟨c.1,by unfold usJ;rw[show 2+2*k=1+(k*2+1) by omega];exact g2,Ia f2 (by omega) g1⟩
 .obtain ⟨c,g1,g2⟩:=hkj (2*n+2+k*2) (by omega)
  exact ⟨c.1,by unfold vlJ;rw[Nat.mul_comm 2 k];exact g2,Ia f3 (by omega) g1⟩
 .obtain ⟨c,g1,g2⟩:=hkj (2*n+2+(k*2+1)) (by omega)
  exact ⟨c.1,by unfold lkJ;rw[show 2*n+3+2*k=2*n+2+(k*2+1) by omega];exact g2,Ia f3 (by omega) g1⟩
theorem bh_in (i n:Nat) (hi:i<=n):0<=bh i n∧bh i n<=n:=by unfold bh;split<;>omega
theorem nxs_get (n:Nat):∀ (k j:Nat) (x:Int),(nxs n k)[j]? = some x->(j=0∧x=hdI (bh 0 n) 0)∨(∃ i,i<k∧j=nxJ i∧x=bh (i+1) n)∨(∃ i,i<k∧j=usJ i∧x=0)
 |0,j,x,h=>by
  cases j with
  |zero=>exact .inl ⟨rfl,(Qd h).symm⟩
  |succ j=>cases h
 |k+1,j,x,h=>by
  unfold nxs at h;have hl:=Fb n k;rcases Nat.lt_or_ge j (nxs n k).length with h1|h1
  .rw[List.append_assoc,Qn h1] at h
   rcases nxs_get n k j x h with h|⟨i,h2,h3,h4⟩|⟨i,h2,h3,h4⟩
   exact .inl h;exact .inr (.inl ⟨i,by omega,h3,h4⟩);exact .inr (.inr ⟨i,by omega,h3,h4⟩)
  .rw[List.append_assoc,List.getElem?_append_right h1] at h
   by_cases e:j=(nxs n k).length
   .rw[e,Nat.sub_self] at h
    exact .inr (.inl ⟨k,by omega,by unfold nxJ;omega,(Qd h).symm⟩)
   .by_cases e2:j=(nxs n k).length+1
    .rw[e2,Nat.add_sub_cancel_left] at h
     exact .inr (.inr ⟨k,by omega,by unfold usJ;omega,(Qd h).symm⟩)
    .have h2:2<=j - (nxs n k).length:=by omega
     rw[List.getElem?_eq_none (by simpa using h2)] at h;cases h
theorem sts_get (n:Nat):∀ (k j:Nat) (x:Int),(sts n k)[j]? = some x->(nxs n n)[j]? = some x∨(2*n+1<=j∧x=0)
 |0,j,x,h=>by
  unfold sts at h;have hl:=Fb n n;rcases Nat.lt_or_ge j (nxs n n).length with h1|h1
  .rw[Qn h1] at h
   exact .inl h
  .rw[List.getElem?_append_right h1] at h
   have:j - (nxs n n).length=0:=by rcases Nat.eq_zero_or_pos (j - (nxs n n).length) with h0|h0;exact h0;rw[List.getElem?_eq_none (by simp;omega)] at h;cases h
   rw[this] at h;exact .inr ⟨by omega,(Qd h).symm⟩
 |k+1,j,x,h=>by
  unfold sts at h;have hl:=G0 n k;rcases Nat.lt_or_ge j (sts n k).length with h1|h1
  .rw[List.append_assoc,Qn h1] at h
   exact sts_get n k j x h
  .rw[List.append_assoc,List.getElem?_append_right h1] at h
   refine .inr ⟨by omega,?_⟩;have h2:j - (sts n k).length<2:=by have:=(Qc h).1;simpa using this
   rcases Nat.lt_or_ge (j - (sts n k).length) 1 with h3|h3;rw[show j - (sts n k).length=0 by omega] at h;exact (Qd h).symm;rw[show j - (sts n k).length=1 by omega] at h;exact (Qd h).symm
theorem sts_ok (n:Nat) (hn:n<=1000) {x:Int}(h:(sts n n)[j]? = some x):okT n j x:=by
 rcases sts_get n n j x h with h|⟨h,rfl⟩
 .rcases nxs_get n n j x h with ⟨rfl,rfl⟩|⟨i,h1,rfl,rfl⟩|⟨i,h1,rfl,rfl⟩
  .have hb:=bh_in 0 n (by omega)
   refine ⟨λ_=>?_,λq=>by omega⟩;rw[R1.fst_hd hb.1 (by omega) (by omega)];exact hb.2
  exact okT_ref (by unfold nxJ hdJ;omega) (bh_in (i+1) n (by omega));exact okT_any (by unfold usJ;omega) _
 refine ⟨λ_=>by rw[R1.fstI_zero];omega,λ_=>by omega⟩
theorem kokStk (n:Nat) (caps:Array Value) (pk:Nat->Option Obj) (K:List (Nat×Int)) (h:QStk n caps pk K):KOk (mcT n) K:=λj p hp hn=>by obtain ⟨h1,pk0,c,s,sb,rb,hG,hc,hS,hK⟩:=h;refine sts_ok n hn (j:=j) ?_;rw[<-hK,List.getElem?_map,hp];rfl
theorem tplay_in {Ch:Nat->Prop}{Stop:Goroutine->World->Prop}{main:Bool}{S:TS}(s:Nat) (h1:s<=1000) (hG:GF pk0) (hO:Objs v S [] pk0 S [] v) (hlt:∀ b,pk0 b≠none->b<v.heap.size) (p:Option Addr) (n cap:Nat) (hn8:0<n∧n<=8) (hran:S.ran=false) (pc:Nat->Option Addr) (ln cp:Nat->Nat) (hs:∀ k,k<n->∃ sb so,p=some ⟨sb,so,none⟩∧v.cell? ⟨sb,so+k,none⟩=some (.slice (pc k) (ln k) (cp k))) (hln:∀ k,k<n->ln k<=64)
 (cs:List Frame) {q:Nat} {k:List Item} (hoc:ops[q]? = some oc)
 (hvw:Rel zn v w) (hn:Ai Ch v)
 (hk:∀ v' w' (bd:Frame) (ad:Act) (od:Array Oper) (qd:Nat) (rd:List Nat) (oe:Oper) (kd:List Item) (caps:Array Value) (pk:Nat->Option Obj) (S1:TS) (K:List (Nat×Int)),Rel zn v' w'->Ai Ch v'->Objs v S (sts s s) pk S1 K v'->QStk s caps pk K->od[qd]? = some oe ->
   (∀ (Ch:Nat->Prop) (Stop:Goroutine->World->Prop) (w:World) (x:Value),(∀ d,GoT zn main Ch Stop (G (bc.at (ac.put oc.dst (.tuple #[x,I 0])) (.inRegion ops rest :: k)) cs) (w.at d))->GoT zn main Ch Stop (G (bd.at (ad.put oe.dst x) (.inRegion od rd :: kd)) (bc.at ac (.inRegion ops (q :: rest) :: k) :: cs)) w) ->
   GoT zn main Ch Stop (G ((base 37).at { tmps:=#[Pt S.wb 0,.slice p n cap,.func (.func 52) ((mcT s).bn caps) ((mcT s).fr caps)]++Array.replicate 36 undef,defers:=[] } [.code B20]) (bd.at ad (.inRegion od (qd :: rd):: kd):: bc.at ac (.inRegion ops (q :: rest):: k):: cs)) w'):
 GoT zn main Ch Stop (G ((base 28).at { tmps:=#[Pt S.wb 0,I s,.slice p n cap]++Array.replicate 27 undef,defers:=[] } [.code B28]) (bc.at ac (.inRegion ops (q :: rest) :: k) :: cs)) w:=by
 rw[eB28];have hA0:Fl 30 [(0,Pt S.wb 0),(1,I s),(2,.slice p n cap)] { tmps:=#[Pt S.wb 0,I s,.slice p n cap]++Array.replicate 27 undef,defers:=[] }:=by simp only[Sy];exact ⟨rfl,rfl,(alC rfl<|alC rfl<|alC rfl<|alN)⟩
 refine Ab ?_;refine Ba (z:=zn) (wr:=true) (L:=LV) (I:=Ai Ch) hE G5 Az (λv v' w w' es hi hr ho he=>B0 v v' w w' es hi hr ho he) hvw fine_k280 hA0.2.1 (by simp[base]) hn (Q:=λa w'=>Fl 30 [(0,Pt S.wb 0),(1,I s),(2,.slice p n cap),(6,.slice none 0 0),(7,I 0)] a∧w'.heap=v.heap∧w'.os=v.os∧w'.output=v.output) (λτ=>k280_wp (v:=Ap v τ 0) hA0) ?_;rintro a0 v0 w0 ⟨hB0,e0,o0,u0⟩ hr0 hn0 -;have m0:Mem zn S [] v0:=(hO.cel.mem.grows (v':=v0) ⟨by rw[e0];exact Qi _,λb _=>by rw[e0],o0,u0⟩).mem;have hs0:∀ τ,∀ k,k<n->∃ sb so,p=some ⟨sb,so,none⟩∧(Ap v0 τ 0).cell? ⟨sb,so+k,none⟩=some (.slice (pc k) (ln k) (cp k)):=λτ k hk=>by obtain ⟨sb,so,h1,h2⟩:=hs k hk;exact ⟨sb,so,h1,by rw[World.cell?_of_block (w:=v) (w':=Ap v0 τ 0) (by show v0.heap[_]? = _;rw[e0])];exact h2⟩
 refine Ab ?_;refine Ba (z:=zn) (wr:=true) (L:=LV) (I:=Ai Ch) hE G5 Az (λv v' w w' es hi hr ho he=>B0 v v' w w' es hi hr ho he) hr0 fine_k281 hB0.2.1 (by simp[base]) hn0 (Q:=λa w'=>Fl 30 [(0,Pt S.wb 0),(1,I s),(2,.slice p n cap),(6,.slice none 0 0),(7,I 0)] a∧w'.heap=v0.heap∧w'.os=v0.os∧w'.output=v0.output) (λτ=>k281_yes (v:=Ap v0 τ 0) (m0.grows (v':=Ap v0 τ 0) ⟨Qi _,λ_ _=>rfl,rfl,rfl⟩).mem.rep pc ln cp (hs0 τ) hln hn8 hran hB0) ?_;rintro a1 v1 w1 ⟨hB1,e1,o1,u1⟩ hr1 hn1 -;refine Ab ?_;refine Ba (z:=zn) (wr:=true) (L:=LV) (I:=Ai Ch) hE G5 Az (λv v' w w' es hi hr ho he=>B0 v v' w w' es hi hr ho he) hr1 fine_k282 hB1.2.1 (by simp[base]) hn1 (Q:=λa w'=>Fl 30 [(0,Pt S.wb 0),(1,I s),(2,.slice p n cap),(6,.slice none 0 0),(7,I 0)] a∧w'.heap=v1.heap∧w'.os=v1.os∧w'.output=v1.output) (λτ=>k282_yes (v:=Ap v1 τ 0) (by omega) (by omega) hB1) ?_;rintro a2 v2 w2 ⟨hB2,e2,o2,u2⟩ hr2 hn2 -;have e20:v2.heap=v.heap:=e2.trans (e1.trans e0);have O2:Objs v2 S [] pk0 S [] v2:=⟨Cel.refl (hO.cel.mem.grows (v':=v2) ⟨by rw[e20];exact Qi _,λb _=>by rw[e20],o2.trans (o1.trans o0),u2.trans (u1.trans u0)⟩).mem,rfl,hO.st,λb o hb=>by rw[e20];exact hO.has b o hb,λb hb=>by have:=hO.new b hb;rw[e20];exact this,hO.row⟩
 have hlt2:∀ b,pk0 b≠none->b<v2.heap.size:=λb hb=>by rw[e20];exact hlt b hb
 obtain ⟨hsz,hd,hpp⟩:=hB2;obtain ⟨u,rfl,hg⟩:=litN hsz hd;have u0:=(hg 0).symm.trans (hpp (0,Pt S.wb 0) (by simp));have u1:=(hg 1).symm.trans (hpp (1,I s) (by simp));have u2:=(hg 2).symm.trans (hpp (2,.slice p n cap) (by simp));have u6:=(hg 6).symm.trans (hpp (6,.slice none 0 0) (by simp));have u7:=(hg 7).symm.trans (hpp (7,I 0) (by simp));clear hg hpp hsz hd;unfold R28 B28 Tryd.f28 seq2;simp only[Qa,lits,Nat.reduceAdd,u0,u1,u2,u6,u7];clear u0 u1 u2 u6 u7;refine Ab ?_;refine Ac ?_;simp only[Sz,Sr,Nat.reduceAdd];iterate 2
  (refine Ad rfl rfl (by decide) rfl λd K hK=>?_
   go_simp;refine hK _ ?_;clear hK K)
 refine Ed (L:=LV) (f:=49) (fn:=Tryd.f49) (args:=#[Pt S.wb 0,I s]) hE G5 rfl rfl (by decide) rfl (by simp[Act.eval]) Tryd.func49 (by kernel_rfl) rfl (Ci G5 (by simp[LV,plainV]) Tryd.func49 rfl) (λtmps=>⟨_,λw=>results_tmp rfl _ _ _,λw=>by simp[results,go_sem,Tryd.f49]⟩) hr2 hn2
  (R:=λr v4=>r=Pt (v2.heap.size+1) 0∧∃ S1 K pk',Objs v2 S (sts s s) pk' S1 K v4∧StkN pk0 pk' s (v2.heap.size+1) (v2.heap.size+3) (v2.heap.size+2) v2.heap.size K) (λτ=>?_) (λr v4 w4 hR hr4 hn4=>?_)
 .have Oτ:Objs (Ap v2 τ 0) S [] pk0 S [] (Ap v2 τ 0):=⟨Cel.refl (O2.cel.mem.grows (v':=Ap v2 τ 0) ⟨Qi _,λ_ _=>rfl,rfl,rfl⟩).mem,rfl,O2.st,O2.has,O2.new,O2.row⟩
  refine wp_mono (stackNew Oτ (hG.flds Oτ.has) s h1 _ rfl) (Dm λr u hq=>⟨hq.1,?_⟩);obtain ⟨_,S1,K,pk',o,h2⟩:=hq;exact ⟨S1,K,pk',⟨o.cel.from rfl rfl rfl,o.vals,o.st,o.has,o.new,o.row⟩,h2⟩
 obtain ⟨rfl,S1,K,pk',ob4,hKl⟩:=hR;have hset:Objs v S (sts s s) pk' S1 K v4 :=
  ⟨ob4.cel.from e20 (o2.trans (o1.trans o0)) (u2.trans (u1.trans u0)),ob4.vals,ob4.st,ob4.has,λb hb=>by rw[<-e20];exact ob4.new b hb,ob4.row⟩
 have hql:QStk s #[Pt (v2.heap.size+1) 0] pk' K:=⟨h1,pk0,_,_,_,_,hG,rfl,hKl,ob4.vals⟩
 clear ob4 hKl hr0 hr1 hr2 hn0 hn1 hn2 e0 e1 e2 e20 o0 o1 o2 u0 u1 u2 hvw hn hs hs0 hln m0 O2 hlt2 hO hlt;walk_nrm
 refine Ad rfl rfl (by decide) rfl λd K hK=>?_;go_simp;refine hK _ ?_;clear hK K;refine Aa ?_;refine Ab ?_;refine Ac ?_;simp only[Sz,Sr,Nat.reduceAdd];iterate 4
  (refine Ad rfl rfl (by decide) rfl λd K hK=>?_
   go_simp;refine hK _ ?_;clear hK K)
 refine Ao (f:=37) (fn:=Tryd.f37) (args:=#[Pt S.wb 0,.slice p n cap,.func (.func 52) #[Pt (v2.heap.size+1) 0] #[]]) (Ag _ _) rfl rfl (by decide) rfl (by simp[Act.eval]) Tryd.func37 (by decide) rfl ?_;refine hk v4 w4 _ _ _ _ _ _ _ _ _ _ _ hr4 hn4 hset hql rfl (λCh Stop w x hg=>?_);clear hk hset hr4 hn4 hql;iterate 2
  (refine Ad rfl rfl (by decide) rfl λd K hK=>?_
   go_simp;refine hK _ ?_;clear hK K)
 refine Aa ?_;refine GoesI.ctl rfl (λ_=>stepG_ret') (Ag _ _) ?_;refine Dc (b:=base 28) (fn:=Tryd.f28) (v:=.tuple #[x,I 0]) rfl rfl Tryd.func28 (λw=>?_) (λw=>by simp[results,go_sem,Tryd.f28]) hoc (Ag _ _) ?_
 .rw[results_tmp2 (t:=6) (u:=7) rfl]
  simp
 .have:=hg w.drawn
  exact this
theorem tplay_no {Ch:Nat->Prop}{Stop:Goroutine->World->Prop}{main:Bool}{S:TS}(m:Int) (p:Option Addr) (n cap:Nat) (pc:Nat->Option Addr) (ln cp:Nat->Nat) (hs:∀ k,k<n->∃ sb so,p=some ⟨sb,so,none⟩∧v.cell? ⟨sb,so+k,none⟩=some (.slice (pc k) (ln k) (cp k))) (hn1:n<=17592186043904) (hran:S.ran=false) (hm:Mem zn S [] v)
 {E:Int} (hRe:Refused n ln E∨((∀ k,k<n->ln k<=64)∧(0<n∧n<=8)∧(m<0∨1000<m)∧E=1)) (cs:List Frame) {q:Nat} {k:List Item} (hoc:ops[q]? = some oc)
 (hvw:Rel zn v w) (hn:Ai Ch v)
 (hk:∀ v' w',Rel zn v' w'->Ai Ch v'->v'.heap=v.heap->v'.os=v.os->v'.output=v.output->GoT zn main Ch Stop (G (bc.at (ac.put oc.dst (.tuple #[.slice none 0 0,I E])) (.inRegion ops rest :: k)) cs) w'):
 GoT zn main Ch Stop (G ((base 28).at { tmps:=#[Pt S.wb 0,I m,.slice p n cap]++Array.replicate 27 undef,defers:=[] } [.code B28]) (bc.at ac (.inRegion ops (q :: rest) :: k) :: cs)) w:=by
 rw[eB28];have hA0:Fl 30 [(0,Pt S.wb 0),(1,I m),(2,.slice p n cap)] { tmps:=#[Pt S.wb 0,I m,.slice p n cap]++Array.replicate 27 undef,defers:=[] }:=by simp only[Sy];exact ⟨rfl,rfl,(alC rfl<|alC rfl<|alC rfl<|alN)⟩
 refine Ab ?_;refine Ba (z:=zn) (wr:=true) (L:=LV) (I:=Ai Ch) hE G5 Az (λv v' w w' es hi hr ho he=>B0 v v' w w' es hi hr ho he) hvw fine_k280 hA0.2.1 (by simp[base]) hn (Q:=λa w'=>Fl 30 [(0,Pt S.wb 0),(1,I m),(2,.slice p n cap),(6,.slice none 0 0),(7,I 0)] a∧w'.heap=v.heap∧w'.os=v.os∧w'.output=v.output) (λτ=>k280_wp (v:=Ap v τ 0) hA0) ?_;rintro a0 v0 w0 ⟨hB0,e0,o0,u0⟩ hr0 hn0 -;have m0:Mem zn S [] v0:=(hm.grows (v':=v0) ⟨by rw[e0];exact Qi _,λb _=>by rw[e0],o0,u0⟩).mem;have hs0:∀ τ,∀ k,k<n->∃ sb so,p=some ⟨sb,so,none⟩∧(Ap v0 τ 0).cell? ⟨sb,so+k,none⟩=some (.slice (pc k) (ln k) (cp k)):=λτ k hk=>by obtain ⟨sb,so,h1,h2⟩:=hs k hk;exact ⟨sb,so,h1,by rw[World.cell?_of_block (w:=v) (w':=Ap v0 τ 0) (by show v0.heap[_]? = _;rw[e0])];exact h2⟩
 refine Ab ?_;rcases hRe with hRe|⟨hE1,hE2,hE3,rfl⟩
 .refine Hq (c:=k281) (f:=28) (fn:=Tryd.f28) (L:=LV) hE G5 hr0 hn0 Tryd.func28 fine_k281 hB0.2.1 hoc (R:=λr w'=>r=.tuple #[.slice none 0 0,I E]∧w'.heap=v0.heap∧w'.os=v0.os∧w'.output=v0.output) (λτ=>k281_no (v:=Ap v0 τ 0) (m0.grows (v':=Ap v0 τ 0) ⟨Qi _,λ_ _=>rfl,rfl,rfl⟩).mem.rep pc ln cp (hs0 τ) hn1 hran hRe hB0) (λr v' w' hR hr' hn'=>?_)
  obtain ⟨rfl,h1,h2,h3⟩:=hR;exact hk v' w' hr' hn' (h1.trans e0) (h2.trans o0) (h3.trans u0)
 .refine Ba (z:=zn) (wr:=true) (L:=LV) (I:=Ai Ch) hE G5 Az (λv v' w w' es hi hr ho he=>B0 v v' w w' es hi hr ho he) hr0 fine_k281 hB0.2.1 (by simp[base]) hn0 (Q:=λa w'=>Fl 30 [(0,Pt S.wb 0),(1,I m),(2,.slice p n cap),(6,.slice none 0 0),(7,I 0)] a∧w'.heap=v0.heap∧w'.os=v0.os∧w'.output=v0.output) (λτ=>k281_yes (v:=Ap v0 τ 0) (m0.grows (v':=Ap v0 τ 0) ⟨Qi _,λ_ _=>rfl,rfl,rfl⟩).mem.rep pc ln cp (hs0 τ) hE1 hE2 hran hB0) ?_
  rintro a1 v1 w1 ⟨hB1,e1,o1,u1⟩ hr1 hn1 -;refine Ab ?_;refine Hq (c:=k282) (f:=28) (fn:=Tryd.f28) (L:=LV) hE G5 hr1 hn1 Tryd.func28 fine_k282 hB1.2.1 hoc (R:=λr w'=>r=.tuple #[.slice none 0 0,I 1]∧w'.heap=v1.heap∧w'.os=v1.os∧w'.output=v1.output) (λτ=>hE3.elim (λh=>k282_no1 (v:=Ap v1 τ 0) h hB1) (λh=>k282_no2 (v:=Ap v1 τ 0) h hB1)) (λr v' w' hR hr' hn'=>?_);obtain ⟨rfl,h1,h2,h3⟩:=hR;exact hk v' w' hr' hn' (h1.trans (e1.trans e0)) (h2.trans (o1.trans o0)) (h3.trans (u1.trans u0))
section
variable {S:TS}{n sb so cap:Nat}{pc:Nat->Option Addr}{ln cp rb:Nat->Nat}{cl:Nat->List Cl}
theorem tplay_all (s:Nat) (h1:s<=1000) {cs:List Frame}{q0:Nat}{k0:List Item}(hoc:ops[q0]? = some oc) {T:Trace}{gs:Array Goroutine}{q:Nat->Nat}(sl:Option (Nat×Nat)) (NT:Nat) (A:Alone gs w T q)
 (hg:gs[0]? = some (G ((base 28).at { tmps:=#[Pt S.wb 0,I s,.slice (some ⟨sb,so,none⟩) n cap]++Array.replicate 27 undef,defers:=[] } [.code B28]) (bc.at ac (.inRegion ops (q0 :: rest) :: k0) :: cs)))
 (hm:Mem zn S [] w) (hthr:S.thr=[]) (hran:S.ran=false) (hch:S.chg=[]) (hbk:Open w S.bk) (hG:GF pk0) (hpk:Has pk0 w) (hpf:∀ b,pk0 b≠none->¬ Own S [] b∧b≠S.bk) (hpr:∀ b o,pk0 b=some o->∃ c e f,o=.cells c e f) (t:Asked w S n sb so pc ln cp rb cl) (hn8:0<n∧n<=8)
 (hlen:∀ caps pk N K,S.n+2*lens (scrs (mcT s) 52 caps pk N n K pc ln cp rb cl)<=1000000) (hsl:S.sched.length<=4611686018427387904) (hsc:∀ x∈S.sched,-9223372036854775808<=x∧x<9223372036854775808) (l0:Nat->Ph)
 (hturn:∀ (caps:Array Value) (pk:Nat->Option Obj) (N:Nat) (cv:Value) (K:List (Nat×Int)),K.map (·.2)=sts s s->∀ S1 l1,Hires (mcT s) 0 (scrs (mcT s) 52 caps pk N n K pc ln cp rb cl) (nv { Kp S cv (sts s s).length with ran:=true }) l0 S1 l1->∃ m p',m<=NT∧Turns (mcT s) m ⟨S1,K,l1⟩ p'∧p'.S.n*40<=140737488355328):
 ∃ (N':Nat) (gs':Array Goroutine) (w':World) (sl':Option (Nat×Nat)) (T':Trace) (q':Nat->Nat) (caps:Array Value) (pk:Nat->Option Obj) (N:Nat) (cv:Value) (K:List (Nat×Int)) (S':TS) (S1:TS) (l1:Nat->Ph) (m:Nat) (p':PSt),
   runNT Tryd.prog N' (crowd gs w sl) T=(.next (crowd gs' w' sl'),T')∧gs'.size=gs.size+n∧gs'[0]? = some (G (bc.at (ac.put oc.dst (.tuple #[.slice (some ⟨N+1,0,none⟩) n n,I 0])) (.inRegion ops rest :: k0)) cs) ∧
   Alone gs' w' T' q'∧K.map (·.2)=sts s s∧nv S'=p'.S∧Hires (mcT s) 0 (scrs (mcT s) 52 caps pk N n K pc ln cp rb cl) (nv { Kp S cv (sts s s).length with ran:=true }) l0 S1 l1∧Turns (mcT s) m ⟨S1,K,l1⟩ p'∧GOut w S n ln N S' p'.K p'.l w':=by
 refine gplay_all (xs:=sts s s) (cap:=cap) (q0:=q0) (pkgT s) (mineStk s) (kokStk s) sl NT A hg ?_ hm hthr hran hbk t hn8 hlen hsl hsc l0 hturn;exact tplay_in s h1 hG (Objs.startG hm hch hpk hpf hpr) (λb hb=>by
  obtain ⟨o,ho⟩:=Option.ne_none_iff_exists'.1 hb;exact (Qb (hpk b o ho)).1) (some ⟨sb,so,none⟩) n cap hn8 hran pc ln cp (λk hk=>⟨sb,so,rfl,t.row k hk⟩) (λk hk=>(t.len k hk).2) cs hoc (Rel.refl w) (λc hc=>hc.elim)
  (λv' w' bd ad od qd rd oe kd caps pk S1 K hr hn ho hq hoe hback=>GoesI.stop λd=>⟨bd,ad,od,qd,rd,oe,kd,caps,pk,S1,K,ho.same hr.eq hr.os hr.output,hq,hoe,hback,rfl⟩)
end
def levT (q:Q):Nat :=
 match q.1 with
 |1=>6|2=>6|3=>6|4=>5|5=>4|6=>3|7=>3|8=>3
 |11=>6|12=>6|13=>6|14=>5|15=>4|16=>3|17=>3|18=>3
 |_=>0
def wsT (n:Nat) (q:Q) (f:Nat->Int):Nat :=
 let a:=q.2.getD 0 0
 let b:=q.2.getD 1 0
 let c:=q.2.getD 2 0
 match q.1 with
 |1=>3|2=>if f 0=b then 2 else 5|3=>if f 0=b then 1 else 4
 |6=>3|7=>if f (hdJ n)=b then 2 else 5|8=>if f (hdJ n)=b then 1 else 4
 |11=>3|12=>if f (hdJ n)=a then 2 else 5|13=>if f (hdJ n)=a then 1 else 4
 |16=>3|17=>if f 0=c then 2 else 5|18=>if f 0=c then 1 else 4
 |_=>0
theorem wsT_of {f':Nat->Int}(h0:f' 0=f 0) (h1:f' (hdJ n)=f (hdJ n)) (q:Q):wsT n q f'=wsT n q f:=by unfold wsT;simp only[h0,h1]
theorem upd_far {k:Nat}{x:Int}(h:k≠j):Mw.updF f j x k=f k:=if_neg h
theorem upd_id :Mw.updF f j (f j)=f:=by
 funext k;unfold Mw.updF;split
 .rename_i e;rw[e]
 rfl
theorem atT_cells {q:Q}(h:atT n q j):j<4*n+2:=by unfold atT at h;simp only at h;split at h<;>(try simp only[nxJ,usJ,hdJ,vlJ,lkJ,slI,E3] at h)<;>first|omega|exact h.elim
theorem atT_lev {q:Q}(h:atT n q j):1<=levT q∧levT q<=6:=by unfold atT at h;unfold levT;simp only at h;split at h<;>rename_i e<;>first|exact h.elim|(rw[e];exact ⟨by decide,by decide⟩)
theorem wsT_le (n:Nat) (q:Q) (f:Nat->Int):wsT n q f<=5:=by unfold wsT;simp only;split<;>(try split)<;>omega
theorem turnT_pro (q:Q) (j:Nat) (f:Nat->Int) (ha:atT n q j) (hok:okT n j (f j)):Mw.nlev levT (Ak n q (f j)).2.2<levT q∨∃ op j' q',(Ak n q (f j)).2.2=.turn op j' q'∧levT q'=levT q∧wsT n q' (Mw.updF f j (Ak n q (f j)).2.1)+1<=wsT n q f∧∀ q'',wsT n q'' (Mw.updF f j (Ak n q (f j)).2.1)=wsT n q'' f:=by
 obtain ⟨k,l⟩:=q;unfold atT at ha;simp only at ha;generalize e0:l.getD 0 0=a at ha;generalize e1:l.getD 1 0=b at ha;generalize e2:l.getD 2 0=c at ha;have e0':l[0]?.getD 0=a:=by simpa using e0
 have e1':l[1]?.getD 0=b:=by simpa using e1
 have e2':l[2]?.getD 0=c:=by simpa using e2
 have id_:∀ q'':Q,wsT n q'' (Mw.updF f j (f j))=wsT n q'' f:=λq''=>by rw[upd_id]
 split at ha
 .subst ha
  by_cases h0:fstI (f 0)=0
  .left
   simp[Ak,same,h0,Mw.nlev,levT]
  .right
   refine ⟨1,nxJ (slI (f 0)),(2,[a,f 0]),by simp[Ak,same,h0,e0'],rfl,?_,id_⟩;show wsT n (2,[a,f 0]) (Mw.updF f 0 (f 0))+1<=_;rw[id_];simp[wsT]
 .right
  refine ⟨4,0,(3,[a,b,f j]),by simp[Ak,same,e0',e1'],rfl,?_,id_⟩;show wsT n (3,[a,b,f j]) (Mw.updF f j (f j))+1<=_;rw[id_];simp only[wsT,e1,List.getD_cons_succ,List.getD_cons_zero];split<;>omega
 .obtain ⟨_,_,_,_,rfl⟩:=ha
  by_cases hx:f 0=b
  .left
   simp[Ak,put_,e1',hx,Mw.nlev,levT]
  .right
   have e:Ak n (3,l) (f 0)=same (f 0) (.turn 1 0 (1,[a])):=by simp[Ak,e0',e1',hx]
   rw[e];refine ⟨1,0,(1,[a]),rfl,rfl,?_,id_⟩;show wsT n (1,[a]) (Mw.updF f 0 (f 0))+1<=_;rw[id_];simp[wsT,e1',hx]
 .left
  simp[Ak,put_,Mw.nlev,levT]
 .left
  simp[Ak,put_,Mw.nlev,levT]
 .obtain ⟨_,rfl⟩:=ha
  right;refine ⟨2,lkJ n a.toNat,(7,[a,f (hdJ n)]),by simp[Ak,same,e0'],rfl,?_,id_⟩;show wsT n (7,[a,f (hdJ n)]) (Mw.updF f (hdJ n) (f (hdJ n)))+1<=_;rw[id_];simp[wsT]
 .obtain ⟨_,_,rfl⟩:=ha
  right;have g0:∀ x,Mw.updF f (lkJ n a.toNat) x 0=f 0:=λx=>upd_far (by unfold lkJ;omega);have g1:∀ x,Mw.updF f (lkJ n a.toNat) x (hdJ n)=f (hdJ n):=λx=>upd_far (by unfold lkJ hdJ;omega);have g:∀ x q'',wsT n q'' (Mw.updF f (lkJ n a.toNat) x)=wsT n q'' f:=λx q''=>wsT_of (g0 x) (g1 x) q'';refine ⟨4,hdJ n,(8,[a,b]),by simp[Ak,put_,e0',e1'],rfl,?_,g _⟩;rw[g];simp only[wsT,e1,List.getD_cons_succ,List.getD_cons_zero];split<;>omega
 .obtain ⟨_,rfl⟩:=ha
  by_cases hx:f (hdJ n)=b
  .left
   simp[Ak,put_,e1',hx,Mw.nlev,levT]
  .right
   have e:Ak n (8,l) (f (hdJ n))=same (f (hdJ n)) (.turn 1 (hdJ n) (6,[a])):=by simp[Ak,e0',e1',hx]
   rw[e];refine ⟨1,hdJ n,(6,[a]),rfl,rfl,?_,id_⟩;show wsT n (6,[a]) (Mw.updF f (hdJ n) (f (hdJ n)))+1<=_;rw[id_];simp[wsT,e1',hx]
 .subst ha
  by_cases h0:fstI (f (hdJ n))=0
  .left
   simp[Ak,same,h0,Mw.nlev,levT]
  .right
   refine ⟨1,lkJ n (slI (f (hdJ n))),(12,[f (hdJ n)]),by simp[Ak,same,h0],rfl,?_,id_⟩;show wsT n (12,[f (hdJ n)]) (Mw.updF f (hdJ n) (f (hdJ n)))+1<=_;rw[id_];simp[wsT]
 .right
  refine ⟨4,hdJ n,(13,[a,f j]),by simp[Ak,same,e0'],rfl,?_,id_⟩;show wsT n (13,[a,f j]) (Mw.updF f j (f j))+1<=_;rw[id_];simp only[wsT,e0,List.getD_cons_succ,List.getD_cons_zero];split<;>omega
 .obtain ⟨_,_,_,_,rfl⟩:=ha
  by_cases hx:f (hdJ n)=a
  .left
   simp[Ak,put_,e0',hx,Mw.nlev,levT]
  .right
   have e:Ak n (13,l) (f (hdJ n))=same (f (hdJ n)) (.turn 1 (hdJ n) (11,[])):=by simp[Ak,e0',hx]
   rw[e];refine ⟨1,hdJ n,(11,[]),rfl,rfl,?_,id_⟩;show wsT n (11,[]) (Mw.updF f (hdJ n) (f (hdJ n)))+1<=_;rw[id_];simp[wsT,e0',hx]
 .left
  simp[Ak,same,Mw.nlev,levT]
 .by_cases hx:f j=1
  .left
   simp[Ak,put_,hx,Mw.nlev,levT]
  .left
   simp[Ak,same,hx,Mw.nlev,levT]
 .obtain ⟨_,rfl⟩:=ha
  right;refine ⟨2,nxJ a.toNat,(17,[a,b,f 0]),by simp[Ak,same,e0',e1'],rfl,?_,id_⟩;show wsT n (17,[a,b,f 0]) (Mw.updF f 0 (f 0))+1<=_;rw[id_];simp[wsT]
 .obtain ⟨hs,_,rfl⟩:=ha
  right;have g0:∀ x,Mw.updF f (nxJ a.toNat) x 0=f 0:=λx=>upd_far (by unfold nxJ;omega);have g1:∀ x,Mw.updF f (nxJ a.toNat) x (hdJ n)=f (hdJ n):=λx=>upd_far (by unfold E3 at hs;unfold nxJ hdJ;omega);have g:∀ x q'',wsT n q'' (Mw.updF f (nxJ a.toNat) x)=wsT n q'' f:=λx q''=>wsT_of (g0 x) (g1 x) q'';refine ⟨4,0,(18,[a,b,c]),by simp[Ak,put_,e0',e1',e2'],rfl,?_,g _⟩;rw[g];simp only[wsT,e2,List.getD_cons_succ,List.getD_cons_zero];split<;>omega
 .obtain ⟨_,rfl⟩:=ha
  by_cases hx:f 0=c
  .left
   simp[Ak,put_,e2',hx,Mw.nlev,levT]
  .right
   have e:Ak n (18,l) (f 0)=same (f 0) (.turn 1 0 (16,[a,b])):=by simp[Ak,e0',e1',e2',hx]
   rw[e];refine ⟨1,0,(16,[a,b]),rfl,rfl,?_,id_⟩;show wsT n (16,[a,b]) (Mw.updF f 0 (f 0))+1<=_;rw[id_];simp[wsT,e2',hx]
 exact ha.elim
theorem turnT_nw (q:Q) (x:Int) (j:Nat) (q':Q):(Ak n q x).2.2≠.wait j q':=by
 intro h;unfold Ak at h;simp only[same,put_] at h
 repeat (split at h<;>try cases h)
def metT (n:Nat) (hn:n<=1000):Mw.Met (mcT n) where
 L:=6
 hL:=by decide
 lev:=levT
 ws:=wsT n
 ws_le:=wsT_le n
 nts _ _:=rfl
 nw i c j q h:=by
  have h:(if c.po=1 then Nx.turn 1 0 (1,[c.ca]) else if c.po=2 then .turn 1 (hdJ n) (11,[]) else .ans 1 0)=.wait j q:=h;split at h;cases h
  .split at h<;>cases h
 nwt:=turnT_nw
 lev1 q j h:=atT_lev (h hn)
 turn q j f ha hok:=turnT_pro q j f (ha hn) (hok hn)
theorem cells_T (hn:n<=1000) {K:List (Nat×Int)}(hK:K.map (·.2)=sts n n):Mw.Cells (mc:=mcT n) K.length:=λq j h=>by
 have hl:K.length=2*n+2+2*n:=by have:=congrArg List.length hK;rw[List.length_map,G0] at this;exact this
 have:=atT_cells (h hn);omega
theorem kok_T {K:List (Nat×Int)}(hK:K.map (·.2)=sts n n):KOk (mcT n) K:=λj p hp hn=>by refine sts_ok n hn (j:=j) ?_;rw[<-hK,List.getElem?_map,hp];rfl
end Go.Proofs.YtbbhahigofeacaaDoor.Gen
namespace Go.Proofs.YtbbhahigofeacaaDoor.Gen
open Go Go.Lift Go.Conc Go.RowKit
open R1 (fstI verI hdI)
open Go.ConcN (upd upd_same upd_ne)
variable {f x y:Int} {B a i ii j n:Nat} {q q':Q} {C C':Nat->Int} {o':Option Q} {F S:List Nat} {X:List Stp} {stk:Bool}
def sh (x:Int):Int:=x / 4294967296
theorem hd_low {v:Int}(f0:0<=f) (f1:f<4294967296) (v0:0<=v):0<=hdI f v∧hdI f v<4611686018427387904:=by
 have hF:=R1.hdI_fits f v;have h:Pl.getI (hdI f v) 62 2=0:=by
  rw[R1.hd_eq f0 f1 v0,R1.getI_far _ _ (by omega) (by omega) (by omega) (by omega),R1.getI_far _ _ (by omega) (by omega) (by omega) (by omega)]
  decide
 unfold Pl.getI at h;unfold Pl.Fits at hF;have h:hdI f v / 4611686018427387904 % 4=0:=h;omega
theorem sh_hd {v:Int}(f0:0<=f) (f1:f<4294967296) (v0:0<=v) (v1:v<1073741824):sh (hdI f v)=v:=by have h:=hd_low f0 f1 v0;have hv:=R1.ver_hd f0 f1 v0;rw[Int.tmod_eq_emod_of_nonneg v0,Int.emod_eq_of_lt v0 v1] at hv;unfold verI Pl.getI at hv;have hv:hdI f v / 4294967296 % 1073741824=v:=hv;unfold sh;omega
def opT (q:Q):Int :=
 match q.1 with
 |1=>1|2=>1|3=>4|4=>2|5=>2|6=>1|7=>2|8=>4
 |11=>1|12=>1|13=>4|14=>1|15=>4|16=>1|17=>2|18=>4
 |_=>0
theorem turn_op {op:Int}(h:(Ak n q x).2.2=.turn op j q'):op=opT q':=by
 unfold Ak at h;simp only[same,put_] at h
 repeat (split at h<;>try (cases h<;>try rfl))
theorem turn_old (q:Q) (x:Int):(Ak n q x).1=(x,(Ak n q x).2.1):=by unfold Ak;simp only;split<;>first|rfl|(split<;>rfl)
theorem getD_set_far {K:List Int}{k:Nat}(h:k≠j):(K.set j y).getD k 0=K.getD k 0:=by rw[Ql,Ql,Qq,if_neg (λe=>h e.symm)]
theorem getD_set_self {K:List Int}(h:j<K.length):(K.set j y).getD j 0=y:=by rw[Ql,Qq,if_pos rfl,if_pos h];rfl
section
variable {N n:Nat}{v v1:Vw}{i:Nat}{op:Int}{j:Nat}{y:Int}{nx:Nx}
end
def Lnk (nx:Nat->Int):Int->List Nat->Prop
 |x,[]=>x=0
 |x,a :: F=>x=(a:Int)+1∧Lnk nx (nx a) F
theorem Lnk.same {nx nx':Nat->Int}:∀ {F:List Nat}{x:Int},Lnk nx x F->(∀ a∈F,nx' a=nx a)->Lnk nx' x F
 | [],_,h,_=>h
 |a :: F,_,h,e=>⟨h.1,by rw[e a (by simp)];exact h.2.same (λb hb=>e b (by simp[hb]))⟩
def ownQ (q:Q):Option Nat :=
 match q.1 with
 |4=>some (q.2.getD 1 0).toNat
 |5=>some (q.2.getD 1 0).toNat
 |6=>some (q.2.getD 0 0).toNat
 |7=>some (q.2.getD 0 0).toNat
 |8=>some (q.2.getD 0 0).toNat
 |14=>some (q.2.getD 0 0).toNat
 |15=>some (q.2.getD 0 0).toNat
 |16=>some (q.2.getD 0 0).toNat
 |17=>some (q.2.getD 0 0).toNat
 |18=>some (q.2.getD 0 0).toNat
 |_=>none
structure Sk (n:Nat) (C:Nat->Int) (q:Q):Prop where
 ha:q.1=2∨q.1=3->sh (q.2.getD 1 0)<=sh (C 0)
 ha2:q.1=17∨q.1=18->sh (q.2.getD 2 0)<=sh (C 0)
 hb:q.1=7∨q.1=8->sh (q.2.getD 1 0)<=sh (C (hdJ n))
 hb2:q.1=12∨q.1=13->sh (q.2.getD 0 0)<=sh (C (hdJ n))
 n3:q.1=3->C 0=q.2.getD 1 0->C (nxJ (slI (q.2.getD 1 0)))=q.2.getD 2 0
 n13:q.1=13->C (hdJ n)=q.2.getD 0 0->C (lkJ n (slI (q.2.getD 0 0)))=q.2.getD 1 0
 n8:q.1=8->C (lkJ n (q.2.getD 0 0).toNat)=fstI (q.2.getD 1 0)
 n18:q.1=18->C (nxJ (q.2.getD 0 0).toNat)=fstI (q.2.getD 2 0)
structure HdI (x:Int) (B:Nat):Prop where
 lo:0<=x
 hi:x<4611686018427387904
 ver:sh x<=B
structure KI (N n B:Nat) (C:Nat->Int) (s:Nat->Option Q) (F S:List Nat):Prop where
 fr:Lnk (λi=>C (nxJ i)) (fstI (C 0)) F
 st:Lnk (λi=>C (lkJ n i)) (fstI (C (hdJ n))) S
 nd:(F++S).Nodup
 lt:∀ a∈F++S,a<n
 va:HdI (C 0) B
 vb:HdI (C (hdJ n)) B
 sit:∀ i,i<N->∀ q,s i=some q->Sk n C q∧∀ a,ownQ q=some a->a ∉ F++S∧∀ k,k<N->k≠i->∀ q',s k=some q'->ownQ q'≠some a
section
variable {N n B:Nat}{C:Nat->Int}{s:Nat->Option Q}{F S:List Nat}
theorem KI.to (h:KI N n B C s F S) (hi:i<N) {F' S':List Nat}{B':Nat}(fr:Lnk (λi=>C' (nxJ i)) (fstI (C' 0)) F') (st:Lnk (λi=>C' (lkJ n i)) (fstI (C' (hdJ n))) S') (nd:(F'++S').Nodup) (lt:∀ a∈F'++S',a<n) (va:HdI (C' 0) B') (vb:HdI (C' (hdJ n)) B')
 (hoth:∀ k,k<N->k≠i->∀ q,s k=some q->Sk n C' q)
 (hoo:∀ k,k<N->k≠i->∀ q a,s k=some q->ownQ q=some a->a ∉ F'++S')
 (hown:∀ q',o'=some q'->Sk n C' q'∧∀ a,ownQ q'=some a->a ∉ F'++S'∧∀ k,k<N->k≠i->∀ q,s k=some q->ownQ q≠some a):KI N n B' C' (upd s i o') F' S':=by
 refine ⟨fr,st,nd,lt,va,vb,λk hk q hq=>?_⟩;by_cases e:k=i
 .subst e
  rw[upd_same] at hq;refine ⟨(hown q hq).1,λa ha=>⟨((hown q hq).2 a ha).1,λk' hk' hne q' hq'=>?_⟩⟩;rw[upd_ne _ _ hne] at hq';exact ((hown q hq).2 a ha).2 k' hk' hne q' hq'
 .rw[upd_ne _ _ e] at hq
  refine ⟨hoth k hk e q hq,λa ha=>⟨hoo k hk e q a hq ha,λk' hk' hne q' hq'=>?_⟩⟩;by_cases e':k'=i
  .subst e'
   rw[upd_same] at hq';intro ha';exact ((hown q' hq').2 a ha').2 k hk e q hq ha
  .rw[upd_ne _ _ e'] at hq'
   exact ((h.sit k hk q hq).2 a ha).2 k' hk' hne q' hq'
theorem Sk.same (h:Sk n C q) (e0:C' 0=C 0) (e1:C' (hdJ n)=C (hdJ n)) (e2:∀ i,i<n->C' (nxJ i)=C (nxJ i)) (e3:∀ i,i<n->C' (lkJ n i)=C (lkJ n i)) (hat:∃ j,atT n q j):Sk n C' q:=by
 obtain ⟨j,hat⟩:=hat
 refine ⟨λe=>by rw[e0];exact h.ha e,λe=>by rw[e0];exact h.ha2 e,λe=>by rw[e1];exact h.hb e,λe=>by rw[e1];exact h.hb2 e,λe=>?_,λe=>?_,λe=>?_,λe=>?_⟩
 .rw[e0,e2]
  exact h.n3 e;unfold atT at hat;simp only[e] at hat;unfold slI;omega
 .rw[e1,e3]
  exact h.n13 e;unfold atT at hat;simp only[e] at hat;unfold slI;omega
 .rw[e3]
  exact h.n8 e;unfold atT E3 at hat;simp only[e] at hat;omega
 .rw[e2]
  exact h.n18 e;unfold atT E3 at hat;simp only[e] at hat;omega
theorem lt_sl (hat:∃ j,atT n q j):(q.1=3->slI (q.2.getD 1 0)<n∧0<fstI (q.2.getD 1 0))∧(q.1=13->slI (q.2.getD 0 0)<n∧0<fstI (q.2.getD 0 0))∧(q.1=8->(q.2.getD 0 0).toNat<n)∧(q.1=18->(q.2.getD 0 0).toNat<n):=by
 obtain ⟨j,hat⟩:=hat
 refine ⟨λe=>?_,λe=>?_,λe=>?_,λe=>?_⟩<;>(unfold atT E3 at hat;simp only[e] at hat;(try unfold slI);omega)
theorem Sk.hd0 (h:Sk n C q) (hy:sh y=sh (C 0)+1) (hat:∃ j,atT n q j):Sk n (upd C 0 y) q:=by
 have e1:upd C 0 y (hdJ n)=C (hdJ n):=upd_ne _ _ (by unfold hdJ;omega);have e2:∀ i,upd C 0 y (nxJ i)=C (nxJ i):=λi=>upd_ne _ _ (by unfold nxJ;omega);have e3:∀ i,upd C 0 y (lkJ n i)=C (lkJ n i):=λi=>upd_ne _ _ (by unfold lkJ;omega);refine ⟨λe=>?_,λe=>?_,λe=>by rw[e1];exact h.hb e,λe=>by rw[e1];exact h.hb2 e,λe e'=>?_,λe=>by rw[e1,e3];exact h.n13 e,λe=>by rw[e3];exact h.n8 e,λe=>by rw[e2];exact h.n18 e⟩;rw[upd_same,hy];have:=h.ha e;omega;rw[upd_same,hy];have:=h.ha2 e;omega
 .rw[upd_same] at e'
  have:=h.ha (.inr e);rw[<-e',hy] at this;omega
theorem Sk.hd1 (h:Sk n C q) (hy:sh y=sh (C (hdJ n))+1) (hat:∃ j,atT n q j):Sk n (upd C (hdJ n) y) q:=by
 have hl:=lt_sl hat
 have e1:upd C (hdJ n) y 0=C 0:=upd_ne _ _ (by unfold hdJ;omega);have e2:∀ i,i<n->upd C (hdJ n) y (nxJ i)=C (nxJ i):=λi hi=>upd_ne _ _ (by unfold nxJ hdJ;omega);have e3:∀ i,upd C (hdJ n) y (lkJ n i)=C (lkJ n i):=λi=>upd_ne _ _ (by unfold lkJ hdJ;omega);refine ⟨λe=>by rw[e1];exact h.ha e,λe=>by rw[e1];exact h.ha2 e,λe=>?_,λe=>?_,λe=>by rw[e1,e2 _ (hl.1 e).1];exact h.n3 e,λe e'=>?_,λe=>by rw[e3];exact h.n8 e,λe=>by rw[e2 _ (hl.2.2.2 e)];exact h.n18 e⟩;rw[upd_same,hy];have:=h.hb e;omega;rw[upd_same,hy];have:=h.hb2 e;omega
 .rw[upd_same] at e'
  have:=h.hb2 (.inr e);rw[<-e',hy] at this;omega
theorem Lnk.first {nx:Nat->Int}(h:Lnk nx x F) (hx:0<x):∃ F1,F=(x - 1).toNat :: F1∧Lnk nx (nx (x - 1).toNat) F1:=by
 cases F with
 |nil=>have h:x=0:=h;omega
 |cons a F =>
  have e:(x - 1).toNat=a:=by have:=h.1;omega
  rw[e];exact ⟨F,rfl,h.2⟩
theorem Sk.nx (h:Sk n C q) (hfr:Lnk (λi=>C (nxJ i)) (fstI (C 0)) F) (han:a<n) (haF:a ∉ F) (hq:ownQ q≠some a) (hat:∃ j,atT n q j):Sk n (upd C (nxJ a) y) q:=by
 have hl:=lt_sl hat
 have e0:upd C (nxJ a) y 0=C 0:=upd_ne _ _ (by unfold nxJ;omega);have e1:upd C (nxJ a) y (hdJ n)=C (hdJ n):=upd_ne _ _ (by unfold nxJ hdJ;omega);have e2:∀ i,i≠a->upd C (nxJ a) y (nxJ i)=C (nxJ i):=λi hi=>upd_ne _ _ (by unfold nxJ;omega);have e3:∀ i,upd C (nxJ a) y (lkJ n i)=C (lkJ n i):=λi=>upd_ne _ _ (by unfold lkJ nxJ;omega);refine ⟨λe=>by rw[e0];exact h.ha e,λe=>by rw[e0];exact h.ha2 e,λe=>by rw[e1];exact h.hb e,λe=>by rw[e1];exact h.hb2 e,λe e'=>?_,λe=>by rw[e1,e3];exact h.n13 e,λe=>by rw[e3];exact h.n8 e,λe=>?_⟩
 .rw[e0] at e'
  rw[e2 _ (λe2=>?_)];exact h.n3 e e'
  .obtain ⟨F1,hF,_⟩:=hfr.first (by rw[e'];exact (hl.1 e).2)
   apply haF;rw[hF,e',<-e2];simp[slI]
 .rw[e2 _ (λe2=>hq ?_)]
  exact h.n18 e
  .unfold ownQ
   simp only[e];rw[e2]
theorem Sk.lk (h:Sk n C q) (hst:Lnk (λi=>C (lkJ n i)) (fstI (C (hdJ n))) S) (haS:a ∉ S) (hq:ownQ q≠some a) (hat:∃ j,atT n q j):Sk n (upd C (lkJ n a) y) q:=by
 have hl:=lt_sl hat
 have e0:upd C (lkJ n a) y 0=C 0:=upd_ne _ _ (by unfold lkJ;omega);have e1:upd C (lkJ n a) y (hdJ n)=C (hdJ n):=upd_ne _ _ (by unfold lkJ hdJ;omega);have e2:∀ i,i<n->upd C (lkJ n a) y (nxJ i)=C (nxJ i):=λi hi=>upd_ne _ _ (by unfold nxJ lkJ;omega);have e3:∀ i,i≠a->upd C (lkJ n a) y (lkJ n i)=C (lkJ n i):=λi hi=>upd_ne _ _ (by unfold lkJ;omega);refine ⟨λe=>by rw[e0];exact h.ha e,λe=>by rw[e0];exact h.ha2 e,λe=>by rw[e1];exact h.hb e,λe=>by rw[e1];exact h.hb2 e,λe=>by rw[e0,e2 _ (hl.1 e).1];exact h.n3 e,λe e'=>?_,λe=>?_,λe=>by rw[e2 _ (hl.2.2.2 e)];exact h.n18 e⟩
 .rw[e1] at e'
  rw[e3 _ (λe2=>?_)];exact h.n13 e e'
  .obtain ⟨F1,hF,_⟩:=hst.first (by rw[e'];exact (hl.2.1 e).2)
   apply haS;rw[hF,e',<-e2];simp[slI]
 .rw[e3 _ (λe2=>hq ?_)]
  exact h.n8 e
  .unfold ownQ
   simp only[e];rw[e2]
end
def Nxt (nx:Nx) (o':Option Q):Prop :=
 match nx with
 |.turn _ _ q'=>o'=some q'
 |.ans _ _=>o'=none∨∃ q',o'=some q'∧(q'.1=1∨q'.1=11)
 |.wait _ _=>False
def SSt (q:Q) (x:Int) (S S':List Nat):Prop :=
 (q.1=8∧x=q.2.getD 1 0∧S'=(q.2.getD 0 0).toNat :: S)∨(q.1=13∧x=q.2.getD 0 0∧S=slI x :: S')∨(¬ (q.1=8∧x=q.2.getD 1 0)∧¬ (q.1=13∧x=q.2.getD 0 0)∧S'=S)
theorem F8 (C:Nat->Int) (j k:Nat):upd C j (C j) k=C k:=by by_cases e:k=j;subst e;exact upd_same _ _ _;exact upd_ne _ _ e
theorem sk_start (h:q.1=1∨q.1=11):Sk n C q∧ownQ q=none:=by refine ⟨⟨λe=>by omega,λe=>by omega,λe=>by omega,λe=>by omega,λe=>by omega,λe=>by omega,λe=>by omega,λe=>by omega⟩,?_⟩;unfold ownQ;rcases h with h|h<;>simp only[h]
theorem bump_hd (h:HdI x B) (hB:B<=400000) (f0:0<=f) (f1:f<4294967296):fstI (hdI f (verI x+1))=f∧sh (hdI f (verI x+1))=sh x+1∧HdI (hdI f (verI x+1)) (B+1):=by
 have hv:verI x=sh x:=by have h1:=h.lo;have h2:=h.hi;unfold verI Pl.getI sh;show x / 4294967296 % 1073741824=_;omega
 have h0:0<=sh x:=by have:=h.lo;unfold sh;omega
 have h3:=h.ver;have hs:sh (hdI f (verI x+1))=sh x+1:=by rw[hv,sh_hd f0 f1 (by omega) (by omega)]
 have hl:=hd_low f0 f1 (v:=verI x+1) (by omega);exact ⟨R1.fst_hd f0 f1 (by omega),hs,hl.1,hl.2,by rw[hs];omega⟩
section
variable {N n B:Nat}{C:Nat->Int}{s:Nat->Option Q}{F S:List Nat}
theorem HdI.up (h:HdI x B):HdI x (B+1):=⟨h.lo,h.hi,by have:=h.ver;omega⟩
theorem KI.still (h:KI N n B C s F S) (hi:i<N) (hq:s i=some q) (hat:∀ k,k<N->∀ q,s k=some q->∃ j,atT n q j) (e0:C' 0=C 0) (e1:C' (hdJ n)=C (hdJ n)) (e2:∀ i,i<n->C' (nxJ i)=C (nxJ i)) (e3:∀ i,i<n->C' (lkJ n i)=C (lkJ n i)) 
 (hown:∀ q',o'=some q'->Sk n C' q'∧(ownQ q'=none∨ownQ q'=ownQ q)):KI N n (B+1) C' (upd s i o') F S:=by
 refine h.to hi ?_ ?_ h.nd h.lt (by rw[e0];exact h.va.up) (by rw[e1];exact h.vb.up) (λk hk hne q hq=>(h.sit k hk q hq).1.same e0 e1 e2 e3 (hat k hk q hq)) (λk hk hne q a hq ha=>((h.sit k hk q hq).2 a ha).1) (λq' ho=>⟨(hown q' ho).1,λa ha=>?_⟩)
 .rw[e0]
  exact h.fr.same (λa ha=>e2 a (h.lt a (List.mem_append_left _ ha)))
 .rw[e1]
  exact h.st.same (λa ha=>e3 a (h.lt a (List.mem_append_right _ ha)))
 .rcases (hown q' ho).2 with e|e
  rw[e] at ha;cases ha
  .rw[e] at ha
   exact (h.sit i hi q hq).2 a ha
theorem KI.read (h:KI N n B C s F S) (hi:i<N) (hq:s i=some q) (hat:∀ k,k<N->∀ q,s k=some q->∃ j,atT n q j) 
 (hown:∀ q',o'=some q'->Sk n (upd C j (C j)) q'∧(ownQ q'=none∨ownQ q'=ownQ q)):KI N n (B+1) (upd C j (C j)) (upd s i o') F S :=
 h.still hi hq hat (F8 _ _ _) (F8 _ _ _) (λ_ _=>F8 _ _ _) (λ_ _=>F8 _ _ _) hown
theorem own_start (h:o'=none∨∃ q',o'=some q'∧(q'.1=1∨q'.1=11)):∀ q',o'=some q'->Sk n C q'∧(ownQ q'=none∨ownQ q'=ownQ q):=by
 rintro q' rfl;rcases h with h|⟨q1,h,h1⟩
 cases h
 .cases h
  exact ⟨(sk_start h1).1,.inl (sk_start (n:=n) (C:=C) h1).2⟩
theorem nodup_mid (h:(F++S).Nodup) (ha:a ∉ F++S):(F++a :: S).Nodup:=by
 rw[List.nodup_append] at h ⊢;simp only[List.mem_append,not_or] at ha;refine ⟨h.1,List.nodup_cons.2 ⟨ha.2,h.2.1⟩,λx hx y hy=>?_⟩;rcases List.mem_cons.1 hy with rfl|hy
 .rintro rfl;exact ha.1 hx
 exact h.2.2 x hx y hy
theorem nodup_out (h:(F++a :: S).Nodup):(F++S).Nodup∧a ∉ F++S:=by
 rw[List.nodup_append] at h;have h2:=List.nodup_cons.1 h.2.1;refine ⟨?_,λha=>?_⟩
 .rw[List.nodup_append]
  exact ⟨h.1,h2.2,λx hx y hy=>h.2.2 x hx y (List.mem_cons_of_mem _ hy)⟩
 .rcases List.mem_append.1 ha with ha|ha
  exact h.2.2 a ha a (by simp) rfl;exact h2.1 ha
theorem KI.take (h:KI N n B C s F S) (hB:B<=400000) (hi:i<N) (hat:∀ k,k<N->∀ q,s k=some q->∃ j,atT n q j) {c:Int}(c0:0<=c) (c1:c<=n) (hn:n<=1000) (hp:0<fstI (C 0)) (hc:C (nxJ (slI (C 0)))=c) (hk:q'.1=4) (ho:(q'.2.getD 1 0).toNat=slI (C 0)):
 ∃ F',KI N n (B+1) (upd C 0 (hdI c (verI (C 0)+1))) (upd s i (some q')) F' S:=by
 obtain ⟨F1,hF,hL⟩:=h.fr.first hp
 obtain ⟨y1,y2,y3⟩:=bump_hd h.va hB c0 (by omega:c<4294967296);have hsl:(fstI (C 0) - 1).toNat=slI (C 0):=rfl;rw[hsl] at hF hL;subst hF;have hnd:=h.nd;rw[List.cons_append,List.nodup_cons] at hnd;have e2:∀ y i,upd C 0 y (nxJ i)=C (nxJ i):=λy i=>upd_ne _ _ (by unfold nxJ;omega);have e3:∀ y i,upd C 0 y (lkJ n i)=C (lkJ n i):=λy i=>upd_ne _ _ (by unfold lkJ;omega);have e1:∀ y,upd C 0 y (hdJ n)=C (hdJ n):=λy=>upd_ne _ _ (by unfold hdJ;omega);refine ⟨F1,h.to hi ?_ ?_ hnd.2 (λa ha=>h.lt a (by simp only[List.cons_append,List.mem_cons];exact .inr ha)) (by rw[upd_same];exact y3) (by rw[e1];exact h.vb.up) (λk hk hne q hq=>(h.sit k hk q hq).1.hd0 y2 (hat k hk q hq)) (λk hk hne q a hq ha hm=>((h.sit k hk q hq).2 a ha).1 (by simp only[List.cons_append,List.mem_cons];exact .inr hm)) (λq1 e=>?_)⟩
 .rw[upd_same,y1,<-hc]
  exact hL.same (λa _=>e2 _ a)
 .rw[e1]
  exact h.st.same (λa _=>e3 _ a)
 .cases e
  refine ⟨⟨λe=>by omega,λe=>by omega,λe=>by omega,λe=>by omega,λe=>by omega,λe=>by omega,λe=>by omega,λe=>by omega⟩,λa ha=>?_⟩;have ea:ownQ q'=some (q'.2.getD 1 0).toNat:=by unfold ownQ;simp only[hk]
  rw[ea,ho] at ha;cases ha;exact ⟨hnd.1,λk hk hne q hq e=>((h.sit k hk q hq).2 _ e).1 (by simp)⟩
theorem KI.pop (h:KI N n B C s F S) (hB:B<=400000) {i:Nat}(hi:i<N) (hat:∀ k,k<N->∀ q,s k=some q->∃ j,atT n q j) {c:Int}(c0:0<=c) (c1:c<=n) (hn:n<=1000) (hp:0<fstI (C (hdJ n))) (hc:C (lkJ n (slI (C (hdJ n))))=c) {q':Q}(hk:q'.1=14) (ho:(q'.2.getD 0 0).toNat=slI (C (hdJ n))):
 ∃ S',S=slI (C (hdJ n)) :: S'∧KI N n (B+1) (upd C (hdJ n) (hdI c (verI (C (hdJ n))+1))) (upd s i (some q')) F S':=by
 obtain ⟨S1,hF,hL⟩:=h.st.first hp
 obtain ⟨y1,y2,y3⟩:=bump_hd h.vb hB c0 (by omega:c<4294967296);have hsl:(fstI (C (hdJ n)) - 1).toNat=slI (C (hdJ n)):=rfl;rw[hsl] at hF hL;subst hF;have hnd:=nodup_out h.nd;have e2:∀ y i,i<n->upd C (hdJ n) y (nxJ i)=C (nxJ i):=λy i hi=>upd_ne _ _ (by unfold nxJ hdJ;omega);have e3:∀ y i,upd C (hdJ n) y (lkJ n i)=C (lkJ n i):=λy i=>upd_ne _ _ (by unfold lkJ hdJ;omega);have e1:∀ y,upd C (hdJ n) y 0=C 0:=λy=>upd_ne _ _ (by unfold hdJ;omega);have up:∀ a,a∈F++S1->a∈F++slI (C (hdJ n)) :: S1:=λa ha=>by simp only[List.mem_append,List.mem_cons] at ha ⊢;rcases ha with ha|ha;exact .inl ha;exact .inr (.inr ha)
 refine ⟨S1,rfl,h.to hi ?_ ?_ hnd.1 (λa ha=>h.lt a (up a ha)) (by rw[e1];exact h.va.up) (by rw[upd_same];exact y3) (λk hk hne q hq=>(h.sit k hk q hq).1.hd1 y2 (hat k hk q hq)) (λk hk hne q a hq ha hm=>((h.sit k hk q hq).2 a ha).1 (up a hm)) (λq1 e=>?_)⟩
 .rw[e1]
  exact h.fr.same (λa ha=>e2 _ a (h.lt a (List.mem_append_left _ ha)))
 .rw[upd_same,y1,<-hc]
  exact hL.same (λa _=>e3 _ a)
 .cases e
  refine ⟨⟨λe=>by omega,λe=>by omega,λe=>by omega,λe=>by omega,λe=>by omega,λe=>by omega,λe=>by omega,λe=>by omega⟩,λa ha=>?_⟩;have ea:ownQ q'=some (q'.2.getD 0 0).toNat:=by unfold ownQ;simp only[hk]
  rw[ea,ho] at ha;cases ha;exact ⟨hnd.2,λk hk hne q hq e=>((h.sit k hk q hq).2 _ e).1 (by simp)⟩
theorem KI.push (h:KI N n B C s F S) (hB:B<=400000) (hi:i<N) (hat:∀ k,k<N->∀ q,s k=some q->∃ j,atT n q j) (hn:n<=1000) (hq:s i=some q) (ha:ownQ q=some a) (han:a<n) (hl:C (lkJ n a)=fstI (C (hdJ n))) (ho:o'=none∨∃ q',o'=some q'∧(q'.1=1∨q'.1=11)):
 KI N n (B+1) (upd C (hdJ n) (hdI ((a:Int)+1) (verI (C (hdJ n))+1))) (upd s i o') F (a :: S):=by
 obtain ⟨y1,y2,y3⟩:=bump_hd h.vb hB (by omega:0<=(a:Int)+1) (by omega);obtain ⟨w1,w2⟩:=(h.sit i hi q hq).2 a ha;have e2:∀ y i,i<n->upd C (hdJ n) y (nxJ i)=C (nxJ i):=λy i hi=>upd_ne _ _ (by unfold nxJ hdJ;omega);have e3:∀ y i,upd C (hdJ n) y (lkJ n i)=C (lkJ n i):=λy i=>upd_ne _ _ (by unfold lkJ hdJ;omega);have e1:∀ y,upd C (hdJ n) y 0=C 0:=λy=>upd_ne _ _ (by unfold hdJ;omega);refine h.to hi ?_ ?_ (nodup_mid h.nd w1) (λb hb=>?_) (by rw[e1];exact h.va.up) (by rw[upd_same];exact y3) (λk hk hne q hq=>(h.sit k hk q hq).1.hd1 y2 (hat k hk q hq)) (λk hk hne q1 b hq1 hb hm=>?_) (λq1 e=>?_)
 .rw[e1]
  exact h.fr.same (λa ha=>e2 _ a (h.lt a (List.mem_append_left _ ha)))
 .rw[upd_same,y1]
  refine ⟨rfl,?_⟩;show Lnk _ (upd C (hdJ n) _ (lkJ n a)) S;rw[e3,hl];exact h.st.same (λa _=>e3 _ a)
 .simp only[List.mem_append,List.mem_cons] at hb
  rcases hb with hb|rfl|hb;exact h.lt b (List.mem_append_left _ hb);exact han;exact h.lt b (List.mem_append_right _ hb)
 .simp only[List.mem_append,List.mem_cons] at hm
  obtain ⟨z1,z2⟩:=(h.sit k hk q1 hq1).2 b hb;rcases hm with hm|rfl|hm;exact z1 (List.mem_append_left _ hm);exact w2 k hk hne q1 hq1 hb;exact z1 (List.mem_append_right _ hm)
 .obtain ⟨x1,x2⟩:=own_start (n:=n) (C:=upd C (hdJ n) (hdI ((a:Int)+1) (verI (C (hdJ n))+1))) (q:=(1,[])) ho q1 e
  refine ⟨x1,λb hb=>?_⟩;rcases x2 with x2|x2;rw[x2] at hb;cases hb;rw[x2] at hb;cases hb
theorem KI.give (h:KI N n B C s F S) (hB:B<=400000) (hi:i<N) (hat:∀ k,k<N->∀ q,s k=some q->∃ j,atT n q j) (hn:n<=1000) (hq:s i=some q) (ha:ownQ q=some a) (han:a<n) (hl:C (nxJ a)=fstI (C 0)) (ho:o'=none∨∃ q',o'=some q'∧(q'.1=1∨q'.1=11)):
 KI N n (B+1) (upd C 0 (hdI ((a:Int)+1) (verI (C 0)+1))) (upd s i o') (a :: F) S:=by
 obtain ⟨y1,y2,y3⟩:=bump_hd h.va hB (by omega:0<=(a:Int)+1) (by omega);obtain ⟨w1,w2⟩:=(h.sit i hi q hq).2 a ha;have e2:∀ y i,upd C 0 y (nxJ i)=C (nxJ i):=λy i=>upd_ne _ _ (by unfold nxJ;omega);have e3:∀ y i,upd C 0 y (lkJ n i)=C (lkJ n i):=λy i=>upd_ne _ _ (by unfold lkJ;omega);have e1:∀ y,upd C 0 y (hdJ n)=C (hdJ n):=λy=>upd_ne _ _ (by unfold hdJ;omega);refine h.to hi ?_ ?_ (List.nodup_cons.2 ⟨w1,h.nd⟩) (λb hb=>?_) (by rw[upd_same];exact y3) (by rw[e1];exact h.vb.up) (λk hk hne q hq=>(h.sit k hk q hq).1.hd0 y2 (hat k hk q hq)) (λk hk hne q1 b hq1 hb hm=>?_) (λq1 e=>?_)
 .rw[upd_same,y1]
  refine ⟨rfl,?_⟩;show Lnk _ (upd C 0 _ (nxJ a)) F;rw[e2,hl];exact h.fr.same (λa _=>e2 _ a)
 .rw[e1]
  exact h.st.same (λa ha=>e3 _ a)
 .rw[List.cons_append] at hb
  rcases List.mem_cons.1 hb with rfl|hb;exact han;exact h.lt b hb
 .rw[List.cons_append] at hm
  obtain ⟨z1,z2⟩:=(h.sit k hk q1 hq1).2 b hb;rcases List.mem_cons.1 hm with rfl|hm;exact w2 k hk hne q1 hq1 hb;exact z1 hm
 .obtain ⟨x1,x2⟩:=own_start (n:=n) (C:=upd C 0 (hdI ((a:Int)+1) (verI (C 0)+1))) (q:=(1,[])) ho q1 e
  refine ⟨x1,λb hb=>?_⟩;rcases x2 with x2|x2;rw[x2] at hb;cases hb;rw[x2] at hb;cases hb
end
section
variable {N n B:Nat}{C:Nat->Int}{s:Nat->Option Q}{F S:List Nat}
theorem KI.wnx (h:KI N n B C s F S) (hi:i<N) (hq:s i=some q) (hat:∀ k,k<N->∀ q,s k=some q->∃ j,atT n q j) (ha:ownQ q=some a) (han:a<n) (hs:Sk n (upd C (nxJ a) y) q') (ho:ownQ q'=ownQ q):KI N n (B+1) (upd C (nxJ a) y) (upd s i (some q')) F S:=by
 obtain ⟨w1,w2⟩:=(h.sit i hi q hq).2 a ha;have haF:a ∉ F:=λe=>w1 (List.mem_append_left _ e);have e0:upd C (nxJ a) y 0=C 0:=upd_ne _ _ (by unfold nxJ;omega);have e1:upd C (nxJ a) y (hdJ n)=C (hdJ n):=upd_ne _ _ (by unfold nxJ hdJ;omega);have e2:∀ i,i≠a->upd C (nxJ a) y (nxJ i)=C (nxJ i):=λi hi=>upd_ne _ _ (by unfold nxJ;omega);have e3:∀ i,upd C (nxJ a) y (lkJ n i)=C (lkJ n i):=λi=>upd_ne _ _ (by unfold lkJ nxJ;omega);refine h.to hi ?_ ?_ h.nd h.lt (by rw[e0];exact h.va.up) (by rw[e1];exact h.vb.up) (λk hk hne q1 hq1=>(h.sit k hk q1 hq1).1.nx h.fr han haF (w2 k hk hne q1 hq1) (hat k hk q1 hq1)) (λk hk hne q a hq ha=>((h.sit k hk q hq).2 a ha).1) (λq1 e=>?_)
 .rw[e0]
  exact h.fr.same (λb hb=>e2 b (λe=>haF (e▸hb)))
 .rw[e1]
  exact h.st.same (λb hb=>e3 b)
 .cases e
  refine ⟨hs,λb hb=>?_⟩;rw[ho,ha] at hb;cases hb;exact ⟨w1,w2⟩
theorem KI.wlk (h:KI N n B C s F S) (hi:i<N) (hq:s i=some q) (hat:∀ k,k<N->∀ q,s k=some q->∃ j,atT n q j) (ha:ownQ q=some a) (hs:Sk n (upd C (lkJ n a) y) q') (ho:ownQ q'=ownQ q):KI N n (B+1) (upd C (lkJ n a) y) (upd s i (some q')) F S:=by
 obtain ⟨w1,w2⟩:=(h.sit i hi q hq).2 a ha;have haS:a ∉ S:=λe=>w1 (List.mem_append_right _ e);have e0:upd C (lkJ n a) y 0=C 0:=upd_ne _ _ (by unfold lkJ;omega);have e1:upd C (lkJ n a) y (hdJ n)=C (hdJ n):=upd_ne _ _ (by unfold lkJ hdJ;omega);have e2:∀ i,i<n->upd C (lkJ n a) y (nxJ i)=C (nxJ i):=λi hi=>upd_ne _ _ (by unfold nxJ lkJ;omega);have e3:∀ i,i≠a->upd C (lkJ n a) y (lkJ n i)=C (lkJ n i):=λi hi=>upd_ne _ _ (by unfold lkJ;omega);refine h.to hi ?_ ?_ h.nd h.lt (by rw[e0];exact h.va.up) (by rw[e1];exact h.vb.up) (λk hk hne q1 hq1=>(h.sit k hk q1 hq1).1.lk h.st haS (w2 k hk hne q1 hq1) (hat k hk q1 hq1)) (λk hk hne q a hq ha=>((h.sit k hk q hq).2 a ha).1) (λq1 e=>?_)
 .rw[e0]
  exact h.fr.same (λb hb=>e2 b (h.lt b (List.mem_append_left _ hb)))
 .rw[e1]
  exact h.st.same (λb hb=>e3 b (λe=>haS (e▸hb)))
 .cases e
  refine ⟨hs,λb hb=>?_⟩;rw[ho,ha] at hb;cases hb;exact ⟨w1,w2⟩
theorem sk_free (h:q.1≠2∧q.1≠3∧q.1≠17∧q.1≠18∧q.1≠7∧q.1≠8∧q.1≠12∧q.1≠13):Sk n C q:=⟨λe=>by omega,λe=>by omega,λe=>by omega,λe=>by omega,λe=>by omega,λe=>by omega,λe=>by omega,λe=>by omega⟩
theorem ki_turn (hn:n<=1000) (h:KI N n B C s F S) (hB:B<=400000) (hat:∀ k,k<N->∀ q,s k=some q->∃ j,atT n q j) (hi:i<N) (hq:s i=some q) (ha:atT n q j) (hx:okT n j (C j)) (ho:Nxt (Ak n q (C j)).2.2 o'):
 ∃ F' S',KI N n (B+1) (upd C j (Ak n q (C j)).2.1) (upd s i o') F' S'∧SSt q (C j) S S':=by
 obtain ⟨hsk,hso⟩:=h.sit i hi q hq;obtain ⟨k,l⟩:=q;unfold atT at ha;simp only at ha;generalize e0:l.getD 0 0=a at *;generalize e1:l.getD 1 0=b at *;generalize e2:l.getD 2 0=c at *;have far:∀ {k:Nat} {x:Int},k≠8->k≠13->SSt (k,l) x S S:=λh1 h2=>.inr (.inr ⟨λe=>h1 e.1,λe=>h2 e.1,rfl⟩);split at ha
 . -- 1
  by_cases hz:fstI (C j)=0
  .have et:Ak n (1,l) (C j)=same (C j) (.ans 80 0):=by simp only[Ak];rw[if_pos hz]
   rw[et] at ho ⊢;exact ⟨F,S,h.read hi hq hat (own_start ho),far (by decide) (by decide)⟩
  .have et:Ak n (1,l) (C j)=same (C j) (.turn 1 (nxJ (slI (C j))) (2,[a,C j])):=by simp only[Ak,e0];rw[if_neg hz]
   rw[et] at ho ⊢;have ho:o'=some (2,[a,C j]):=ho;subst ha;refine ⟨F,S,h.read hi hq hat (λq' e=>?_),far (by decide) (by decide)⟩;rw[ho] at e;cases e;refine ⟨⟨λ_=>?_,(by simp),(by simp),(by simp),(by simp),(by simp),(by simp),(by simp)⟩,.inl rfl⟩;rw[F8];exact Int.le_refl _
 . -- 2
  obtain ⟨a1,a2,rfl⟩:=ha;have et:Ak n (2,l) (C (nxJ (slI b)))=same (C (nxJ (slI b))) (.turn 4 0 (3,[a,b,C (nxJ (slI b))])):=by simp only[Ak,e0,e1]
  rw[et] at ho ⊢;have ho:o'=some (3,[a,b,C (nxJ (slI b))]):=ho;refine ⟨F,S,h.read hi hq hat (λq' e=>?_),far (by decide) (by decide)⟩;rw[ho] at e;cases e;have h1:=hsk.ha (.inl rfl);simp only[e1] at h1;refine ⟨⟨λ_=>?_,(by simp),(by simp),(by simp),λ_ _=>?_,(by simp),(by simp),(by simp)⟩,.inl rfl⟩
  .rw[F8]
   exact h1
  .rw[F8]
   rfl
 . -- 3
  obtain ⟨a1,a2,a3,a4,rfl⟩:=ha;by_cases hxx:C 0=b
  .have et:Ak n (3,l) (C 0)=put_ (C 0) (hdI c (verI b+1)) (.turn 2 (usJ (slI b)) (4,[a,((slI b:Nat):Int)])):=by simp only[Ak,e0,e1,e2];rw[if_pos hxx]
   rw[et] at ho ⊢;have ho:o'=some (4,[a,((slI b:Nat):Int)]):=ho;have h3:=hsk.n3 rfl (by simp only[e1];exact hxx);simp only[e1,e2] at h3;subst hxx;rw[ho];obtain ⟨F',hF'⟩:=h.take hB hi hat a3 a4 hn a1 h3 (q':=(4,[a,((slI (C 0):Nat):Int)])) rfl (by simp);exact ⟨F',S,hF',far (by decide) (by decide)⟩
  .have et:Ak n (3,l) (C 0)=same (C 0) (.turn 1 0 (1,[a])):=by simp only[Ak,e0,e1,e2];rw[if_neg hxx]
   rw[et] at ho ⊢;exact ⟨F,S,h.read hi hq hat (own_start (.inr ⟨_,ho,.inl rfl⟩)),far (by decide) (by decide)⟩
 . -- 4
  obtain ⟨a1,rfl⟩:=ha;have et:Ak n (4,l) (C (usJ b.toNat))=put_ (C (usJ b.toNat)) 1 (.turn 2 (vlJ n b.toNat) (5,[a,b])):=by simp only[Ak,e0,e1]
  rw[et] at ho ⊢;have ho:o'=some (5,[a,b]):=ho;refine ⟨F,S,h.still hi hq hat (upd_ne _ _ (by unfold usJ;omega)) (upd_ne _ _ (by unfold usJ hdJ;omega)) (λ_ _=>upd_ne _ _ (by unfold usJ nxJ;omega)) (λ_ _=>upd_ne _ _ (by unfold usJ lkJ;omega)) (λq' e=>?_),far (by decide) (by decide)⟩;rw[ho] at e;cases e;exact ⟨sk_free (by simp),.inr (by simp[ownQ,<-e1])⟩
 . -- 5
  obtain ⟨a1,rfl⟩:=ha;have et:Ak n (5,l) (C (vlJ n b.toNat))=put_ (C (vlJ n b.toNat)) a (.turn 1 (hdJ n) (6,[b])):=by simp only[Ak,e0,e1]
  rw[et] at ho ⊢;have ho:o'=some (6,[b]):=ho;refine ⟨F,S,h.still hi hq hat (upd_ne _ _ (by unfold vlJ;omega)) (upd_ne _ _ (by unfold vlJ hdJ;omega)) (λ_ _=>upd_ne _ _ (by unfold vlJ nxJ;omega)) (λ_ _=>upd_ne _ _ (by unfold vlJ lkJ;omega)) (λq' e=>?_),far (by decide) (by decide)⟩;rw[ho] at e;cases e;exact ⟨sk_free (by simp),.inr (by simp[ownQ,<-e1])⟩
 . -- 6
  obtain ⟨a1,rfl⟩:=ha;have et:Ak n (6,l) (C (hdJ n))=same (C (hdJ n)) (.turn 2 (lkJ n a.toNat) (7,[a,C (hdJ n)])):=by simp only[Ak,e0]
  rw[et] at ho ⊢;have ho:o'=some (7,[a,C (hdJ n)]):=ho;refine ⟨F,S,h.read hi hq hat (λq' e=>?_),far (by decide) (by decide)⟩;rw[ho] at e;cases e;refine ⟨⟨(by simp),(by simp),λ_=>?_,(by simp),(by simp),(by simp),(by simp),(by simp)⟩,.inr (by simp[ownQ,<-e0])⟩;rw[F8];exact Int.le_refl _
 . -- 7
  obtain ⟨a1,a2,rfl⟩:=ha;have et:Ak n (7,l) (C (lkJ n a.toNat))=put_ (C (lkJ n a.toNat)) (fstI b) (.turn 4 (hdJ n) (8,[a,b])):=by simp only[Ak,e0,e1]
  rw[et] at ho ⊢;have ho:o'=some (8,[a,b]):=ho;have h1:=hsk.hb (.inl rfl);simp only[e1] at h1;rw[ho];refine ⟨F,S,h.wlk hi hq hat (a:=a.toNat) (by simp[ownQ,<-e0]) ⟨(by simp),(by simp),λ_=>?_,(by simp),(by simp),(by simp),λ_=>?_,(by simp)⟩ (by simp[ownQ,<-e0]),far (by decide) (by decide)⟩
  .rw[upd_ne _ _ (by unfold lkJ hdJ;omega)]
   exact h1
  exact upd_same _ _ _
 . -- 8
  obtain ⟨a1,rfl⟩:=ha;by_cases hxx:C (hdJ n)=b
  .have et:Ak n (8,l) (C (hdJ n))=put_ (C (hdJ n)) (hdI (a+1) (verI b+1)) (.ans 0 0):=by simp only[Ak,e0,e1];rw[if_pos hxx]
   rw[et] at ho ⊢;have h3:=hsk.n8 rfl;simp only[e0,e1] at h3;subst hxx;have ea:((a.toNat:Nat):Int)=a:=by unfold E3 at a1;omega
   have:=h.push hB hi hat hn hq (a:=a.toNat) (by simp[ownQ,<-e0]) (by unfold E3 at a1;omega) h3 ho;rw[ea] at this;exact ⟨F,_,this,.inl ⟨rfl,e1.symm,by simp only[e0]⟩⟩
  .have et:Ak n (8,l) (C (hdJ n))=same (C (hdJ n)) (.turn 1 (hdJ n) (6,[a])):=by simp only[Ak,e0,e1];rw[if_neg hxx]
   rw[et] at ho ⊢;have ho:o'=some (6,[a]):=ho;refine ⟨F,S,h.read hi hq hat (λq' e=>?_),.inr (.inr ⟨λe=>hxx (by have:=e.2;simp only[e1] at this;exact this),λe=>(by cases e.1),rfl⟩)⟩;rw[ho] at e;cases e;exact ⟨sk_free (by simp),.inr (by simp[ownQ,<-e0])⟩
 . -- 11
  subst ha;by_cases hz:fstI (C (hdJ n))=0
  .have et:Ak n (11,l) (C (hdJ n))=same (C (hdJ n)) (.ans 90 0):=by simp only[Ak];rw[if_pos hz]
   rw[et] at ho ⊢;exact ⟨F,S,h.read hi hq hat (own_start ho),far (by decide) (by decide)⟩
  .have et:Ak n (11,l) (C (hdJ n))=same (C (hdJ n)) (.turn 1 (lkJ n (slI (C (hdJ n)))) (12,[C (hdJ n)])):=by simp only[Ak,e0];rw[if_neg hz]
   rw[et] at ho ⊢;have ho:o'=some (12,[C (hdJ n)]):=ho;refine ⟨F,S,h.read hi hq hat (λq' e=>?_),far (by decide) (by decide)⟩;rw[ho] at e;cases e;refine ⟨⟨(by simp),(by simp),(by simp),λ_=>?_,(by simp),(by simp),(by simp),(by simp)⟩,.inl rfl⟩;rw[F8];exact Int.le_refl _
 . -- 12
  obtain ⟨a1,a2,rfl⟩:=ha;have et:Ak n (12,l) (C (lkJ n (slI a)))=same (C (lkJ n (slI a))) (.turn 4 (hdJ n) (13,[a,C (lkJ n (slI a))])):=by simp only[Ak,e0,e1]
  rw[et] at ho ⊢;have ho:o'=some (13,[a,C (lkJ n (slI a))]):=ho;refine ⟨F,S,h.read hi hq hat (λq' e=>?_),far (by decide) (by decide)⟩;rw[ho] at e;cases e;have h1:=hsk.hb2 (.inl rfl);simp only[e0] at h1;refine ⟨⟨(by simp),(by simp),(by simp),λ_=>?_,(by simp),λ_ _=>?_,(by simp),(by simp)⟩,.inl rfl⟩
  .rw[F8]
   exact h1
  .rw[F8]
   rfl
 . -- 13
  obtain ⟨a1,a2,a3,a4,rfl⟩:=ha;by_cases hxx:C (hdJ n)=a
  .have et:Ak n (13,l) (C (hdJ n))=put_ (C (hdJ n)) (hdI b (verI a+1)) (.turn 1 (vlJ n (slI a)) (14,[((slI a:Nat):Int)])):=by simp only[Ak,e0,e1,e2];rw[if_pos hxx]
   rw[et] at ho ⊢;have ho:o'=some (14,[((slI a:Nat):Int)]):=ho;have h3:=hsk.n13 rfl (by simp only[e0];exact hxx);simp only[e0,e1] at h3;subst hxx;rw[ho];obtain ⟨S',hS',hF'⟩:=h.pop hB hi hat a3 a4 hn a1 h3 (q':=(14,[((slI (C (hdJ n)):Nat):Int)])) rfl (by simp);exact ⟨F,S',hF',.inr (.inl ⟨rfl,e0.symm,hS'⟩)⟩
  .have et:Ak n (13,l) (C (hdJ n))=same (C (hdJ n)) (.turn 1 (hdJ n) (11,[])):=by simp only[Ak,e0,e1,e2];rw[if_neg hxx]
   rw[et] at ho ⊢;exact ⟨F,S,h.read hi hq hat (own_start (.inr ⟨_,ho,.inr rfl⟩)),.inr (.inr ⟨λe=>(by cases e.1),λe=>hxx (by have:=e.2;simp only[e0] at this;exact this),rfl⟩)⟩
 . -- 14
  obtain ⟨a1,rfl⟩:=ha;have et:Ak n (14,l) (C (vlJ n a.toNat))=same (C (vlJ n a.toNat)) (.turn 4 (usJ a.toNat) (15,[a,C (vlJ n a.toNat)])):=by simp only[Ak,e0,e1]
  rw[et] at ho ⊢;have ho:o'=some (15,[a,C (vlJ n a.toNat)]):=ho;refine ⟨F,S,h.read hi hq hat (λq' e=>?_),far (by decide) (by decide)⟩;rw[ho] at e;cases e;exact ⟨sk_free (by simp),.inr (by simp[ownQ,<-e0])⟩
 . -- 15
  obtain ⟨a1,rfl⟩:=ha;by_cases hxx:C (usJ a.toNat)=1
  .have et:Ak n (15,l) (C (usJ a.toNat))=put_ (C (usJ a.toNat)) 0 (.turn 1 0 (16,[a,b])):=by simp only[Ak,e0,e1];rw[if_pos hxx]
   rw[et] at ho ⊢;have ho:o'=some (16,[a,b]):=ho;refine ⟨F,S,h.still hi hq hat (upd_ne _ _ (by unfold usJ;omega)) (upd_ne _ _ (by unfold usJ hdJ;omega)) (λ_ _=>upd_ne _ _ (by unfold usJ nxJ;omega)) (λ_ _=>upd_ne _ _ (by unfold usJ lkJ;omega)) (λq' e=>?_),far (by decide) (by decide)⟩;rw[ho] at e;cases e;exact ⟨sk_free (by simp),.inr (by simp[ownQ,<-e0])⟩
  .have et:Ak n (15,l) (C (usJ a.toNat))=same (C (usJ a.toNat)) (.ans 0 b):=by simp only[Ak,e0,e1];rw[if_neg hxx]
   rw[et] at ho ⊢;exact ⟨F,S,h.read hi hq hat (own_start ho),far (by decide) (by decide)⟩
 . -- 16
  obtain ⟨a1,rfl⟩:=ha;have et:Ak n (16,l) (C 0)=same (C 0) (.turn 2 (nxJ a.toNat) (17,[a,b,C 0])):=by simp only[Ak,e0,e1]
  rw[et] at ho ⊢;have ho:o'=some (17,[a,b,C 0]):=ho;refine ⟨F,S,h.read hi hq hat (λq' e=>?_),far (by decide) (by decide)⟩;rw[ho] at e;cases e;refine ⟨⟨(by simp),λ_=>?_,(by simp),(by simp),(by simp),(by simp),(by simp),(by simp)⟩,.inr (by simp[ownQ,<-e0])⟩;rw[F8];exact Int.le_refl _
 . -- 17
  obtain ⟨a1,a2,rfl⟩:=ha;have et:Ak n (17,l) (C (nxJ a.toNat))=put_ (C (nxJ a.toNat)) (fstI c) (.turn 4 0 (18,[a,b,c])):=by simp only[Ak,e0,e1,e2]
  rw[et] at ho ⊢;have ho:o'=some (18,[a,b,c]):=ho;have h1:=hsk.ha2 (.inl rfl);simp only[e2] at h1;rw[ho];refine ⟨F,S,h.wnx hi hq hat (a:=a.toNat) (by simp[ownQ,<-e0]) (by unfold E3 at a1;omega) ⟨(by simp),λ_=>?_,(by simp),(by simp),(by simp),(by simp),(by simp),λ_=>?_⟩ (by simp[ownQ,<-e0]),far (by decide) (by decide)⟩
  .rw[upd_ne _ _ (by unfold nxJ;omega)]
   exact h1
  exact upd_same _ _ _
 . -- 18
  obtain ⟨a1,rfl⟩:=ha;by_cases hxx:C 0=c
  .have et:Ak n (18,l) (C 0)=put_ (C 0) (hdI (a+1) (verI c+1)) (.ans 0 b):=by simp only[Ak,e0,e1,e2];rw[if_pos hxx]
   rw[et] at ho ⊢;have h3:=hsk.n18 rfl;simp only[e0,e2] at h3;subst hxx;have ea:((a.toNat:Nat):Int)=a:=by unfold E3 at a1;omega
   have:=h.give hB hi hat hn hq (a:=a.toNat) (by simp[ownQ,<-e0]) (by unfold E3 at a1;omega) h3 ho;rw[ea] at this;exact ⟨_,S,this,far (by decide) (by decide)⟩
  .have et:Ak n (18,l) (C 0)=same (C 0) (.turn 1 0 (16,[a,b])):=by simp only[Ak,e0,e1,e2];rw[if_neg hxx]
   rw[et] at ho ⊢;have ho:o'=some (16,[a,b]):=ho;refine ⟨F,S,h.read hi hq hat (λq' e=>?_),far (by decide) (by decide)⟩;rw[ho] at e;cases e;exact ⟨sk_free (by simp),.inr (by simp[ownQ,<-e0])⟩
 exact ha.elim
end
def cAt (sc:List Cl) (m:Nat):Cl:=(sc[m]?).getD ⟨0,0,0,0⟩
def Ix:Ph->Option Q
 |.turn _ _ q _ _ _=>some q
 |_=>none
def flQ (n:Nat) (C:Nat->Int) (q:Q):List Int :=
 if q.1=14 then [C (vlJ n (q.2.getD 0 0).toNat)] else if 15<=q.1∧q.1<=18 then [q.2.getD 1 0] else []
def flP (n:Nat) (C:Nat->Int):Ph->List Int
 |.turn _ _ q _ _ _=>flQ n C q
 |_=>[]
structure CallQ (n:Nat) (C:Nat->Int) (c:Cl) (q:Q):Prop where
 p1:q.1<=8->c.po=1
 p2:11<=q.1->c.po=2
 v1:q.1<=5->q.2.getD 0 0=c.ca
 v2:6<=q.1->q.1<=8->C (vlJ n (q.2.getD 0 0).toNat)=c.ca
def SeatC (n:Nat) (C:Nat->Int) (sc:List Cl):Ph->Prop
 |.turn _ _ q rest ii ans=>ii<sc.length∧sc.drop (ii+1)=rest∧ans.length=sc.length∧CallQ n C (cAt sc ii) q
 |.wait _ _ _ _ _=>False
 |.done ans=>ans.length=sc.length
theorem turnT_e {e:Int}(h:(Ak n q x).2.2=.ans e y):e≠4:=by
 unfold Ak at h;simp only[same,put_] at h
 repeat (split at h<;>try (cases h<;>try decide))
section
variable {n:Nat}{C:Nat->Int}
theorem call_next {c:Cl}(ha:atT n q j) (hc:CallQ n C c q) {op:Int}{j':Nat}(h:(Ak n q (C j)).2.2=.turn op j' q'):CallQ n (upd C j (Ak n q (C j)).2.1) c q':=by
 obtain ⟨p1,p2,v1,v2⟩:=hc;obtain ⟨k,l⟩:=q;unfold atT at ha;simp only at ha p1 p2 v1 v2;generalize e0:l.getD 0 0=a at *;generalize e1:l.getD 1 0=b at *;generalize e2:l.getD 2 0=c2 at *;split at ha
 .simp only[Ak,same,e0,e1,e2] at h ⊢
  split at h<;>cases h;exact ⟨λ_=>p1 (by decide),λh=>absurd h (by simp),λ_=>v1 (by decide),λh=>absurd h (by simp)⟩
 .simp only[Ak,same,e0,e1,e2] at h ⊢
  cases h;exact ⟨λ_=>p1 (by decide),λh=>absurd h (by simp),λ_=>v1 (by decide),λh=>absurd h (by simp)⟩
 .simp only[Ak,e0,e1,e2] at h ⊢
  split at h<;>(simp only[same,put_] at h;cases h);exact ⟨λ_=>p1 (by decide),λh=>absurd h (by simp),λ_=>v1 (by decide),λh=>absurd h (by simp)⟩;exact ⟨λ_=>p1 (by decide),λh=>absurd h (by simp),λ_=>v1 (by decide),λh=>absurd h (by simp)⟩
 .simp only[Ak,put_,e0,e1,e2] at h ⊢
  cases h;exact ⟨λ_=>p1 (by decide),λh=>absurd h (by simp),λ_=>v1 (by decide),λh=>absurd h (by simp)⟩
 .obtain ⟨a1,rfl⟩:=ha
  simp only[Ak,put_,e0,e1,e2] at h ⊢;cases h;refine ⟨λ_=>p1 (by decide),λh=>absurd h (by simp),λh=>absurd h (by simp),λ_ _=>?_⟩;show upd C (vlJ n b.toNat) a (vlJ n b.toNat)=c.ca;rw[upd_same];exact v1 (by decide)
 .simp only[Ak,same,e0,e1,e2] at h ⊢
  cases h;refine ⟨λ_=>p1 (by decide),λh=>absurd h (by simp),λh=>absurd h (by simp),λ_ _=>?_⟩;show upd C j (C j) (vlJ n a.toNat)=c.ca;rw[F8];exact v2 (by decide) (by decide)
 .obtain ⟨a1,a2,rfl⟩:=ha
  simp only[Ak,put_,e0,e1,e2] at h ⊢;cases h;refine ⟨λ_=>p1 (by decide),λh=>absurd h (by simp),λh=>absurd h (by simp),λ_ _=>?_⟩;show upd C (lkJ n a.toNat) (fstI b) (vlJ n a.toNat)=c.ca;rw[upd_ne _ _ (by unfold lkJ vlJ;omega)];exact v2 (by decide) (by decide)
 .obtain ⟨a1,rfl⟩:=ha
  by_cases hxx:C (hdJ n)=b
  .have et:Ak n (8,l) (C (hdJ n))=put_ (C (hdJ n)) (hdI (a+1) (verI b+1)) (.ans 0 0):=by simp only[Ak,e0,e1];rw[if_pos hxx]
   rw[et] at h;cases h
  .have et:Ak n (8,l) (C (hdJ n))=same (C (hdJ n)) (.turn 1 (hdJ n) (6,[a])):=by simp only[Ak,e0,e1];rw[if_neg hxx]
   rw[et] at h ⊢;cases h;refine ⟨λ_=>p1 (by decide),λh=>absurd h (by simp),λh=>absurd h (by simp),λ_ _=>?_⟩;show upd C (hdJ n) (C (hdJ n)) (vlJ n a.toNat)=c.ca;rw[F8];exact v2 (by decide) (by decide)
 all_goals first
  |exact ha.elim
  |(simp only[Ak,same,put_,e0,e1,e2] at h
    first
    |(cases h
      exact ⟨λh=>absurd h (by simp),λ_=>p2 (by decide),λh=>absurd h (by simp),λ_ h=>absurd h (by simp)⟩)
    |(split at h<;>cases h <;>
      exact ⟨λh=>absurd h (by simp),λ_=>p2 (by decide),λh=>absurd h (by simp),λ_ h=>absurd h (by simp)⟩))
theorem vl_same (ha:atT n q j) {a':Nat}(hne:q.1=5->a'≠(q.2.getD 1 0).toNat):upd C j (Ak n q (C j)).2.1 (vlJ n a')=C (vlJ n a'):=by
 by_cases hj:vlJ n a'=j
 .obtain ⟨k,l⟩:=q
  unfold atT at ha;simp only at ha hne;split at ha;all_goals first
   |exact ha.elim
   |(exfalso
     have h5:=hne rfl;have h6:=ha.2;unfold vlJ at hj h6;omega)
   |(exfalso
     simp only[vlJ,nxJ,usJ,lkJ,hdJ,slI,E3] at hj ha;omega)
   |(simp only[Ak,same]
     exact F8 _ _ _)
 exact upd_ne _ _ hj
end
section
variable {n:Nat}{C C':Nat->Int}
end
theorem opT_le (q:Q):opT q<=5:=by unfold opT;split<;>decide
section
variable {N n:Nat}{sc:Nat->List Cl}
end
def wayS (S:List Int) (c:Cl) (a:Int×Int) (S':List Int):Prop :=
 (c.po=1∧a=(0,0)∧S'=c.ca :: S)∨(c.po=1∧a=(80,0)∧S'=S)∨(c.po=2∧S=[]∧a=(90,0)∧S'=S)∨(c.po≠1∧c.po≠2∧S'=S)
inductive Sn8 (N:Nat) (cl:Nat->List Cl) (an:Nat->List (Int×Int)):List Stp->List Int->(Nat->Option Int)->Prop
 |nil:Sn8 N cl an [] [] (λ_=>none)
 |other {L:List Stp} {S:List Int} {f:Nat->Option Int} {x:Stp}:Sn8 N cl an L S f->x.op≠9->x.op≠10->Sn8 N cl an (L++[x]) S f
 |beg {L:List Stp} {S:List Int} {f:Nat->Option Int} {i k:Nat} {c:Cl}:Sn8 N cl an L S f->i<N->nt L i=2*k->(cl i)[k]? = some c->No4 (an i) k->f i=none->Sn8 N cl an (L++[⟨i,-1,9,k,0⟩]) S f
 |pop {L:List Stp} {S:List Int} {f:Nat->Option Int} {i k:Nat} {c:Cl} {x:Stp} {y:Int}:Sn8 N cl an L (y :: S) f->i<N->nt L i=2*k+1->(cl i)[k]? = some c->c.po=2->f i=none->x.op≠9->x.op≠10->Sn8 N cl an (L++[x]) S (upd f i (some y))
 |fin {L:List Stp} {S S':List Int} {f:Nat->Option Int} {i k:Nat} {c:Cl} {a:Int×Int}:Sn8 N cl an L S f->i<N->nt L i=2*k+1->(cl i)[k]? = some c->(an i)[k]? = some a->a.1≠4->f i=none->wayS S c a S'->Sn8 N cl an (L++[⟨i,-1,10,k,a.1⟩]) S' f
 |told {L:List Stp} {S:List Int} {f:Nat->Option Int} {i k:Nat} {c:Cl} {y:Int}:Sn8 N cl an L S f->i<N->nt L i=2*k+1->(cl i)[k]? = some c->c.po=2->(an i)[k]? = some (0,y)->f i=some y->Sn8 N cl an (L++[⟨i,-1,10,k,0⟩]) S (upd f i none)
theorem nt_le1 (L:List Stp) (s:Stp) (i:Nat):nt L i<=nt (L++[s]) i:=by rw[nt_one];omega
theorem Sn8.mono {N:Nat}{cl:Nat->List Cl}{an an':Nat->List (Int×Int)}{L:List Stp}{S:List Int}{f:Nat->Option Int}(h:Sn8 N cl an L S f):(∀ i k,k<nt L i / 2->(an' i)[k]? = (an i)[k]?)->Sn8 N cl an' L S f:=by
 induction h with
 |nil=>intro _;exact .nil
 |@other L S f x h h9 h10 ih=>intro hk;exact .other (ih λi k hi=>hk i k (by have:=nt_le1 L x i;omega)) h9 h10
 |@beg L S f i k c h hi hn hc h4 hf ih =>intro hk;refine .beg (ih λj q hq=>hk j q (by have:=nt_le1 L ⟨i,-1,9,k,0⟩ j;omega)) hi hn hc (λq a hq ha=>h4 q a hq ?_) hf;rw[<-hk i q (by rw[Dp _ _ _ _ (.inl rfl)];omega)];exact ha
 |@pop L S f i k c x y h hi hn hc hp hf h9 h10 ih=>intro hk;exact .pop (ih λi k hi=>hk i k (by have:=nt_le1 L x i;omega)) hi hn hc hp hf h9 h10
 |@fin L S S' f i k c a h hi hn hc ha h4 hf hw ih =>intro hk;refine .fin (ih λj q hq=>hk j q (by have:=nt_le1 L ⟨i,-1,10,k,a.1⟩ j;omega)) hi hn hc ?_ h4 hf hw;rw[hk i k (by rw[Dp _ _ _ _ (.inr rfl)];omega)];exact ha
 |@told L S f i k c y h hi hn hc hp ha hf ih =>intro hk;refine .told (ih λj q hq=>hk j q (by have:=nt_le1 L ⟨i,-1,10,k,0⟩ j;omega)) hi hn hc hp ?_ hf;rw[hk i k (by rw[Dp _ _ _ _ (.inr rfl)];omega)];exact ha
theorem opOk_T :OpOk (mcT n):=by
 refine ⟨λs i c op j q h=>?_,λs q x op j q' h=>?_,λq op j q' h=>(by cases h),λq op j q' h=>(by cases h),λq x m h=>(by cases h)⟩
 .have e0:(mcT n).start i c=if c.po=1 then .turn 1 0 (1,[c.ca]) else if c.po=2 then .turn 1 (hdJ n) (11,[]) else .ans 1 0:=rfl
  rw[e0] at h;by_cases q1:c.po=1;rw[if_pos q1] at h;cases h;exact ⟨by decide,by decide⟩
  .by_cases q2:c.po=2
   rw[if_neg q1,if_pos q2] at h;cases h;exact ⟨by decide,by decide⟩;rw[if_neg q1,if_neg q2] at h;cases h
 .have hset:(mcT n).set s ((mcT n).turn q x).2.2=(Ak n q x).2.2:=Mw.set_turn (mc:=mcT n) s (turnT_nw q x)
  rw[hset] at h;have h1:=turn_op h;have h2:=opT_le q';omega
section
variable {N n:Nat}{cl:Nat->List Cl}{i:Nat}
theorem fw_sn (hi:i<N) {rest:List Cl}{sk:Bool}{ans:List (Int×Int)}{l:Ph}(h:Fw (mcT n) i false rest ii sk ans X l):sk=false->rest=(cl i).drop ii->ii<=(cl i).length->ans.length=(cl i).length ->
 ∀ (an0:Nat->List (Int×Int)) (L:List Stp) (S:List Int) (f:Nat->Option Int),Sn8 N cl (upd an0 i ans) L S f->f i=none->nt L i=2*ii->No4 ans ii->Sn8 N cl (upd an0 i l.ans) (L++X) S f:=by
 have dr:∀ {c:Cl} {rest:List Cl} {ii:Nat},c :: rest=(cl i).drop ii->ii<(cl i).length∧rest=(cl i).drop (ii+1)∧(cl i)[ii]? = some c:=λ{c rest ii} hr=>by refine ⟨?_,?_,?_⟩;have:=congrArg List.length hr;simp at this;omega;have:=congrArg List.tail hr;simpa [List.tail_drop] using this;rw[<-List.head?_drop,<-hr];rfl
 induction h with
 |nil=>intro _ _ _ _ an0 L S f hA _ _ _;rw[List.append_nil];exact hA
 |skip _ _=>intro h;cases h
 |@ans c rest ii ans X l e x hs hf ih =>
  intro _ hr hle hlen an0 L S f hA hfi hn h4;obtain ⟨d1,d2,d3⟩:=dr hr;have e0:(mcT n).start i c=if c.po=1 then .turn 1 0 (1,[c.ca]) else if c.po=2 then .turn 1 (hdJ n) (11,[]) else .ans 1 0:=rfl
  rw[e0] at hs;by_cases q1:c.po=1;rw[if_pos q1] at hs;cases hs
  .by_cases q2:c.po=2
   rw[if_neg q1,if_pos q2] at hs;cases hs
   .rw[if_neg q1,if_neg q2] at hs
    cases hs;have b1:=hA.beg (i:=i) (k:=ii) hi hn d3 (by rw[upd_same];exact h4) hfi;have b2:Sn8 N cl (upd an0 i (ans.set ii (1,0))) (L++[⟨i,-1,9,ii,0⟩]) S f:=b1.mono λj k hk=>by
     by_cases ej:j=i
     .subst ej
      rw[Dp _ _ _ _ (.inl rfl)] at hk;rw[upd_same,upd_same,Qq,if_neg (by omega)]
     rw[upd_ne _ _ ej,upd_ne _ _ ej]
    have b3:=b2.fin (a:=(1,0)) (k:=ii) (S':=S) hi (by rw[Dp _ _ _ _ (.inl rfl),hn]) d3 (by rw[upd_same,Qq,if_pos rfl,if_pos (by omega)]) (by decide) hfi (.inr (.inr (.inr ⟨q1,q2,rfl⟩)));have b4:=ih (by decide) d2 (by omega) (by rw[List.length_set];exact hlen) an0 _ S f b3 hfi (by rw[Dp _ _ _ _ (.inr rfl),Dp _ _ _ _ (.inl rfl),hn];omega) (h4.next (by decide));simpa only[List.append_assoc,List.singleton_append,List.cons_append,List.nil_append] using b4
 |@turn c rest ii ans op j q hs =>intro _ hr hle hlen an0 L S f hA hfi hn h4;obtain ⟨d1,d2,d3⟩:=dr hr;exact hA.beg (i:=i) (k:=ii) hi hn d3 (by rw[upd_same];exact h4) hfi
 |@wait c rest ii ans j q hs =>
  intro _ hr hle hlen an0 L S f hA hfi hn h4;exfalso;have e0:(mcT n).start i c=if c.po=1 then .turn 1 0 (1,[c.ca]) else if c.po=2 then .turn 1 (hdJ n) (11,[]) else .ans 1 0:=rfl
  rw[e0] at hs;by_cases q1:c.po=1;rw[if_pos q1] at hs;cases hs
  .by_cases q2:c.po=2
   rw[if_neg q1,if_pos q2] at hs;cases hs
   .rw[if_neg q1,if_neg q2] at hs
    cases hs
end
theorem fw_j {rest:List Cl}{sk:Bool}{ans:List (Int×Int)}{l:Ph}(h:Fw (mcT n) i stk rest ii sk ans X l) (sc:List Cl) (C:Nat->Int):sk=false->ii<=sc.length->sc.drop ii=rest->ans.length=sc.length ->
 SeatC n C sc l∧flP n C l=[]∧(Ix l=none∨∃ q',Ix l=some q'∧(q'.1=1∨q'.1=11)):=by
 induction h with
 |@nil ii sk ans =>
  intro _ h1 h2 h3;have:ii=sc.length:=by have:=congrArg List.length h2;simp at this;omega
  subst this;exact ⟨h3,rfl,.inl rfl⟩
 |skip _ _=>intro h;cases h
 |@ans c rest ii ans X l e x hs hf ih =>
  intro _ h1 h2 h3;have hlt:ii<sc.length:=by rcases Nat.lt_or_ge ii sc.length with h|h;exact h;rw[List.drop_eq_nil_of_le h] at h2;cases h2
  have hc:cAt sc ii=c:=by have:=congrArg List.head? h2;rw[List.head?_drop] at this;unfold cAt;rw[this];rfl
  have e0:(mcT n).start i c=if c.po=1 then .turn 1 0 (1,[c.ca]) else if c.po=2 then .turn 1 (hdJ n) (11,[]) else .ans 1 0:=rfl
  rw[e0] at hs;by_cases q1:c.po=1;rw[if_pos q1] at hs;cases hs
  .by_cases q2:c.po=2
   rw[if_neg q1,if_pos q2] at hs;cases hs
   .rw[if_neg q1,if_neg q2] at hs
    cases hs;have hd:sc.drop (ii+1)=rest:=by rw[<-List.drop_drop,h2];rfl
    exact ih (by decide) (by omega) hd (by rw[List.length_set];exact h3)
 |@turn c rest ii ans op j q hs =>
  intro _ h1 h2 h3;have hlt:ii<sc.length:=by rcases Nat.lt_or_ge ii sc.length with h|h;exact h;rw[List.drop_eq_nil_of_le h] at h2;cases h2
  have hc:cAt sc ii=c:=by have:=congrArg List.head? h2;rw[List.head?_drop] at this;unfold cAt;rw[this];rfl
  have hd:sc.drop (ii+1)=rest:=by rw[<-List.drop_drop,h2];rfl
  have e0:(mcT n).start i c=if c.po=1 then .turn 1 0 (1,[c.ca]) else if c.po=2 then .turn 1 (hdJ n) (11,[]) else .ans 1 0:=rfl
  rw[e0] at hs;by_cases q1:c.po=1
  .rw[if_pos q1] at hs
   cases hs;exact ⟨⟨hlt,hd,h3,⟨λ_=>by rw[hc];exact q1,λh=>absurd h (by show ¬ 11<=1;decide),λ_=>by rw[hc];rfl,λh=>absurd h (by show ¬ 6<=1;decide)⟩⟩,rfl,.inr ⟨_,rfl,.inl rfl⟩⟩
  .by_cases q2:c.po=2
   .rw[if_neg q1,if_pos q2] at hs
    cases hs;exact ⟨⟨hlt,hd,h3,⟨λh=>absurd h (by show ¬ 11<=8;decide),λ_=>by rw[hc];exact q2,λh=>absurd h (by show ¬ 11<=5;decide),λ_ h=>absurd h (by show ¬ 11<=8;decide)⟩⟩,rfl,.inr ⟨_,rfl,.inr rfl⟩⟩
   .rw[if_neg q1,if_neg q2] at hs
    cases hs
 |@wait c rest ii ans j q hs =>
  intro _ h1 h2 h3;exfalso;have e0:(mcT n).start i c=if c.po=1 then .turn 1 0 (1,[c.ca]) else if c.po=2 then .turn 1 (hdJ n) (11,[]) else .ans 1 0:=rfl
  rw[e0] at hs;by_cases q1:c.po=1;rw[if_pos q1] at hs;cases hs
  .by_cases q2:c.po=2
   rw[if_neg q1,if_pos q2] at hs;cases hs
   .rw[if_neg q1,if_neg q2] at hs
    cases hs
theorem on_j {rest:List Cl}{ans:List (Int×Int)}{nx:Nx}{l':Ph}(h:On (mcT n) i stk rest ii ans nx X l') (sc:List Cl) (C:Nat->Int) (hii:ii<sc.length) (hd:sc.drop (ii+1)=rest) (ha:ans.length=sc.length) (h4:∀ e x,nx=.ans e x->e≠4) (hw:∀ j q,nx≠.wait j q) (hq:∀ op j q,nx=.turn op j q->CallQ n C (cAt sc ii) q):
 SeatC n C sc l'∧Nxt nx (Ix l')∧(∀ e x,nx=.ans e x->flP n C l'=[])∧(∀ op j q,nx=.turn op j q->flP n C l'=flQ n C q):=by
 cases h with
 |@ans e x X l hf =>have:=h4 e x rfl;obtain ⟨i1,i4,i5⟩:=fw_j hf sc C (by simpa using this) (by omega) hd (by rw[List.length_set];exact ha);refine ⟨i1,i5,λe' x' he=>?_,λop j q he=>by cases he⟩;cases he;exact i4
 |@turn op j q=>exact ⟨⟨hii,hd,ha,hq op j q rfl⟩,rfl,(λe x he=>by cases he),λop' j' q' he=>by cases he;rfl⟩
 |wait=>exact absurd rfl (hw _ _)
theorem KI.mono' {N B':Nat}{s:Nat->Option Q}(h:KI N n B C s F S) (hB:B<=B'):KI N n B' C s F S :=
 ⟨h.fr,h.st,h.nd,h.lt,⟨h.va.lo,h.va.hi,by have:=h.va.ver;omega⟩,⟨h.vb.lo,h.vb.hi,by have:=h.vb.ver;omega⟩,h.sit⟩
structure TJ (N n:Nat) (sc:Nat->List Cl) (v:Vw) (F S:List Nat):Prop where
 ki:KI N n v.L.length (λj=>v.K.getD j 0) (λi=>Ix (v.l i)) F S
 sit:∀ i,i<N->SeatC n (λj=>v.K.getD j 0) (sc i) (v.l i)
section
variable {N n:Nat}{sc:Nat->List Cl}
theorem tj_turn (hn:n<=1000) {v v1:Vw}(h:TJ N n sc v F S) (hB:v.L.length<=400000) (hat:∀ k,k<N->∀ q,Ix (v.l k)=some q->∃ j,atT n q j) (hi:i<N) {op:Int}{rest:List Cl}{ans:List (Int×Int)}(hl:v.l i=.turn op j q rest ii ans)
 (ha:atT n q j) (hjl:j<v.K.length) (hx:okT n j (v.K.getD j 0)) {l':Ph} {o:Int} (hon:On (mcT n) i stk rest ii ans (Ak n q (v.K.getD j 0)).2.2 X l') (els:Els i l' v v1) (hK:v1.K=v.K.set j (Ak n q (v.K.getD j 0)).2.1) (hL:v1.L=v.L++(⟨i,j,op,o,(Ak n q (v.K.getD j 0)).2.1⟩:Stp) :: X):∃ F' S',TJ N n sc v1 F' S'∧SSt q (v.K.getD j 0) S S'∧(∀ a∈S',v1.K.getD (vlJ n a) 0=v.K.getD (vlJ n a) 0)∧(∀ a∈S,v1.K.getD (vlJ n a) 0=v.K.getD (vlJ n a) 0)∧(∀ k,k<N->k≠i->flP n (λj=>v1.K.getD j 0) (v.l k)=flP n (λj=>v.K.getD j 0) (v.l k)):=by
 have eC:(λk=>v1.K.getD k 0)=upd (λk=>v.K.getD k 0) j (Ak n q (v.K.getD j 0)).2.1:=by
  funext k;rw[hK];by_cases e:k=j
  .subst e
   rw[upd_same];exact getD_set_self hjl
  .rw[upd_ne _ _ e]
   exact getD_set_far e
 have es:(λk=>Ix (v1.l k))=upd (λk=>Ix (v.l k)) i (Ix l'):=by funext k;rw[els.l];by_cases e:k=i;subst e;rw[upd_same,upd_same];rw[upd_ne _ _ e,upd_ne _ _ e]
 have hsi:=h.sit i hi;rw[hl] at hsi;obtain ⟨c1,c2,c3,c4⟩:=hsi;have hsq:Ix (v.l i)=some q:=by rw[hl];rfl
 have hki:=h.ki;have hst0:=h.sit;clear h;generalize hCC:(λj=>v.K.getD j 0)=C at *;have hCj:∀ k,v.K.getD k 0=C k:=λk=>by rw[<-hCC]
 rw[hCj j] at hx hon hK hL eC;obtain ⟨o1,o2,o3,o4⟩:=on_j hon (sc i) (upd C j (Ak n q (C j)).2.1) c1 c2 c3 (λe x he=>turnT_e he) (turnT_nw q _) (λop' j' q' he=>call_next ha c4 he);obtain ⟨F',S',hKI,hS⟩:=ki_turn hn hki hB hat hi (q:=q) (j:=j) hsq ha hx o2;have hvs:∀ a',(q.1=5->a'≠(q.2.getD 1 0).toNat)->upd C j (Ak n q (C j)).2.1 (vlJ n a')=C (vlJ n a'):=λa' h=>vl_same ha h;have hown:q.1=5->ownQ q=some (q.2.getD 1 0).toNat:=λe=>by unfold ownQ;simp only[e]
 have hoth:∀ k,k<N->k≠i->∀ q',Ix (v.l k)=some q'->∀ a',ownQ q'=some a'->upd C j (Ak n q (C j)).2.1 (vlJ n a')=C (vlJ n a'):=λk hk hne q' hq' a' ha'=>hvs a' (λe5 e=>by have:=(hki.sit i hi q hsq).2 _ (hown e5);exact this.2 k hk hne q' hq' (by rw[ha',e]))
 have hSv:∀ a,a∈S->upd C j (Ak n q (C j)).2.1 (vlJ n a)=C (vlJ n a):=λa haS=>hvs a (λe5 e=>by have:=(hki.sit i hi q hsq).2 _ (hown e5);exact this.1 (List.mem_append_right _ (e▸haS)))
 have hSv':∀ a,a∈S'->upd C j (Ak n q (C j)).2.1 (vlJ n a)=C (vlJ n a):=λa haS=>by rcases hS with hs|hs|hs;exact hvs a (λe5=>by have:=hs.1;omega);exact hvs a (λe5=>by have:=hs.1;omega);exact hSv a (by rw[<-hs.2.2];exact haS)
 have hfl:∀ k,k<N->k≠i->flP n (upd C j (Ak n q (C j)).2.1) (v.l k)=flP n C (v.l k):=λk hk hne=>by
  cases hlk:v.l k with
  |turn op1 j1 q1 r1 k1 a1 =>show flQ n _ q1=flQ n C q1;unfold flQ;by_cases e:q1.1=14;rw[if_pos e,if_pos e,hoth k hk hne q1 (by rw[hlk];rfl) _ (by unfold ownQ;simp only[e])];rw[if_neg e,if_neg e]
  |wait _ _ _ _ _=>rfl
  |done _=>rfl
 refine ⟨F',S',⟨?_,λk hk=>?_⟩,(by rw[hCj j];exact hS),λa ha=>(congrFun eC (vlJ n a)).trans ((hSv' a ha).trans (hCj _).symm),λa ha=>(congrFun eC (vlJ n a)).trans ((hSv a ha).trans (hCj _).symm),λk hk hne=>by rw[eC];exact hfl k hk hne⟩
 .rw[eC,es]
  exact hKI.mono' (by rw[hL];simp)
 .rw[eC,els.l]
  by_cases e:k=i;subst e;rw[upd_same];exact o1
  .rw[upd_ne _ _ e]
   have hk0:=hst0 k hk;cases hlk:v.l k with
   |turn op1 j1 q1 r1 k1 a1 =>
    rw[hlk] at hk0;refine ⟨hk0.1,hk0.2.1,hk0.2.2.1,⟨hk0.2.2.2.p1,hk0.2.2.2.p2,hk0.2.2.2.v1,λh6 h8=>?_⟩⟩
    rw[hoth k hk e q1 (by rw[hlk];rfl) _ (by unfold ownQ;obtain ⟨x,y⟩:=q1;simp only at h6 h8 ⊢;obtain rfl|rfl|rfl:x=6∨x=7∨x=8:=by omega
                                             all_goals rfl)]
    exact hk0.2.2.2.v2 h6 h8
   |wait _ _ _ _ _=>rw[hlk] at hk0;exact hk0
   |done _=>rw[hlk] at hk0;exact hk0
end
end Go.Proofs.YtbbhahigofeacaaDoor.Gen
