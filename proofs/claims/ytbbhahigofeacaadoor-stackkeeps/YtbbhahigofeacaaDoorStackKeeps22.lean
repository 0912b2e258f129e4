/- Of the proof of StackKeeps. Part 22 of 33. (Joined, by program, and written short, of: StY, StE, StV, StV2.) -/
import Derived.Test.YtbbhahigofeacaaDoorStackKeeps12
import Derived.Test.YtbbhahigofeacaaDoorStackKeeps14
import Derived.Test.YtbbhahigofeacaaDoorStackKeeps17
import Derived.Test.YtbbhahigofeacaaDoorStackKeeps21
set_option linter.unusedSimpArgs false
set_option linter.unusedVariables false
set_option maxHeartbeats 4000000
set_option maxRecDepth 100000
namespace Go.Proofs.YtbbhahigofeacaaDoor.Gen
open Go Go.Lift Go.Conc Go.RowKit
open R1 (fstI verI hdI)
noncomputable def B28:Code:=Tryd.f28.body.getD .skip
noncomputable def k280:Code:=seq1 B28
noncomputable def k281:Code:=seq1 (seq2 B28)
noncomputable def k282:Code:=seq1 (seq2 (seq2 B28))
noncomputable def R28:Code:=seq2 (seq2 (seq2 B28))
theorem eB28:B28=.seq k280 (.seq k281 (.seq k282 R28)):=by kernel_rfl
theorem fine_k280:A7 Tryd.prog true LV k280:=B0 Bw extT (by kernel_rfl)
theorem fine_k281:A7 Tryd.prog true LV k281:=B0 Bw extT (by kernel_rfl)
theorem fine_k282:A7 Tryd.prog true LV k282:=B0 Bw extT (by kernel_rfl)
section
variable {S:TS}{v:World}{a:Act}{n cap:Nat}{p:Option Addr}{m:Int}
theorem k280_wp (hA:Fl 30 [(0,Pt S.wb 0),(1,I m),(2,.slice p n cap)] a):k280.wp Tryd.prog (fun e a w'=>e=.normal∧Fl 30 [(0,Pt S.wb 0),(1,I m),(2,.slice p n cap),(6,.slice none 0 0),(7,I 0)] a∧w'.heap=v.heap∧w'.os=v.os∧w'.output=v.output) a v:=by
 obtain ⟨hsz,hd,hpp⟩:=hA
 obtain ⟨u,rfl,hg⟩:=litN hsz hd
 have u0:=(hg 0).symm.trans (hpp (0,Pt S.wb 0) (by simp))
 have u1:=(hg 1).symm.trans (hpp (1,I m) (by simp))
 have u2:=(hg 2).symm.trans (hpp (2,.slice p n cap) (by simp))
 clear hg hpp hsz hd
 unfold k280 B28 Tryd.f28 seq1
 simp only[Option.getD_some,lits,Nat.reduceAdd,u0,u1,u2]
 clear u0 u1 u2
 go_wp2_with fail
 first
  |exact ⟨rfl,⟨rfl,rfl,by
    intro p hp
    simp only[List.mem_cons,List.not_mem_nil,or_false] at hp
    rcases hp with rfl|rfl|rfl|rfl|rfl<;>rfl⟩,rfl,rfl,rfl⟩
  |exact ⟨⟨rfl,rfl,by
    intro p hp
    simp only[List.mem_cons,List.not_mem_nil,or_false] at hp
    rcases hp with rfl|rfl|rfl|rfl|rfl<;>rfl⟩,rfl,rfl,rfl⟩
  |exact ⟨rfl,rfl,by
    intro p hp
    simp only[List.mem_cons,List.not_mem_nil,or_false] at hp
    rcases hp with rfl|rfl|rfl|rfl|rfl<;>rfl⟩
theorem k281_no (h:Rep zn S v) (pc:Nat->Option Addr) (ln cp:Nat->Nat) (hs:∀ k,k<n->∃ sb so,p=some ⟨sb,so,none⟩∧v.cell? ⟨sb,so+k,none⟩=some (.slice (pc k) (ln k) (cp k))) (hn:n≤17592186043904) (hr:S.ran=false) {E:Int}(hE:Refused n ln E) (hA:Fl 30 [(0,Pt S.wb 0),(1,I m),(2,.slice p n cap),(6,.slice none 0 0),(7,I 0)] a) :
 k281.wp Tryd.prog (fun e a w'=>e=.ret∧∃ x,(results Tryd.f28 a.tmps).run Tryd.prog w'=.ok x w'∧x=.tuple #[.slice none 0 0,I E]∧w'.heap=v.heap∧w'.os=v.os∧w'.output=v.output) a v:=by
 have h19:=(body19 h p n cap hn pc ln cp hs).calls Tryd.func36 rfl
 have H19:Hid (Calls Tryd.prog 36 #[Pt S.wb 0,.slice p n cap] v (fun e w'=>e=.returned (I E)∧w'=v)):=⟨h19.mono (by
  rintro e w' ⟨r,rfl,rfl,⟨hk,rfl⟩|⟨hk,rfl⟩⟩
  ·rcases hE with ⟨_,rfl⟩|⟨h1,_⟩
   ·exact ⟨rfl,rfl⟩
   ·obtain ⟨k,k1,k2⟩:=hk
    exact absurd (h1 k k1) (by omega)
  ·rcases hE with ⟨⟨k,k1,k2⟩,_⟩|⟨_,h1,rfl⟩
   ·exact absurd (hk k k1) (by omega)
   ·refine ⟨?_,rfl⟩
    unfold checkE
    rw[if_pos (h1.imp_right .inl)])⟩
 have hE0:¬ E=0:=by rcases hE with ⟨_,rfl⟩|⟨_,_,rfl⟩<;>decide
 clear h19 h hs hn hr hE
 obtain ⟨hsz,hd,hpp⟩:=hA
 obtain ⟨u,rfl,hg⟩:=litN hsz hd
 have u0:=(hg 0).symm.trans (hpp (0,Pt S.wb 0) (by simp))
 have u1:=(hg 1).symm.trans (hpp (1,I m) (by simp))
 have u2:=(hg 2).symm.trans (hpp (2,.slice p n cap) (by simp))
 have u6:=(hg 6).symm.trans (hpp (6,.slice none 0 0) (by simp))
 have u7:=(hg 7).symm.trans (hpp (7,I 0) (by simp))
 clear hg hpp hsz hd
 unfold k281 B28 Tryd.f28 seq1 seq2
 simp only[Option.getD_some,lits,Nat.reduceAdd,u0,u1,u2,u6,u7]
 clear u0 u1 u2 u6 u7
 go_wp2_with (first
  |(go_at_call 36;refine H19.out.mono ?_;rintro e w1 ⟨rfl,rfl⟩))
 exact results_tmp2 (t:=6) (u:=7) rfl _ _ _
theorem k281_yes (h:Rep zn S v) (pc:Nat->Option Addr) (ln cp:Nat->Nat) (hs:∀ k,k<n->∃ sb so,p=some ⟨sb,so,none⟩∧v.cell? ⟨sb,so+k,none⟩=some (.slice (pc k) (ln k) (cp k))) (hln:∀ k,k<n->ln k≤64) (hn:0<n∧n≤8) (hr:S.ran=false) (hA:Fl 30 [(0,Pt S.wb 0),(1,I m),(2,.slice p n cap),(6,.slice none 0 0),(7,I 0)] a) :
 k281.wp Tryd.prog (fun e a w'=>e=.normal∧Fl 30 [(0,Pt S.wb 0),(1,I m),(2,.slice p n cap),(6,.slice none 0 0),(7,I 0)] a∧w'.heap=v.heap∧w'.os=v.os∧w'.output=v.output) a v:=by
 have h19:=(body19 h p n cap (by omega) pc ln cp hs).calls Tryd.func36 rfl
 have he:checkE n S.ran=0:=by unfold checkE;rw[if_neg (by rw[hr];rintro (h|h|h)<;>first|omega|cases h)]
 have H19:Hid (Calls Tryd.prog 36 #[Pt S.wb 0,.slice p n cap] v (fun e w'=>e=.returned (I 0)∧w'=v)):=⟨h19.mono (by
  rintro e w' ⟨r,rfl,rfl,⟨⟨k,hk,h1⟩,_⟩|⟨_,rfl⟩⟩
  ·exact absurd (hln k hk) (by omega)
  ·rw[he];exact ⟨rfl,rfl⟩)⟩
 clear h19 h hs hln hn hr he
 obtain ⟨hsz,hd,hpp⟩:=hA
 obtain ⟨u,rfl,hg⟩:=litN hsz hd
 have u0:=(hg 0).symm.trans (hpp (0,Pt S.wb 0) (by simp))
 have u1:=(hg 1).symm.trans (hpp (1,I m) (by simp))
 have u2:=(hg 2).symm.trans (hpp (2,.slice p n cap) (by simp))
 have u6:=(hg 6).symm.trans (hpp (6,.slice none 0 0) (by simp))
 have u7:=(hg 7).symm.trans (hpp (7,I 0) (by simp))
 clear hg hpp hsz hd
 unfold k281 B28 Tryd.f28 seq1 seq2
 simp only[Option.getD_some,lits,Nat.reduceAdd,u0,u1,u2,u6,u7]
 clear u0 u1 u2 u6 u7
 go_wp2_with (first
  |(go_at_call 36;refine H19.out.mono ?_;rintro e w1 ⟨rfl,rfl⟩))
 first
  |exact ⟨rfl,⟨rfl,rfl,by
    intro p hp
    simp only[List.mem_cons,List.not_mem_nil,or_false] at hp
    rcases hp with rfl|rfl|rfl|rfl|rfl<;>rfl⟩,rfl,rfl,rfl⟩
  |exact ⟨⟨rfl,rfl,by
    intro p hp
    simp only[List.mem_cons,List.not_mem_nil,or_false] at hp
    rcases hp with rfl|rfl|rfl|rfl|rfl<;>rfl⟩,rfl,rfl,rfl⟩
  |exact ⟨rfl,rfl,by
    intro p hp
    simp only[List.mem_cons,List.not_mem_nil,or_false] at hp
    rcases hp with rfl|rfl|rfl|rfl|rfl<;>rfl⟩
theorem k282_yes (h1:0≤m) (h2:m≤1000) (hA:Fl 30 [(0,Pt S.wb 0),(1,I m),(2,.slice p n cap),(6,.slice none 0 0),(7,I 0)] a):k282.wp Tryd.prog (fun e a w'=>e=.normal∧Fl 30 [(0,Pt S.wb 0),(1,I m),(2,.slice p n cap),(6,.slice none 0 0),(7,I 0)] a∧w'.heap=v.heap∧w'.os=v.os∧w'.output=v.output) a v:=by
 have g1:decide (m<0)=false:=decide_eq_false (by omega)
 have g2:decide (m > 1000)=false:=decide_eq_false (by omega)
 have g3:¬ m<0:=by omega
 have g4:¬ m > 1000:=by omega
 obtain ⟨hsz,hd,hpp⟩:=hA
 obtain ⟨u,rfl,hg⟩:=litN hsz hd
 have u0:=(hg 0).symm.trans (hpp (0,Pt S.wb 0) (by simp))
 have u1:=(hg 1).symm.trans (hpp (1,I m) (by simp))
 have u2:=(hg 2).symm.trans (hpp (2,.slice p n cap) (by simp))
 have u6:=(hg 6).symm.trans (hpp (6,.slice none 0 0) (by simp))
 have u7:=(hg 7).symm.trans (hpp (7,I 0) (by simp))
 clear hg hpp hsz hd
 unfold k282 B28 Tryd.f28 seq1 seq2
 simp only[Option.getD_some,lits,Nat.reduceAdd,u0,u1,u2,u6,u7]
 clear u0 u1 u2 u6 u7
 go_wp2_with fail
 first
  |exact ⟨rfl,⟨rfl,rfl,by
    intro p hp
    simp only[List.mem_cons,List.not_mem_nil,or_false] at hp
    rcases hp with rfl|rfl|rfl|rfl|rfl<;>rfl⟩,rfl,rfl,rfl⟩
  |exact ⟨⟨rfl,rfl,by
    intro p hp
    simp only[List.mem_cons,List.not_mem_nil,or_false] at hp
    rcases hp with rfl|rfl|rfl|rfl|rfl<;>rfl⟩,rfl,rfl,rfl⟩
  |exact ⟨rfl,rfl,by
    intro p hp
    simp only[List.mem_cons,List.not_mem_nil,or_false] at hp
    rcases hp with rfl|rfl|rfl|rfl|rfl<;>rfl⟩
theorem k282_no1 (h1:m<0) (hA:Fl 30 [(0,Pt S.wb 0),(1,I m),(2,.slice p n cap),(6,.slice none 0 0),(7,I 0)] a):k282.wp Tryd.prog (fun e a w'=>e=.ret∧∃ x,(results Tryd.f28 a.tmps).run Tryd.prog w'=.ok x w'∧x=.tuple #[.slice none 0 0,I 1]∧w'.heap=v.heap∧w'.os=v.os∧w'.output=v.output) a v:=by
 have g1:decide (m<0)=true:=decide_eq_true h1
 obtain ⟨hsz,hd,hpp⟩:=hA
 obtain ⟨u,rfl,hg⟩:=litN hsz hd
 have u0:=(hg 0).symm.trans (hpp (0,Pt S.wb 0) (by simp))
 have u1:=(hg 1).symm.trans (hpp (1,I m) (by simp))
 have u2:=(hg 2).symm.trans (hpp (2,.slice p n cap) (by simp))
 have u6:=(hg 6).symm.trans (hpp (6,.slice none 0 0) (by simp))
 have u7:=(hg 7).symm.trans (hpp (7,I 0) (by simp))
 clear hg hpp hsz hd
 unfold k282 B28 Tryd.f28 seq1 seq2
 simp only[Option.getD_some,lits,Nat.reduceAdd,u0,u1,u2,u6,u7]
 clear u0 u1 u2 u6 u7
 go_wp2_with fail
 exact results_tmp2 (t:=6) (u:=7) rfl _ _ _
theorem k282_no2 (h1:1000<m) (hA:Fl 30 [(0,Pt S.wb 0),(1,I m),(2,.slice p n cap),(6,.slice none 0 0),(7,I 0)] a):k282.wp Tryd.prog (fun e a w'=>e=.ret∧∃ x,(results Tryd.f28 a.tmps).run Tryd.prog w'=.ok x w'∧x=.tuple #[.slice none 0 0,I 1]∧w'.heap=v.heap∧w'.os=v.os∧w'.output=v.output) a v:=by
 have g1:decide (m<0)=false:=decide_eq_false (by omega)
 have g2:decide (m > 1000)=true:=decide_eq_true h1
 have g3:¬ m<0:=by omega
 obtain ⟨hsz,hd,hpp⟩:=hA
 obtain ⟨u,rfl,hg⟩:=litN hsz hd
 have u0:=(hg 0).symm.trans (hpp (0,Pt S.wb 0) (by simp))
 have u1:=(hg 1).symm.trans (hpp (1,I m) (by simp))
 have u2:=(hg 2).symm.trans (hpp (2,.slice p n cap) (by simp))
 have u6:=(hg 6).symm.trans (hpp (6,.slice none 0 0) (by simp))
 have u7:=(hg 7).symm.trans (hpp (7,I 0) (by simp))
 clear hg hpp hsz hd
 unfold k282 B28 Tryd.f28 seq1 seq2
 simp only[Option.getD_some,lits,Nat.reduceAdd,u0,u1,u2,u6,u7]
 clear u0 u1 u2 u6 u7
 go_wp2_with fail
 exact results_tmp2 (t:=6) (u:=7) rfl _ _ _
end
structure GF (pk0:Nat->Option Obj):Prop where
 a:∃ c t f,pk0 0=some (.cells c t f)∧c[0]? = some (I 0)∧c[1]? = some (I 32)
 b:∃ c t f,pk0 1=some (.cells c t f)∧c[0]? = some (I 32)∧c[1]? = some (I 30)
 c:∃ c t f,pk0 2=some (.cells c t f)∧c[0]? = some (I 0)∧c[1]? = some (I 32)
 d:∃ c t f,pk0 3=some (.cells c t f)∧c[0]? = some (I 32)∧c[1]? = some (I 30)
theorem GF.flds {pk0:Nat->Option Obj}(h:GF pk0) {v:World}(hv:Has pk0 v):R1.Flds v:=by
 obtain ⟨c0,t0,f0,g0,a0,a1⟩:=h.a
 obtain ⟨c1,t1,f1,g1,b0,b1⟩:=h.b
 obtain ⟨c2,t2,f2,g2,d0,d1⟩:=h.c
 obtain ⟨c3,t3,f3,g3,e0,e1⟩:=h.d
 exact ⟨cell_of (hv _ _ g0) a0,cell_of (hv _ _ g0) a1,cell_of (hv _ _ g1) b0,cell_of (hv _ _ g1) b1,cell_of (hv _ _ g2) d0,cell_of (hv _ _ g2) d1,cell_of (hv _ _ g3) e0,cell_of (hv _ _ g3) e1⟩
def QStk (n:Nat) (caps:Array Value) (pk:Nat->Option Obj) (K:List (Nat×Int)):Prop :=
 n≤1000∧∃ pk0 c s sb rb,GF pk0∧caps=#[Pt c 0]∧StkN pk0 pk n c s sb rb K∧K.map (·.2)=sts n n
theorem mineStk (n:Nat) (caps:Array Value) (pk:Nat->Option Obj) (K:List (Nat×Int)) (h:QStk n caps pk K) (X:Fix (mcT n)) (hf:X.fid=52) (hc:X.caps=caps) (hp:X.pk=pk) (hk:X.kb=K.map (·.1)):(pkgT n).Mine X:=by
 obtain ⟨h1,pk0,c,s,sb,rb,hG,rfl,hS,hK⟩:=h
 refine ⟨c,s,sb,rb,hc,fun v hv=>?_⟩
 rw[hp] at hv
 have hl:K.length=2*n+2+2*n:=by have:=congrArg List.length hK;rw[List.length_map,Fb] at this;exact this
 have hkj:∀ j,j<K.length->∃ c,K[j]? = some c∧X.kb[j]? = some c.1:=fun j hj=>⟨_,List.getElem?_eq_getElem hj,by rw[hk,List.getElem?_map,List.getElem?_eq_getElem hj];rfl⟩
 obtain ⟨c0,e0,e1⟩:=hS.sbox
 obtain ⟨c1,e2,e3⟩:=hS.box
 have f0:=hv _ _ e1
 have f1:=hv _ _ e3
 have f2:=hv _ _ hS.srow
 have f3:=hv _ _ hS.row
 refine ⟨⟨⟨⟨c0.1,by rw[hk,List.getElem?_map,e0];rfl,cell_of f0 rfl⟩,cell_of f0 rfl,fun k hk=>?_,fun k hk=>?_⟩,cell_of f1 rfl,⟨c1.1,by unfold hdJ;rw[hk,List.getElem?_map,e2];rfl,cell_of f1 rfl⟩,cell_of f1 rfl,fun k hk=>?_,fun k hk=>?_,h1⟩,hG.flds (fun b o hb=>hv b o (hS.old b o hb))⟩
 ·obtain ⟨c,g1,g2⟩:=hkj (1+k*2) (by omega)
  exact ⟨c.1,by unfold nxJ;rw[Nat.mul_comm];exact g2,Hh f2 (by omega) g1⟩
 ·obtain ⟨c,g1,g2⟩:=hkj (1+(k*2+1)) (by omega)
  exact ⟨c.1,by unfold usJ;rw[show 2+2*k=1+(k*2+1) by omega];exact g2,Hh f2 (by omega) g1⟩
 ·obtain ⟨c,g1,g2⟩:=hkj (2*n+2+k*2) (by omega)
  exact ⟨c.1,by unfold vlJ;rw[Nat.mul_comm 2 k];exact g2,Hh f3 (by omega) g1⟩
 ·obtain ⟨c,g1,g2⟩:=hkj (2*n+2+(k*2+1)) (by omega)
  exact ⟨c.1,by unfold lkJ;rw[show 2*n+3+2*k=2*n+2+(k*2+1) by omega];exact g2,Hh f3 (by omega) g1⟩
theorem bh_in (i n:Nat) (hi:i≤n):0≤bh i n∧bh i n≤n:=by unfold bh;split<;>omega
theorem nxs_get (n:Nat):∀ (k j:Nat) (x:Int),(nxs n k)[j]? = some x->(j=0∧x=hdI (bh 0 n) 0)∨(∃ i,i<k∧j=nxJ i∧x=bh (i+1) n)∨(∃ i,i<k∧j=usJ i∧x=0)
 |0,j,x,h=>by
  cases j with
  |zero=>exact .inl ⟨rfl,(Option.some.inj h).symm⟩
  |succ j=>cases h
 |k+1,j,x,h=>by
  unfold nxs at h
  have hl:=Ek n k
  rcases Nat.lt_or_ge j (nxs n k).length with h1|h1
  ·rw[List.append_assoc,List.getElem?_append_left h1] at h
   rcases nxs_get n k j x h with h|⟨i,h2,h3,h4⟩|⟨i,h2,h3,h4⟩
   ·exact .inl h
   ·exact .inr (.inl ⟨i,by omega,h3,h4⟩)
   ·exact .inr (.inr ⟨i,by omega,h3,h4⟩)
  ·rw[List.append_assoc,List.getElem?_append_right h1] at h
   by_cases e:j=(nxs n k).length
   ·rw[e,Nat.sub_self] at h
    exact .inr (.inl ⟨k,by omega,by unfold nxJ;omega,(Option.some.inj h).symm⟩)
   ·by_cases e2:j=(nxs n k).length+1
    ·rw[e2,Nat.add_sub_cancel_left] at h
     exact .inr (.inr ⟨k,by omega,by unfold usJ;omega,(Option.some.inj h).symm⟩)
    ·have h2:2≤j - (nxs n k).length:=by omega
     rw[List.getElem?_eq_none (by simpa using h2)] at h
     cases h
theorem sts_get (n:Nat):∀ (k j:Nat) (x:Int),(sts n k)[j]? = some x->(nxs n n)[j]? = some x∨(2*n+1≤j∧x=0)
 |0,j,x,h=>by
  unfold sts at h
  have hl:=Ek n n
  rcases Nat.lt_or_ge j (nxs n n).length with h1|h1
  ·rw[List.getElem?_append_left h1] at h
   exact .inl h
  ·rw[List.getElem?_append_right h1] at h
   have:j - (nxs n n).length=0:=by
    rcases Nat.eq_zero_or_pos (j - (nxs n n).length) with h0|h0
    ·exact h0
    ·rw[List.getElem?_eq_none (by simp;omega)] at h;cases h
   rw[this] at h
   exact .inr ⟨by omega,(Option.some.inj h).symm⟩
 |k+1,j,x,h=>by
  unfold sts at h
  have hl:=Fb n k
  rcases Nat.lt_or_ge j (sts n k).length with h1|h1
  ·rw[List.append_assoc,List.getElem?_append_left h1] at h
   exact sts_get n k j x h
  ·rw[List.append_assoc,List.getElem?_append_right h1] at h
   refine .inr ⟨by omega,?_⟩
   have h2:j - (sts n k).length<2:=by
    have:=(List.getElem?_eq_some_iff.1 h).1
    simpa using this
   rcases Nat.lt_or_ge (j - (sts n k).length) 1 with h3|h3
   ·rw[show j - (sts n k).length=0 by omega] at h;exact (Option.some.inj h).symm
   ·rw[show j - (sts n k).length=1 by omega] at h;exact (Option.some.inj h).symm
theorem sts_ok (n:Nat) (hn:n≤1000) {j:Nat}{x:Int}(h:(sts n n)[j]? = some x):okT n j x:=by
 rcases sts_get n n j x h with h|⟨h,rfl⟩
 ·rcases nxs_get n n j x h with ⟨rfl,rfl⟩|⟨i,h1,rfl,rfl⟩|⟨i,h1,rfl,rfl⟩
  ·have hb:=bh_in 0 n (by omega)
   refine ⟨fun _=>?_,fun q=>by omega⟩
   rw[R1.fst_hd hb.1 (by omega) (by omega)]
   exact hb.2
  ·exact okT_ref (by unfold nxJ hdJ;omega) (bh_in (i+1) n (by omega))
  ·exact okT_any (by unfold usJ;omega) _
 ·refine ⟨fun _=>by rw[R1.fstI_zero];omega,fun _=>by omega⟩
theorem kokStk (n:Nat) (caps:Array Value) (pk:Nat->Option Obj) (K:List (Nat×Int)) (h:QStk n caps pk K):KOk (mcT n) K:=fun j p hp hn=>by
 obtain ⟨h1,pk0,c,s,sb,rb,hG,hc,hS,hK⟩:=h
 refine sts_ok n hn (j:=j) ?_
 rw[←hK,List.getElem?_map,hp]
 rfl
theorem tplay_in {Ch:Nat->Prop}{Stop:Goroutine->World->Prop}{main:Bool}{S:TS}{v w:World}(s:Nat) (h1:s≤1000) {pk0:Nat->Option Obj}(hG:GF pk0) (hO:Objs v S [] pk0 S [] v) (hlt:∀ b,pk0 b≠none->b<v.heap.size) (p:Option Addr) (n cap:Nat) (hn8:0<n∧n≤8) (hran:S.ran=false) (pc:Nat->Option Addr) (ln cp:Nat->Nat) (hs:∀ k,k<n->∃ sb so,p=some ⟨sb,so,none⟩∧v.cell? ⟨sb,so+k,none⟩=some (.slice (pc k) (ln k) (cp k))) (hln:∀ k,k<n->ln k≤64)
 (cs:List Frame) {bc:Frame} {ac:Act} {ops:Array Oper} {q:Nat} {rest:List Nat} {oc:Oper} {k:List Item} (hoc:ops[q]? = some oc)
 (hvw:Rel zn v w) (hn:Ah Ch v)
 (hk:∀ v' w' (bd:Frame) (ad:Act) (od:Array Oper) (qd:Nat) (rd:List Nat) (oe:Oper) (kd:List Item) (caps:Array Value) (pk:Nat->Option Obj) (S1:TS) (K:List (Nat×Int)),Rel zn v' w'->Ah Ch v'->Objs v S (sts s s) pk S1 K v'->QStk s caps pk K->od[qd]? = some oe ->
   (∀ (Ch:Nat->Prop) (Stop:Goroutine->World->Prop) (w:World) (x:Value),(∀ d,GoesI Tryd.prog main (DT (ScZ zn) Ch) Stop (G (bc.at (ac.put oc.dst (.tuple #[x,I 0])) (.inRegion ops rest :: k)) cs) (w.at d))->GoesI Tryd.prog main (DT (ScZ zn) Ch) Stop (G (bd.at (ad.put oe.dst x) (.inRegion od rd :: kd)) (bc.at ac (.inRegion ops (q :: rest) :: k) :: cs)) w) ->
   GoesI Tryd.prog main (DT (ScZ zn) Ch) Stop (G ((base 37).at { tmps:=#[Pt S.wb 0,.slice p n cap,.func (.func 52) ((mcT s).bn caps) ((mcT s).fr caps)]++Array.replicate 36 undef,defers:=[] } [.code B20]) (bd.at ad (.inRegion od (qd :: rd) :: kd) :: bc.at ac (.inRegion ops (q :: rest) :: k) :: cs)) w') :
 GoesI Tryd.prog main (DT (ScZ zn) Ch) Stop (G ((base 28).at { tmps:=#[Pt S.wb 0,I s,.slice p n cap]++Array.replicate 27 undef,defers:=[] } [.code B28]) (bc.at ac (.inRegion ops (q :: rest) :: k) :: cs)) w:=by
 rw[eB28]
 have hA0:Fl 30 [(0,Pt S.wb 0),(1,I s),(2,.slice p n cap)] { tmps:=#[Pt S.wb 0,I s,.slice p n cap]++Array.replicate 27 undef,defers:=[] }:=by
  simp only[Array.replicate_succ,Array.replicate_zero,List.push_toArray,List.append_toArray,List.nil_append,List.cons_append]
  exact ⟨rfl,rfl,by
   intro p hp
   simp only[List.mem_cons,List.not_mem_nil,or_false] at hp
   rcases hp with rfl|rfl|rfl<;>rfl⟩
 refine Ac (Aa _ _) ?_
 refine Ba (z:=zn) (wr:=true) (L:=LV) (I:=Ah Ch) hE F8 Az (fun v v' w w' es hi hr ho he=>Bq v v' w w' es hi hr ho he) hvw fine_k280 hA0.2.1 (by simp[base]) hn (Q:=fun a w'=>Fl 30 [(0,Pt S.wb 0),(1,I s),(2,.slice p n cap),(6,.slice none 0 0),(7,I 0)] a∧w'.heap=v.heap∧w'.os=v.os∧w'.output=v.output) (fun τ=>k280_wp (v:=Ap v τ 0) hA0) ?_
 rintro a0 v0 w0 ⟨hB0,e0,o0,u0⟩ hr0 hn0 -
 have m0:Mem zn S [] v0:=(hO.cel.mem.grows (v':=v0) ⟨by rw[e0];exact Nat.le_refl _,fun b _=>by rw[e0],o0,u0⟩).mem
 have hs0:∀ τ,∀ k,k<n->∃ sb so,p=some ⟨sb,so,none⟩∧(Ap v0 τ 0).cell? ⟨sb,so+k,none⟩=some (.slice (pc k) (ln k) (cp k)):=fun τ k hk=>by
  obtain ⟨sb,so,h1,h2⟩:=hs k hk
  exact ⟨sb,so,h1,by rw[World.cell?_of_block (w:=v) (w':=Ap v0 τ 0) (by show v0.heap[_]? = _;rw[e0])];exact h2⟩
 refine Ac (Aa _ _) ?_
 refine Ba (z:=zn) (wr:=true) (L:=LV) (I:=Ah Ch) hE F8 Az (fun v v' w w' es hi hr ho he=>Bq v v' w w' es hi hr ho he) hr0 fine_k281 hB0.2.1 (by simp[base]) hn0 (Q:=fun a w'=>Fl 30 [(0,Pt S.wb 0),(1,I s),(2,.slice p n cap),(6,.slice none 0 0),(7,I 0)] a∧w'.heap=v0.heap∧w'.os=v0.os∧w'.output=v0.output) (fun τ=>k281_yes (v:=Ap v0 τ 0) (m0.grows (v':=Ap v0 τ 0) ⟨Nat.le_refl _,fun _ _=>rfl,rfl,rfl⟩).mem.rep pc ln cp (hs0 τ) hln hn8 hran hB0) ?_
 rintro a1 v1 w1 ⟨hB1,e1,o1,u1⟩ hr1 hn1 -
 refine Ac (Aa _ _) ?_
 refine Ba (z:=zn) (wr:=true) (L:=LV) (I:=Ah Ch) hE F8 Az (fun v v' w w' es hi hr ho he=>Bq v v' w w' es hi hr ho he) hr1 fine_k282 hB1.2.1 (by simp[base]) hn1 (Q:=fun a w'=>Fl 30 [(0,Pt S.wb 0),(1,I s),(2,.slice p n cap),(6,.slice none 0 0),(7,I 0)] a∧w'.heap=v1.heap∧w'.os=v1.os∧w'.output=v1.output) (fun τ=>k282_yes (v:=Ap v1 τ 0) (by omega) (by omega) hB1) ?_
 rintro a2 v2 w2 ⟨hB2,e2,o2,u2⟩ hr2 hn2 -
 have e20:v2.heap=v.heap:=e2.trans (e1.trans e0)
 have O2:Objs v2 S [] pk0 S [] v2:=⟨Cel.refl (hO.cel.mem.grows (v':=v2) ⟨by rw[e20];exact Nat.le_refl _,fun b _=>by rw[e20],o2.trans (o1.trans o0),u2.trans (u1.trans u0)⟩).mem,rfl,hO.st,fun b o hb=>by rw[e20];exact hO.has b o hb,fun b hb=>by have:=hO.new b hb;rw[e20];exact this,hO.row⟩
 have hlt2:∀ b,pk0 b≠none->b<v2.heap.size:=fun b hb=>by rw[e20];exact hlt b hb
 obtain ⟨hsz,hd,hpp⟩:=hB2
 obtain ⟨u,rfl,hg⟩:=litN hsz hd
 have u0:=(hg 0).symm.trans (hpp (0,Pt S.wb 0) (by simp))
 have u1:=(hg 1).symm.trans (hpp (1,I s) (by simp))
 have u2:=(hg 2).symm.trans (hpp (2,.slice p n cap) (by simp))
 have u6:=(hg 6).symm.trans (hpp (6,.slice none 0 0) (by simp))
 have u7:=(hg 7).symm.trans (hpp (7,I 0) (by simp))
 clear hg hpp hsz hd
 unfold R28 B28 Tryd.f28 seq2
 simp only[Option.getD_some,lits,Nat.reduceAdd,u0,u1,u2,u6,u7]
 clear u0 u1 u2 u6 u7
 refine Ac (Aa _ _) ?_
 refine Ae (Aa _ _) ?_
 simp only[List.size_toArray,List.length_cons,List.length_nil,Nat.reduceAdd,Nat.zero_add,List.range,List.range.loop]
 iterate 2
  (refine Ad rfl rfl (by decide) (fun d K hK=>?_)
   go_simp
   refine hK _ _ ⟨Af (fun e he=>?_),GoesI.at ?_ d⟩
   ·have hm:=mem_listed he
    simp[go_sem, *] at hm
    try exact ⟨_,_,hm⟩
   clear hK K)
 refine D2 (L:=LV) (f:=49) (fn:=Tryd.f49) (args:=#[Pt S.wb 0,I s]) hE F8 rfl rfl (by decide) rfl (by simp[Act.eval]) Tryd.func49 (by kernel_rfl) rfl (Cc F8 (by simp[LV,plainV]) Tryd.func49 rfl) (fun tmps=>⟨_,fun w=>results_tmp rfl _ _ _,fun w=>by simp[results,go_sem,Tryd.f49]⟩) hr2 hn2
  (R:=fun r v4=>r=Pt (v2.heap.size+1) 0∧∃ S1 K pk',Objs v2 S (sts s s) pk' S1 K v4∧StkN pk0 pk' s (v2.heap.size+1) (v2.heap.size+3) (v2.heap.size+2) v2.heap.size K) (fun τ=>?_) (fun r v4 w4 hR hr4 hn4=>?_)
 ·have Oτ:Objs (Ap v2 τ 0) S [] pk0 S [] (Ap v2 τ 0):=⟨Cel.refl (O2.cel.mem.grows (v':=Ap v2 τ 0) ⟨Nat.le_refl _,fun _ _=>rfl,rfl,rfl⟩).mem,rfl,O2.st,O2.has,O2.new,O2.row⟩
  refine wp_mono (stackNew Oτ (hG.flds Oτ.has) s h1 _ rfl) (Dh fun r u hq=>⟨hq.1,?_⟩)
  obtain ⟨_,S1,K,pk',o,h2⟩:=hq
  exact ⟨S1,K,pk',⟨o.cel.from rfl rfl rfl,o.vals,o.st,o.has,o.new,o.row⟩,h2⟩
 obtain ⟨rfl,S1,K,pk',ob4,hKl⟩:=hR
 have hset:Objs v S (sts s s) pk' S1 K v4 :=
  ⟨ob4.cel.from e20 (o2.trans (o1.trans o0)) (u2.trans (u1.trans u0)),ob4.vals,ob4.st,ob4.has,fun b hb=>by rw[←e20];exact ob4.new b hb,ob4.row⟩
 have hql:QStk s #[Pt (v2.heap.size+1) 0] pk' K:=⟨h1,pk0,_,_,_,_,hG,rfl,hKl,ob4.vals⟩
 clear ob4 hKl hr0 hr1 hr2 hn0 hn1 hn2 e0 e1 e2 e20 o0 o1 o2 u0 u1 u2 hvw hn hs hs0 hln m0 O2 hlt2 hO hlt
 walk_nrm
 iterate 1
  (refine Ad rfl rfl (by decide) (fun d K hK=>?_)
   go_simp
   refine hK _ _ ⟨Af (fun e he=>?_),GoesI.at ?_ d⟩
   ·have hm:=mem_listed he
    simp[go_sem, *] at hm
    try exact ⟨_,_,hm⟩
   clear hK K)
 refine Ab (Aa _ _) ?_
 refine Ac (Aa _ _) ?_
 refine Ae (Aa _ _) ?_
 simp only[List.size_toArray,List.length_cons,List.length_nil,Nat.reduceAdd,Nat.zero_add,List.range,List.range.loop]
 iterate 4
  (refine Ad rfl rfl (by decide) (fun d K hK=>?_)
   go_simp
   refine hK _ _ ⟨Af (fun e he=>?_),GoesI.at ?_ d⟩
   ·have hm:=mem_listed he
    simp[go_sem, *] at hm
    try exact ⟨_,_,hm⟩
   clear hK K)
 refine Ao (f:=37) (fn:=Tryd.f37) (args:=#[Pt S.wb 0,.slice p n cap,.func (.func 52) #[Pt (v2.heap.size+1) 0] #[]]) (Aa _ _) rfl rfl (by decide) rfl (by simp[Act.eval]) Tryd.func37 (by decide) rfl ?_
 refine hk v4 w4 _ _ _ _ _ _ _ _ _ _ _ hr4 hn4 hset hql rfl (fun Ch Stop w x hg=>?_)
 clear hk hset hr4 hn4 hql
 iterate 2
  (refine Ad rfl rfl (by decide) (fun d K hK=>?_)
   go_simp
   refine hK _ _ ⟨Af (fun e he=>?_),GoesI.at ?_ d⟩
   ·have hm:=mem_listed he
    simp[go_sem, *] at hm
    try exact ⟨_,_,hm⟩
   clear hK K)
 refine Ab (Aa _ _) ?_
 refine GoesI.ctl rfl (fun _=>stepG_ret') (Aa _ _) ?_
 refine Cm (b:=base 28) (fn:=Tryd.f28) (v:=.tuple #[x,I 0]) rfl rfl Tryd.func28 (fun w=>?_) (fun w=>by simp[results,go_sem,Tryd.f28]) hoc (Aa _ _) ?_
 ·rw[results_tmp2 (t:=6) (u:=7) rfl]
  simp
 ·have:=hg w.drawn
  exact this
theorem tplay_no {Ch:Nat->Prop}{Stop:Goroutine->World->Prop}{main:Bool}{S:TS}{v w:World}(m:Int) (p:Option Addr) (n cap:Nat) (pc:Nat->Option Addr) (ln cp:Nat->Nat) (hs:∀ k,k<n->∃ sb so,p=some ⟨sb,so,none⟩∧v.cell? ⟨sb,so+k,none⟩=some (.slice (pc k) (ln k) (cp k))) (hn1:n≤17592186043904) (hran:S.ran=false) (hm:Mem zn S [] v)
 {E:Int} (hRe:Refused n ln E∨((∀ k,k<n->ln k≤64)∧(0<n∧n≤8)∧(m<0∨1000<m)∧E=1)) (cs:List Frame) {bc:Frame} {ac:Act} {ops:Array Oper} {q:Nat} {rest:List Nat} {oc:Oper} {k:List Item} (hoc:ops[q]? = some oc)
 (hvw:Rel zn v w) (hn:Ah Ch v)
 (hk:∀ v' w',Rel zn v' w'->Ah Ch v'->v'.heap=v.heap->v'.os=v.os->v'.output=v.output->GoesI Tryd.prog main (DT (ScZ zn) Ch) Stop (G (bc.at (ac.put oc.dst (.tuple #[.slice none 0 0,I E])) (.inRegion ops rest :: k)) cs) w') :
 GoesI Tryd.prog main (DT (ScZ zn) Ch) Stop (G ((base 28).at { tmps:=#[Pt S.wb 0,I m,.slice p n cap]++Array.replicate 27 undef,defers:=[] } [.code B28]) (bc.at ac (.inRegion ops (q :: rest) :: k) :: cs)) w:=by
 rw[eB28]
 have hA0:Fl 30 [(0,Pt S.wb 0),(1,I m),(2,.slice p n cap)] { tmps:=#[Pt S.wb 0,I m,.slice p n cap]++Array.replicate 27 undef,defers:=[] }:=by
  simp only[Array.replicate_succ,Array.replicate_zero,List.push_toArray,List.append_toArray,List.nil_append,List.cons_append]
  exact ⟨rfl,rfl,by
   intro p hp
   simp only[List.mem_cons,List.not_mem_nil,or_false] at hp
   rcases hp with rfl|rfl|rfl<;>rfl⟩
 refine Ac (Aa _ _) ?_
 refine Ba (z:=zn) (wr:=true) (L:=LV) (I:=Ah Ch) hE F8 Az (fun v v' w w' es hi hr ho he=>Bq v v' w w' es hi hr ho he) hvw fine_k280 hA0.2.1 (by simp[base]) hn (Q:=fun a w'=>Fl 30 [(0,Pt S.wb 0),(1,I m),(2,.slice p n cap),(6,.slice none 0 0),(7,I 0)] a∧w'.heap=v.heap∧w'.os=v.os∧w'.output=v.output) (fun τ=>k280_wp (v:=Ap v τ 0) hA0) ?_
 rintro a0 v0 w0 ⟨hB0,e0,o0,u0⟩ hr0 hn0 -
 have m0:Mem zn S [] v0:=(hm.grows (v':=v0) ⟨by rw[e0];exact Nat.le_refl _,fun b _=>by rw[e0],o0,u0⟩).mem
 have hs0:∀ τ,∀ k,k<n->∃ sb so,p=some ⟨sb,so,none⟩∧(Ap v0 τ 0).cell? ⟨sb,so+k,none⟩=some (.slice (pc k) (ln k) (cp k)):=fun τ k hk=>by
  obtain ⟨sb,so,h1,h2⟩:=hs k hk
  exact ⟨sb,so,h1,by rw[World.cell?_of_block (w:=v) (w':=Ap v0 τ 0) (by show v0.heap[_]? = _;rw[e0])];exact h2⟩
 refine Ac (Aa _ _) ?_
 rcases hRe with hRe|⟨hE1,hE2,hE3,rfl⟩
 ·refine G0 (c:=k281) (f:=28) (fn:=Tryd.f28) (L:=LV) hE F8 hr0 hn0 Tryd.func28 fine_k281 hB0.2.1 hoc (R:=fun r w'=>r=.tuple #[.slice none 0 0,I E]∧w'.heap=v0.heap∧w'.os=v0.os∧w'.output=v0.output) (fun τ=>k281_no (v:=Ap v0 τ 0) (m0.grows (v':=Ap v0 τ 0) ⟨Nat.le_refl _,fun _ _=>rfl,rfl,rfl⟩).mem.rep pc ln cp (hs0 τ) hn1 hran hRe hB0) (fun r v' w' hR hr' hn'=>?_)
  obtain ⟨rfl,h1,h2,h3⟩:=hR
  exact hk v' w' hr' hn' (h1.trans e0) (h2.trans o0) (h3.trans u0)
 ·refine Ba (z:=zn) (wr:=true) (L:=LV) (I:=Ah Ch) hE F8 Az (fun v v' w w' es hi hr ho he=>Bq v v' w w' es hi hr ho he) hr0 fine_k281 hB0.2.1 (by simp[base]) hn0 (Q:=fun a w'=>Fl 30 [(0,Pt S.wb 0),(1,I m),(2,.slice p n cap),(6,.slice none 0 0),(7,I 0)] a∧w'.heap=v0.heap∧w'.os=v0.os∧w'.output=v0.output) (fun τ=>k281_yes (v:=Ap v0 τ 0) (m0.grows (v':=Ap v0 τ 0) ⟨Nat.le_refl _,fun _ _=>rfl,rfl,rfl⟩).mem.rep pc ln cp (hs0 τ) hE1 hE2 hran hB0) ?_
  rintro a1 v1 w1 ⟨hB1,e1,o1,u1⟩ hr1 hn1 -
  refine Ac (Aa _ _) ?_
  refine G0 (c:=k282) (f:=28) (fn:=Tryd.f28) (L:=LV) hE F8 hr1 hn1 Tryd.func28 fine_k282 hB1.2.1 hoc (R:=fun r w'=>r=.tuple #[.slice none 0 0,I 1]∧w'.heap=v1.heap∧w'.os=v1.os∧w'.output=v1.output) (fun τ=>hE3.elim (fun h=>k282_no1 (v:=Ap v1 τ 0) h hB1) (fun h=>k282_no2 (v:=Ap v1 τ 0) h hB1)) (fun r v' w' hR hr' hn'=>?_)
  obtain ⟨rfl,h1,h2,h3⟩:=hR
  exact hk v' w' hr' hn' (h1.trans (e1.trans e0)) (h2.trans (o1.trans o0)) (h3.trans (u1.trans u0))
section
variable {S:TS}{n sb so cap:Nat}{pc:Nat->Option Addr}{ln cp rb:Nat->Nat}{cl:Nat->List Cl}
theorem tplay_all (s:Nat) (h1:s≤1000) {cs:List Frame}{bc:Frame}{ac:Act}{ops:Array Oper}{q0:Nat}{rest:List Nat}{oc:Oper}{k0:List Item}(hoc:ops[q0]? = some oc) {w:World}{T:Trace}{gs:Array Goroutine}{q:Nat->Nat}(sl:Option (Nat×Nat)) (NT:Nat) (A:Alone gs w T q)
 (hg:gs[0]? = some (G ((base 28).at { tmps:=#[Pt S.wb 0,I s,.slice (some ⟨sb,so,none⟩) n cap]++Array.replicate 27 undef,defers:=[] } [.code B28]) (bc.at ac (.inRegion ops (q0 :: rest) :: k0) :: cs)))
 (hm:Mem zn S [] w) (hthr:S.thr=[]) (hran:S.ran=false) (hch:S.chg=[]) (hbk:Open w S.bk) {pk0:Nat->Option Obj} (hG:GF pk0) (hpk:Has pk0 w) (hpf:∀ b,pk0 b≠none->¬ Own S [] b∧b≠S.bk) (hpr:∀ b o,pk0 b=some o->∃ c e f,o=.cells c e f) (t:Asked w S n sb so pc ln cp rb cl) (hn8:0<n∧n≤8)
 (hlen:∀ caps pk N K,S.n+2*lens (scrs (mcT s) 52 caps pk N n K pc ln cp rb cl)≤1000000) (hsl:S.sched.length≤4611686018427387904) (hsc:∀ x∈S.sched,-9223372036854775808≤x∧x<9223372036854775808) (l0:Nat->Ph)
 (hturn:∀ (caps:Array Value) (pk:Nat->Option Obj) (N:Nat) (cv:Value) (K:List (Nat×Int)),K.map (·.2)=sts s s->∀ S1 l1,Hires (mcT s) 0 (scrs (mcT s) 52 caps pk N n K pc ln cp rb cl) (nv { Iy S cv (sts s s).length with ran:=true }) l0 S1 l1->∃ m p',m≤NT∧Turns (mcT s) m ⟨S1,K,l1⟩ p'∧p'.S.n*40≤140737488355328) :
 ∃ (N':Nat) (gs':Array Goroutine) (w':World) (sl':Option (Nat×Nat)) (T':Trace) (q':Nat->Nat) (caps:Array Value) (pk:Nat->Option Obj) (N:Nat) (cv:Value) (K:List (Nat×Int)) (S':TS) (S1:TS) (l1:Nat->Ph) (m:Nat) (p':PSt),
   runNT Tryd.prog N' (crowd gs w sl) T=(.next (crowd gs' w' sl'),T')∧gs'.size=gs.size+n∧gs'[0]? = some (G (bc.at (ac.put oc.dst (.tuple #[.slice (some ⟨N+1,0,none⟩) n n,I 0])) (.inRegion ops rest :: k0)) cs) ∧
   Alone gs' w' T' q'∧K.map (·.2)=sts s s∧nv S'=p'.S∧Hires (mcT s) 0 (scrs (mcT s) 52 caps pk N n K pc ln cp rb cl) (nv { Iy S cv (sts s s).length with ran:=true }) l0 S1 l1∧Turns (mcT s) m ⟨S1,K,l1⟩ p'∧GOut w S n ln N S' p'.K p'.l w':=by
 refine gplay_all (xs:=sts s s) (cap:=cap) (q0:=q0) (pkgT s) (mineStk s) (kokStk s) sl NT A hg ?_ hm hthr hran hbk t hn8 hlen hsl hsc l0 hturn
 exact tplay_in s h1 hG (Objs.startG hm hch hpk hpf hpr) (fun b hb=>by
  obtain ⟨o,ho⟩:=Option.ne_none_iff_exists'.1 hb
  exact (Array.getElem?_eq_some_iff.1 (hpk b o ho)).1) (some ⟨sb,so,none⟩) n cap hn8 hran pc ln cp (fun k hk=>⟨sb,so,rfl,t.row k hk⟩) (fun k hk=>(t.len k hk).2) cs hoc (Rel.refl w) (fun c hc=>hc.elim)
  (fun v' w' bd ad od qd rd oe kd caps pk S1 K hr hn ho hq hoe hback=>GoesI.stop fun d=>⟨bd,ad,od,qd,rd,oe,kd,caps,pk,S1,K,ho.same hr.eq hr.os hr.output,hq,hoe,hback,rfl⟩)
end
def levT (q:Q):Nat :=
 match q.1 with
 |1=>6|2=>6|3=>6|4=>5|5=>4|6=>3|7=>3|8=>3
 |11=>6|12=>6|13=>6|14=>5|15=>4|16=>3|17=>3|18=>3
 |_=>0
def wsT (n:Nat) (q:Q) (f:Nat->Int):Nat :=
 let a:=q.2.getD 0 0
 let b:=q.2.getD 1 0
 let c:=q.2.getD 2 0
 match q.1 with
 |1=>3|2=>if f 0=b then 2 else 5|3=>if f 0=b then 1 else 4
 |6=>3|7=>if f (hdJ n)=b then 2 else 5|8=>if f (hdJ n)=b then 1 else 4
 |11=>3|12=>if f (hdJ n)=a then 2 else 5|13=>if f (hdJ n)=a then 1 else 4
 |16=>3|17=>if f 0=c then 2 else 5|18=>if f 0=c then 1 else 4
 |_=>0
theorem wsT_of {n:Nat}{f f':Nat->Int}(h0:f' 0=f 0) (h1:f' (hdJ n)=f (hdJ n)) (q:Q):wsT n q f'=wsT n q f:=by
 unfold wsT
 simp only[h0,h1]
theorem upd_far {f:Nat->Int}{j k:Nat}{x:Int}(h:k≠j):Mw.updF f j x k=f k:=if_neg h
theorem upd_id {f:Nat->Int}{j:Nat}:Mw.updF f j (f j)=f:=by
 funext k
 unfold Mw.updF
 split
 ·rename_i e;rw[e]
 ·rfl
theorem atT_cells {n:Nat}{q:Q}{j:Nat}(h:atT n q j):j<4*n+2:=by
 unfold atT at h
 simp only at h
 split at h<;>(try simp only[nxJ,usJ,hdJ,vlJ,lkJ,slI,D8] at h)<;>first|omega|exact h.elim
theorem atT_lev {n:Nat}{q:Q}{j:Nat}(h:atT n q j):1≤levT q∧levT q≤6:=by
 unfold atT at h
 unfold levT
 simp only at h
 split at h<;>rename_i e<;>first|exact h.elim|(rw[e];exact ⟨by decide,by decide⟩)
theorem wsT_le (n:Nat) (q:Q) (f:Nat->Int):wsT n q f≤5:=by
 unfold wsT
 simp only
 split<;>(try split)<;>omega
theorem turnT_pro {n:Nat}(q:Q) (j:Nat) (f:Nat->Int) (ha:atT n q j) (hok:okT n j (f j)):Mw.nlev levT (Ai n q (f j)).2.2<levT q∨∃ op j' q',(Ai n q (f j)).2.2=.turn op j' q'∧levT q'=levT q∧wsT n q' (Mw.updF f j (Ai n q (f j)).2.1)+1≤wsT n q f∧∀ q'',wsT n q'' (Mw.updF f j (Ai n q (f j)).2.1)=wsT n q'' f:=by
 obtain ⟨k,l⟩:=q
 unfold atT at ha
 simp only at ha
 generalize e0:l.getD 0 0=a at ha
 generalize e1:l.getD 1 0=b at ha
 generalize e2:l.getD 2 0=c at ha
 have e0':l[0]?.getD 0=a:=by simpa using e0
 have e1':l[1]?.getD 0=b:=by simpa using e1
 have e2':l[2]?.getD 0=c:=by simpa using e2
 have id_:∀ q'':Q,wsT n q'' (Mw.updF f j (f j))=wsT n q'' f:=fun q''=>by rw[upd_id]
 split at ha
 ·subst ha
  by_cases h0:fstI (f 0)=0
  ·left
   simp[Ai,same,h0,Mw.nlev,levT]
  ·right
   refine ⟨1,nxJ (slI (f 0)),(2,[a,f 0]),by simp[Ai,same,h0,e0'],rfl,?_,id_⟩
   show wsT n (2,[a,f 0]) (Mw.updF f 0 (f 0))+1≤_
   rw[id_]
   simp[wsT]
 ·right
  refine ⟨4,0,(3,[a,b,f j]),by simp[Ai,same,e0',e1'],rfl,?_,id_⟩
  show wsT n (3,[a,b,f j]) (Mw.updF f j (f j))+1≤_
  rw[id_]
  simp only[wsT,e1,List.getD_cons_succ,List.getD_cons_zero]
  split<;>omega
 ·obtain ⟨_,_,_,_,rfl⟩:=ha
  by_cases hx:f 0=b
  ·left
   simp[Ai,put_,e1',hx,Mw.nlev,levT]
  ·right
   have e:Ai n (3,l) (f 0)=same (f 0) (.turn 1 0 (1,[a])):=by simp[Ai,e0',e1',hx]
   rw[e]
   refine ⟨1,0,(1,[a]),rfl,rfl,?_,id_⟩
   show wsT n (1,[a]) (Mw.updF f 0 (f 0))+1≤_
   rw[id_]
   simp[wsT,e1',hx]
 ·left
  simp[Ai,put_,Mw.nlev,levT]
 ·left
  simp[Ai,put_,Mw.nlev,levT]
 ·obtain ⟨_,rfl⟩:=ha
  right
  refine ⟨2,lkJ n a.toNat,(7,[a,f (hdJ n)]),by simp[Ai,same,e0'],rfl,?_,id_⟩
  show wsT n (7,[a,f (hdJ n)]) (Mw.updF f (hdJ n) (f (hdJ n)))+1≤_
  rw[id_]
  simp[wsT]
 ·obtain ⟨_,_,rfl⟩:=ha
  right
  have g0:∀ x,Mw.updF f (lkJ n a.toNat) x 0=f 0:=fun x=>upd_far (by unfold lkJ;omega)
  have g1:∀ x,Mw.updF f (lkJ n a.toNat) x (hdJ n)=f (hdJ n):=fun x=>upd_far (by unfold lkJ hdJ;omega)
  have g:∀ x q'',wsT n q'' (Mw.updF f (lkJ n a.toNat) x)=wsT n q'' f:=fun x q''=>wsT_of (g0 x) (g1 x) q''
  refine ⟨4,hdJ n,(8,[a,b]),by simp[Ai,put_,e0',e1'],rfl,?_,g _⟩
  rw[g]
  simp only[wsT,e1,List.getD_cons_succ,List.getD_cons_zero]
  split<;>omega
 ·obtain ⟨_,rfl⟩:=ha
  by_cases hx:f (hdJ n)=b
  ·left
   simp[Ai,put_,e1',hx,Mw.nlev,levT]
  ·right
   have e:Ai n (8,l) (f (hdJ n))=same (f (hdJ n)) (.turn 1 (hdJ n) (6,[a])):=by simp[Ai,e0',e1',hx]
   rw[e]
   refine ⟨1,hdJ n,(6,[a]),rfl,rfl,?_,id_⟩
   show wsT n (6,[a]) (Mw.updF f (hdJ n) (f (hdJ n)))+1≤_
   rw[id_]
   simp[wsT,e1',hx]
 ·subst ha
  by_cases h0:fstI (f (hdJ n))=0
  ·left
   simp[Ai,same,h0,Mw.nlev,levT]
  ·right
   refine ⟨1,lkJ n (slI (f (hdJ n))),(12,[f (hdJ n)]),by simp[Ai,same,h0],rfl,?_,id_⟩
   show wsT n (12,[f (hdJ n)]) (Mw.updF f (hdJ n) (f (hdJ n)))+1≤_
   rw[id_]
   simp[wsT]
 ·right
  refine ⟨4,hdJ n,(13,[a,f j]),by simp[Ai,same,e0'],rfl,?_,id_⟩
  show wsT n (13,[a,f j]) (Mw.updF f j (f j))+1≤_
  rw[id_]
  simp only[wsT,e0,List.getD_cons_succ,List.getD_cons_zero]
  split<;>omega
 ·obtain ⟨_,_,_,_,rfl⟩:=ha
  by_cases hx:f (hdJ n)=a
  ·left
   simp[Ai,put_,e0',hx,Mw.nlev,levT]
  ·right
   have e:Ai n (13,l) (f (hdJ n))=same (f (hdJ n)) (.turn 1 (hdJ n) (11,[])):=by simp[Ai,e0',hx]
   rw[e]
   refine ⟨1,hdJ n,(11,[]),rfl,rfl,?_,id_⟩
   show wsT n (11,[]) (Mw.updF f (hdJ n) (f (hdJ n)))+1≤_
   rw[id_]
   simp[wsT,e0',hx]
 ·left
  simp[Ai,same,Mw.nlev,levT]
 ·by_cases hx:f j=1
  ·left
   simp[Ai,put_,hx,Mw.nlev,levT]
  ·left
   simp[Ai,same,hx,Mw.nlev,levT]
 ·obtain ⟨_,rfl⟩:=ha
  right
  refine ⟨2,nxJ a.toNat,(17,[a,b,f 0]),by simp[Ai,same,e0',e1'],rfl,?_,id_⟩
  show wsT n (17,[a,b,f 0]) (Mw.updF f 0 (f 0))+1≤_
  rw[id_]
  simp[wsT]
 ·obtain ⟨hs,_,rfl⟩:=ha
  right
  have g0:∀ x,Mw.updF f (nxJ a.toNat) x 0=f 0:=fun x=>upd_far (by unfold nxJ;omega)
  have g1:∀ x,Mw.updF f (nxJ a.toNat) x (hdJ n)=f (hdJ n):=fun x=>upd_far (by unfold D8 at hs;unfold nxJ hdJ;omega)
  have g:∀ x q'',wsT n q'' (Mw.updF f (nxJ a.toNat) x)=wsT n q'' f:=fun x q''=>wsT_of (g0 x) (g1 x) q''
  refine ⟨4,0,(18,[a,b,c]),by simp[Ai,put_,e0',e1',e2'],rfl,?_,g _⟩
  rw[g]
  simp only[wsT,e2,List.getD_cons_succ,List.getD_cons_zero]
  split<;>omega
 ·obtain ⟨_,rfl⟩:=ha
  by_cases hx:f 0=c
  ·left
   simp[Ai,put_,e2',hx,Mw.nlev,levT]
  ·right
   have e:Ai n (18,l) (f 0)=same (f 0) (.turn 1 0 (16,[a,b])):=by simp[Ai,e0',e1',e2',hx]
   rw[e]
   refine ⟨1,0,(16,[a,b]),rfl,rfl,?_,id_⟩
   show wsT n (16,[a,b]) (Mw.updF f 0 (f 0))+1≤_
   rw[id_]
   simp[wsT,e2',hx]
 ·exact ha.elim
theorem turnT_nw {n:Nat}(q:Q) (x:Int) (j:Nat) (q':Q):(Ai n q x).2.2≠.wait j q':=by
 intro h
 unfold Ai at h
 simp only[same,put_] at h
 repeat (split at h<;>try cases h)
def metT (n:Nat) (hn:n≤1000):Mw.Met (mcT n) where
 L:=6
 hL:=by decide
 lev:=levT
 ws:=wsT n
 ws_le:=wsT_le n
 nts _ _:=rfl
 nw i c j q h:=by
  have h:(if c.po=1 then Nx.turn 1 0 (1,[c.ca]) else if c.po=2 then .turn 1 (hdJ n) (11,[]) else .ans 1 0)=.wait j q:=h
  split at h
  ·cases h
  ·split at h<;>cases h
 nwt:=turnT_nw
 lev1 q j h:=atT_lev (h hn)
 turn q j f ha hok:=turnT_pro q j f (ha hn) (hok hn)
theorem cells_T {n:Nat}(hn:n≤1000) {K:List (Nat×Int)}(hK:K.map (·.2)=sts n n):Mw.Cells (mc:=mcT n) K.length:=fun q j h=>by
 have hl:K.length=2*n+2+2*n:=by have:=congrArg List.length hK;rw[List.length_map,Fb] at this;exact this
 have:=atT_cells (h hn)
 omega
theorem kok_T {n:Nat}{K:List (Nat×Int)}(hK:K.map (·.2)=sts n n):KOk (mcT n) K:=fun j p hp hn=>by
 refine sts_ok n hn (j:=j) ?_
 rw[←hK,List.getElem?_map,hp]
 rfl
end Go.Proofs.YtbbhahigofeacaaDoor.Gen
namespace Go.Proofs.YtbbhahigofeacaaDoor.Gen
open Go Go.Lift Go.Conc Go.RowKit
open R1 (fstI verI hdI)
open Go.ConcN (upd upd_same upd_ne)
def sh (x:Int):Int:=x / 4294967296
theorem hd_low {f v:Int}(f0:0≤f) (f1:f<4294967296) (v0:0≤v):0≤hdI f v∧hdI f v<4611686018427387904:=by
 have hF:=R1.hdI_fits f v
 have h:Pl.getI (hdI f v) 62 2=0:=by
  rw[R1.hd_eq f0 f1 v0,R1.getI_far _ _ (by omega) (by omega) (by omega) (by omega),R1.getI_far _ _ (by omega) (by omega) (by omega) (by omega)]
  decide
 unfold Pl.getI at h
 unfold Pl.Fits at hF
 have h:hdI f v / 4611686018427387904 % 4=0:=h
 omega
theorem sh_hd {f v:Int}(f0:0≤f) (f1:f<4294967296) (v0:0≤v) (v1:v<1073741824):sh (hdI f v)=v:=by
 have h:=hd_low f0 f1 v0
 have hv:=R1.ver_hd f0 f1 v0
 rw[Int.tmod_eq_emod_of_nonneg v0,Int.emod_eq_of_lt v0 v1] at hv
 unfold verI Pl.getI at hv
 have hv:hdI f v / 4294967296 % 1073741824=v:=hv
 unfold sh
 omega
structure VR where
 now:Int
 ch:Nat
 seen:Nat->Int
 chd:Nat->Nat
def vr0:VR:=⟨0,0,fun _=>0,fun _=>0⟩
def D7 (hd:Nat) (r:VR) (s:Stp):VR :=
 if s.ce=(hd:Int)∧s.op≤5 then (if s.op=1 then ⟨r.now,r.ch,upd r.seen s.th.toNat s.ne,upd r.chd s.th.toNat r.ch⟩ else ⟨s.ne,if s.ol=s.ne then r.ch else r.ch+1,r.seen,r.chd⟩) else r
def vok (hd N:Nat) (r:VR) (s:Stp):Prop:=s.ce=(hd:Int)->s.op≤5->0≤s.th∧s.th<N∧s.ol=r.now∧(s.op=1∨(s.op=4∧(s.ol≠s.ne↔r.chd s.th.toNat=r.ch)∧(s.ol≠s.ne->s.ol=r.seen s.th.toNat∧sh s.ne=sh s.ol+1∧0≤s.ol∧s.ol<4611686018427387904)))
def vrun (hd:Nat) (r:VR) (L:List Stp):VR:=L.foldl (D7 hd) r
def vall (hd N:Nat):VR->List Stp->Prop
 |_,[]=>True
 |r,s :: L=>vok hd N r s∧vall hd N (D7 hd r s) L
theorem vrun_app (hd:Nat) (r:VR) (A B:List Stp):vrun hd r (A++B)=vrun hd (vrun hd r A) B:=List.foldl_append
theorem vall_app (hd N:Nat):∀ (A:List Stp) (r:VR) (B:List Stp),vall hd N r A->vall hd N (vrun hd r A) B->vall hd N r (A++B)
 | [],r,B,_,h=>h
 |s :: A,r,B,h,k=>⟨h.1,vall_app hd N A (D7 hd r s) B h.2 k⟩
theorem v_notes {hd N:Nat}:∀ (X:List Stp) (r:VR),(∀ s∈X,s.ce=-1)->vrun hd r X=r∧vall hd N r X
 | [],r,_=>⟨rfl,trivial⟩
 |s :: X,r,h=>by
  have h0:=h s (by simp)
  have hs:D7 hd r s=r:=by unfold D7;rw[if_neg (by omega)]
  have:=v_notes (hd:=hd) (N:=N) X r (fun s hs=>h s (by simp[hs]))
  refine ⟨?_,fun h1=>?_,?_⟩
  ·show vrun hd (D7 hd r s) X=r
   rw[hs];exact this.1
  ·omega
  ·rw[hs];exact this.2
def opT (q:Q):Int :=
 match q.1 with
 |1=>1|2=>1|3=>4|4=>2|5=>2|6=>1|7=>2|8=>4
 |11=>1|12=>1|13=>4|14=>1|15=>4|16=>1|17=>2|18=>4
 |_=>0
theorem turn_op {n:Nat}{q:Q}{x:Int}{op:Int}{j:Nat}{q':Q}(h:(Ai n q x).2.2=.turn op j q'):op=opT q':=by
 unfold Ai at h
 simp only[same,put_] at h
 repeat (split at h<;>try (cases h<;>try rfl))
structure Hold (r:VR) (i:Nat) (x:Int):Prop where
 seen:r.seen i=x
 ver:sh x=r.chd i
 now:r.chd i=r.ch->x=r.now
 le:r.chd i≤r.ch
def SeatV (r:VR) (i:Nat):Ph->Prop
 |.turn op _ q _ _ _=>op=opT q∧((q.1=7∨q.1=8)->Hold r i (q.2.getD 1 0))∧((q.1=12∨q.1=13)->Hold r i (q.2.getD 0 0))
 |_=>True
structure VI (N n:Nat) (v:Vw):Prop where
 all:vall (hdJ n) N vr0 v.L
 len:hdJ n<v.K.length
 now:(vrun (hdJ n) vr0 v.L).now=v.K.getD (hdJ n) 0
 ver:sh (v.K.getD (hdJ n) 0)=((vrun (hdJ n) vr0 v.L).ch:Int)
 low:0≤v.K.getD (hdJ n) 0∧v.K.getD (hdJ n) 0<4611686018427387904
 le:(vrun (hdJ n) vr0 v.L).ch≤v.L.length
 sit:∀ i,i<N->SeatV (vrun (hdJ n) vr0 v.L) i (v.l i)
theorem start_seat {n:Nat}{i:Nat}{c:Cl}{stk:Bool}{op:Int}{j:Nat}{q:Q}(h:(mcT n).set stk ((mcT n).start i c)=.turn op j q) (r:VR) (k:Nat) (r1:List Cl) (k1:Nat) (a1:List (Int×Int)):SeatV r k (.turn op j q r1 k1 a1):=by
 have e:(mcT n).start i c=if c.po=1 then .turn 1 0 (1,[c.ca]) else if c.po=2 then .turn 1 (hdJ n) (11,[]) else .ans 1 0:=rfl
 rw[e] at h
 by_cases h1:c.po=1
 ·rw[if_pos h1] at h
  cases h
  exact ⟨rfl,(fun h=>by (rcases h with h|h<;>cases h)),(fun h=>by (rcases h with h|h<;>cases h))⟩
 ·rw[if_neg h1] at h
  by_cases h2:c.po=2
  ·rw[if_pos h2] at h
   cases h
   exact ⟨rfl,(fun h=>by (rcases h with h|h<;>cases h)),(fun h=>by (rcases h with h|h<;>cases h))⟩
  ·rw[if_neg h2] at h
   cases h
theorem vi_turn {N n:Nat}{v v1:Vw}(h:VI N n v) {i:Nat}(hi:i<N) {op:Int}{j:Nat}{rest:List Cl}{ii:Nat}{ans:List (Int×Int)}{X:List Stp}{l':Ph}{o y:Int}{nx:Nx}{stk:Bool}
 (hon:On (mcT n) i stk rest ii ans nx X l') (els:Els i l' v v1) (hK:v1.K=v.K.set j y) (hL:v1.L=v.L++(⟨i,j,op,o,y⟩:Stp) :: X)
 (hok:vok (hdJ n) N (vrun (hdJ n) vr0 v.L) ⟨i,j,op,o,y⟩) (hnow:(D7 (hdJ n) (vrun (hdJ n) vr0 v.L) ⟨i,j,op,o,y⟩).now=(v.K.set j y).getD (hdJ n) 0)
 (hver:sh ((v.K.set j y).getD (hdJ n) 0)=((D7 (hdJ n) (vrun (hdJ n) vr0 v.L) ⟨i,j,op,o,y⟩).ch:Int)) (hlow:0≤(v.K.set j y).getD (hdJ n) 0∧(v.K.set j y).getD (hdJ n) 0<4611686018427387904)
 (hoth:∀ k,k<N->k≠i->∀ l,SeatV (vrun (hdJ n) vr0 v.L) k l->SeatV (D7 (hdJ n) (vrun (hdJ n) vr0 v.L) ⟨i,j,op,o,y⟩) k l)
 (hown:∀ op' j' q',nx=.turn op' j' q'->∀ r1 k1 a1,SeatV (D7 (hdJ n) (vrun (hdJ n) vr0 v.L) ⟨i,j,op,o,y⟩) i (.turn op' j' q' r1 k1 a1)) (hnw:∀ j' q',nx≠.wait j' q'):VI N n v1:=by
 obtain ⟨hX,hl'⟩:=on_notes hon
 have hr:vrun (hdJ n) vr0 v1.L=D7 (hdJ n) (vrun (hdJ n) vr0 v.L) ⟨i,j,op,o,y⟩:=by
  rw[hL,vrun_app]
  show vrun (hdJ n) (D7 _ _ _) X=_
  exact (v_notes (N:=N) X _ hX).1
 have hch:(D7 (hdJ n) (vrun (hdJ n) vr0 v.L) ⟨i,j,op,o,y⟩).ch≤(vrun (hdJ n) vr0 v.L).ch+1:=by
  unfold D7
  split
  ·split
   ·exact Nat.le_succ _
   ·show (if o=y then (vrun (hdJ n) vr0 v.L).ch else (vrun (hdJ n) vr0 v.L).ch+1)≤(vrun (hdJ n) vr0 v.L).ch+1
    split<;>omega
  ·exact Nat.le_succ _
 refine ⟨?_,?_,?_,?_,?_,?_,fun k hk=>?_⟩
 ·rw[hL]
  exact vall_app _ _ _ _ _ h.all ⟨hok,(v_notes (N:=N) X _ hX).2⟩
 ·rw[hK,List.length_set];exact h.len
 ·rw[hr,hK];exact hnow
 ·rw[hr,hK];exact hver
 ·rw[hK];exact hlow
 ·rw[hr,hL]
  have:=h.le
  simp only[List.length_append,List.length_cons]
  omega
 ·rw[hr,els.l]
  by_cases e:k=i
  ·subst e
   rw[upd_same]
   rcases hl' with ⟨a,rfl⟩|⟨op',j',q',r1,k1,a1,h1,rfl⟩|⟨j',q',r1,k1,a1,h1,rfl⟩
   ·trivial
   ·rcases h1 with h1|⟨c,h1⟩
    ·exact hown op' j' q' h1 r1 k1 a1
    ·exact start_seat h1 _ _ _ _ _
   ·trivial
  ·rw[upd_ne _ _ e]
   exact hoth k hk e _ (h.sit k hk)
theorem turn_old {n:Nat}(q:Q) (x:Int):(Ai n q x).1=(x,(Ai n q x).2.1):=by
 unfold Ai
 simp only
 split<;>first|rfl|(split<;>rfl)
theorem vstep_far {hd:Nat}{r:VR}{s:Stp}(h:s.ce≠(hd:Int)):D7 hd r s=r:=by unfold D7;rw[if_neg (fun e=>h e.1)]
theorem getD_set_far {K:List Int}{j k:Nat}{y:Int}(h:k≠j):(K.set j y).getD k 0=K.getD k 0:=by
 rw[List.getD_eq_getElem?_getD,List.getD_eq_getElem?_getD,List.getElem?_set,if_neg (fun e=>h e.symm)]
theorem G7 {K:List Int}{j:Nat}{y:Int}(h:j<K.length):(K.set j y).getD j 0=y:=by
 rw[List.getD_eq_getElem?_getD,List.getElem?_set,if_pos rfl,if_pos h]
 rfl
structure Tn (N n:Nat) (v v1:Vw) (i:Nat) (op:Int) (j:Nat) (y:Int) (nx:Nx):Prop where
 hi:i<N
 on:∃ stk rest ii ans X l',On (mcT n) i stk rest ii ans nx X l'∧Els i l' v v1∧v1.L=v.L++(⟨i,j,op,v.K.getD j 0,y⟩:Stp) :: X
 K:v1.K=v.K.set j y
 nw:∀ j' q',nx≠.wait j' q'
section
variable {N n:Nat}{v v1:Vw}{i:Nat}{op:Int}{j:Nat}{y:Int}{nx:Nx}
theorem Tn.go (h:VI N n v) (t:Tn N n v v1 i op j y nx) (hok:vok (hdJ n) N (vrun (hdJ n) vr0 v.L) ⟨i,j,op,v.K.getD j 0,y⟩) (hnow:(D7 (hdJ n) (vrun (hdJ n) vr0 v.L) ⟨i,j,op,v.K.getD j 0,y⟩).now=(v.K.set j y).getD (hdJ n) 0)
 (hver:sh ((v.K.set j y).getD (hdJ n) 0)=((D7 (hdJ n) (vrun (hdJ n) vr0 v.L) ⟨i,j,op,v.K.getD j 0,y⟩).ch:Int)) (hlow:0≤(v.K.set j y).getD (hdJ n) 0∧(v.K.set j y).getD (hdJ n) 0<4611686018427387904)
 (hoth:∀ k,k<N->k≠i->∀ l,SeatV (vrun (hdJ n) vr0 v.L) k l->SeatV (D7 (hdJ n) (vrun (hdJ n) vr0 v.L) ⟨i,j,op,v.K.getD j 0,y⟩) k l)
 (hown:∀ op' j' q',nx=.turn op' j' q'->∀ r1 k1 a1,SeatV (D7 (hdJ n) (vrun (hdJ n) vr0 v.L) ⟨i,j,op,v.K.getD j 0,y⟩) i (.turn op' j' q' r1 k1 a1)):VI N n v1:=by
 obtain ⟨stk,rest,ii,ans,X,l',hon,els,hL⟩:=t.on
 exact vi_turn h t.hi hon els t.K hL hok hnow hver hlow hoth hown t.nw
theorem Tn.far (h:VI N n v) (t:Tn N n v v1 i op j y nx) (hj:j≠hdJ n) (hown:∀ op' j' q',nx=.turn op' j' q'->op'=opT q'∧((q'.1=7∨q'.1=8)->Hold (vrun (hdJ n) vr0 v.L) i (q'.2.getD 1 0))∧((q'.1=12∨q'.1=13)->Hold (vrun (hdJ n) vr0 v.L) i (q'.2.getD 0 0))):VI N n v1:=by
 have hs:D7 (hdJ n) (vrun (hdJ n) vr0 v.L) ⟨i,j,op,v.K.getD j 0,y⟩=vrun (hdJ n) vr0 v.L:=vstep_far (by show (j:Int)≠(hdJ n:Int);omega)
 have hg:(v.K.set j y).getD (hdJ n) 0=v.K.getD (hdJ n) 0:=getD_set_far (fun e=>hj e.symm)
 refine t.go h (fun e=>?_) (by rw[hs,hg];exact h.now) (by rw[hs,hg];exact h.ver) (by rw[hg];exact h.low) (fun k _ _ l hl=>by rw[hs];exact hl) (fun op' j' q' e r1 k1 a1=>by rw[hs];exact hown op' j' q' e)
 have e:(j:Int)=(hdJ n:Int):=e
 omega
theorem hold_upd {r:VR}{k i:Nat}{z:Int}(hk:k≠i) {x:Int}{c:Nat}(h:Hold r k x):Hold ⟨r.now,r.ch,upd r.seen i z,upd r.chd i c⟩ k x :=
 ⟨by show upd r.seen i z k=x;rw[upd_ne _ _ hk];exact h.seen,by show sh x=(upd r.chd i c k:Nat);rw[upd_ne _ _ hk];exact h.ver,fun e=>h.now (by have e:upd r.chd i c k=r.ch:=e;rw[upd_ne _ _ hk] at e;exact e),by show upd r.chd i c k≤r.ch;rw[upd_ne _ _ hk];exact h.le⟩
theorem seat_map {r r':VR}{k:Nat}(h:∀ x,Hold r k x->Hold r' k x) (l:Ph) (hl:SeatV r k l):SeatV r' k l:=by
 cases l with
 |turn op j q r i a=>exact ⟨hl.1,fun e=>h _ (hl.2.1 e),fun e=>h _ (hl.2.2 e)⟩
 |wait _ _ _ _ _=>trivial
 |done _=>trivial
theorem Tn.load (h:VI N n v) (t:Tn N n v v1 i 1 (hdJ n) (v.K.getD (hdJ n) 0) nx) (hown:∀ op' j' q',nx=.turn op' j' q'->op'=opT q'∧((q'.1=7∨q'.1=8)->q'.2.getD 1 0=v.K.getD (hdJ n) 0)∧((q'.1=12∨q'.1=13)->q'.2.getD 0 0=v.K.getD (hdJ n) 0)):VI N n v1:=by
 have hs:D7 (hdJ n) (vrun (hdJ n) vr0 v.L) ⟨i,hdJ n,1,v.K.getD (hdJ n) 0,v.K.getD (hdJ n) 0⟩=⟨(vrun (hdJ n) vr0 v.L).now,(vrun (hdJ n) vr0 v.L).ch,upd (vrun (hdJ n) vr0 v.L).seen i (v.K.getD (hdJ n) 0),upd (vrun (hdJ n) vr0 v.L).chd i (vrun (hdJ n) vr0 v.L).ch⟩:=by
  unfold D7
  rw[if_pos ⟨rfl,by show (1:Int)≤5;decide⟩,if_pos rfl]
  show VR.mk _ _ (upd _ ((i:Int)).toNat _) (upd _ ((i:Int)).toNat _)=_
  rw[Int.toNat_natCast]
 have hg:(v.K.set (hdJ n) (v.K.getD (hdJ n) 0)).getD (hdJ n) 0=v.K.getD (hdJ n) 0:=G7 h.len
 have hh:Hold ⟨(vrun (hdJ n) vr0 v.L).now,(vrun (hdJ n) vr0 v.L).ch,upd (vrun (hdJ n) vr0 v.L).seen i (v.K.getD (hdJ n) 0),upd (vrun (hdJ n) vr0 v.L).chd i (vrun (hdJ n) vr0 v.L).ch⟩ i (v.K.getD (hdJ n) 0) :=
  ⟨upd_same _ _ _,by show sh _=((upd (vrun (hdJ n) vr0 v.L).chd i (vrun (hdJ n) vr0 v.L).ch i:Nat):Int);rw[upd_same];exact h.ver,fun _=>h.now.symm,by show upd (vrun (hdJ n) vr0 v.L).chd i (vrun (hdJ n) vr0 v.L).ch i≤_;rw[upd_same];exact Nat.le_refl _⟩
 refine t.go h (fun _ _=>⟨by show (0:Int)≤(i:Int);omega,by show (i:Int)<(N:Int);have:=t.hi;omega,h.now.symm,.inl rfl⟩) (by rw[hs,hg];exact h.now) (by rw[hs,hg];exact h.ver) (by rw[hg];exact h.low) (fun k _ hk l hl=>by rw[hs];exact seat_map (fun x hx=>hold_upd hk hx) l hl) (fun op' j' q' e r1 k1 a1=>?_)
 rw[hs]
 obtain ⟨w1,w2,w3⟩:=hown op' j' q' e
 exact ⟨w1,fun e=>by rw[w2 e];exact hh,fun e=>by rw[w3 e];exact hh⟩
theorem Tn.won (h:VI N n v) (hB:v.L.length≤400000) {f:Int}(f0:0≤f) (f1:f<4294967296) (hold:Hold (vrun (hdJ n) vr0 v.L) i (v.K.getD (hdJ n) 0)) (t:Tn N n v v1 i 4 (hdJ n) (hdI f (verI (v.K.getD (hdJ n) 0)+1)) nx) (hown:∀ op' j' q',nx=.turn op' j' q'->op'=opT q'∧¬ (q'.1=7∨q'.1=8)∧¬ (q'.1=12∨q'.1=13)):VI N n v1:=by
 have hne:v.K.getD (hdJ n) 0≠hdI f (verI (v.K.getD (hdJ n) 0)+1):=fun e=>R1.hd_ne (v.K.getD (hdJ n) 0) f f0 f1 e.symm
 have hv:=h.ver
 have hlw:=h.low
 have hle:=h.le
 have hvi:verI (v.K.getD (hdJ n) 0)=((vrun (hdJ n) vr0 v.L).ch:Int):=by
  rw[←hv]
  unfold verI Pl.getI sh
  show v.K.getD (hdJ n) 0 / 4294967296 % 1073741824=_
  omega
 have hs:D7 (hdJ n) (vrun (hdJ n) vr0 v.L) ⟨i,hdJ n,4,v.K.getD (hdJ n) 0,hdI f (verI (v.K.getD (hdJ n) 0)+1)⟩=⟨hdI f (verI (v.K.getD (hdJ n) 0)+1),(vrun (hdJ n) vr0 v.L).ch+1,(vrun (hdJ n) vr0 v.L).seen,(vrun (hdJ n) vr0 v.L).chd⟩:=by
  unfold D7
  rw[if_pos ⟨rfl,by show (4:Int)≤5;decide⟩,if_neg (by show ¬ ((4:Int)=1);decide)]
  simp only[hne,if_false]
 have hg:(v.K.set (hdJ n) (hdI f (verI (v.K.getD (hdJ n) 0)+1))).getD (hdJ n) 0=hdI f (verI (v.K.getD (hdJ n) 0)+1):=G7 h.len
 have hshy:sh (hdI f (verI (v.K.getD (hdJ n) 0)+1))=((vrun (hdJ n) vr0 v.L).ch:Int)+1:=by rw[sh_hd f0 f1 (by omega) (by omega),hvi]
 have hcc:(vrun (hdJ n) vr0 v.L).chd i=(vrun (hdJ n) vr0 v.L).ch:=by have:=hold.ver;rw[hv] at this;omega
 refine t.go h (fun _ _=>⟨by show (0:Int)≤(i:Int);omega,by show (i:Int)<(N:Int);have:=t.hi;omega,h.now.symm,.inr ⟨rfl,⟨fun _=>hcc,fun _=>hne⟩,fun _=>⟨hold.seen.symm,by show sh (hdI f (verI (v.K.getD (hdJ n) 0)+1))=sh (v.K.getD (hdJ n) 0)+1;rw[hshy,hv],hlw.1,hlw.2⟩⟩⟩) (by rw[hs,hg]) (by rw[hs,hg,hshy];rfl) (by rw[hg];exact hd_low f0 f1 (by omega)) (fun k _ hk l hl=>by
  rw[hs]
  refine seat_map (r:=vrun (hdJ n) vr0 v.L) (r':=⟨hdI f (verI (v.K.getD (hdJ n) 0)+1),(vrun (hdJ n) vr0 v.L).ch+1,(vrun (hdJ n) vr0 v.L).seen,(vrun (hdJ n) vr0 v.L).chd⟩) (fun x hx=>⟨hx.seen,hx.ver,fun e=>?_,Nat.le_succ_of_le hx.le⟩) l hl
  have e:(vrun (hdJ n) vr0 v.L).chd k=(vrun (hdJ n) vr0 v.L).ch+1:=e
  have:=hx.le
  omega) (fun op' j' q' e r1 k1 a1=>?_)
 obtain ⟨w1,w2,w3⟩:=hown op' j' q' e
 exact ⟨w1,fun e=>absurd e w2,fun e=>absurd e w3⟩
theorem Tn.lost (h:VI N n v) {hh:Int}(hold:Hold (vrun (hdJ n) vr0 v.L) i hh) (hx:v.K.getD (hdJ n) 0≠hh) (t:Tn N n v v1 i 4 (hdJ n) (v.K.getD (hdJ n) 0) nx) (hown:∀ op' j' q',nx=.turn op' j' q'->op'=opT q'∧¬ (q'.1=7∨q'.1=8)∧¬ (q'.1=12∨q'.1=13)):VI N n v1:=by
 have hs:D7 (hdJ n) (vrun (hdJ n) vr0 v.L) ⟨i,hdJ n,4,v.K.getD (hdJ n) 0,v.K.getD (hdJ n) 0⟩=vrun (hdJ n) vr0 v.L:=by
  unfold D7
  rw[if_pos ⟨rfl,by show (4:Int)≤5;decide⟩,if_neg (by show ¬ ((4:Int)=1);decide)]
  simp only[if_true]
  rw[←h.now]
 have hg:(v.K.set (hdJ n) (v.K.getD (hdJ n) 0)).getD (hdJ n) 0=v.K.getD (hdJ n) 0:=G7 h.len
 have hcc:(vrun (hdJ n) vr0 v.L).chd i≠(vrun (hdJ n) vr0 v.L).ch:=fun e=>hx (by rw[hold.now e,h.now])
 refine t.go h (fun _ _=>⟨by show (0:Int)≤(i:Int);omega,by show (i:Int)<(N:Int);have:=t.hi;omega,h.now.symm,.inr ⟨rfl,⟨fun e=>absurd rfl e,fun e=>absurd e hcc⟩,fun e=>absurd rfl e⟩⟩) (by rw[hs,hg];exact h.now) (by rw[hs,hg];exact h.ver) (by rw[hg];exact h.low) (fun k _ _ l hl=>by rw[hs];exact hl) (fun op' j' q' e r1 k1 a1=>?_)
 obtain ⟨w1,w2,w3⟩:=hown op' j' q' e
 exact ⟨w1,fun e=>absurd e w2,fun e=>absurd e w3⟩
end
theorem stack_mv {N n:Nat}(hn:n≤1000) {p:PSt}{v v1:Vw}(g:Mw.Gd (mc:=mcT n) p) (hB:p.S.n≤400000) (s:Seen p v) (hN:p.S.thr.length=N) (h:VI N n v) (m:Mv (mcT n) N v v1):VI N n v1:=by
 have hsit:∀ i,i<N->Mw.sits (mc:=mcT n) p.K.length (v.l i):=fun i hi=>by
  obtain ⟨t,ht⟩:∃ t,p.S.thr[i]? = some t:=⟨_,List.getElem?_eq_getElem (by omega)⟩
  rw[s.l]
  exact (g.sit i t ht).2.2
 have hL:v.L.length≤400000:=by have:=s.n;omega
 have nowait:∀ i,i<N->∀ j q r k a,v.l i≠.wait j q r k a:=fun i hi j q r k a e=>by
  have:=hsit i hi
  rw[e] at this
  exact this
 cases m with
 |stuck _ _ h3 _=>obtain ⟨i,hi,j,q,r,k,a,e⟩:=h3;exact absurd e (nowait i hi j q r k a)
 |wake i j q rest ii ans X l' hi hl _ _ _ _ _ _ _ _=>exact absurd hl (nowait i hi _ _ _ _ _)
 |free i j q rest ii ans X l' hi hl _ _ _ _ _ _ _=>exact absurd hl (nowait i hi _ _ _ _ _)
 |turn i op j q rest ii ans X l' hi hl hon els hK _ _ hLL =>
  have hse:=h.sit i hi
  rw[hl] at hse
  obtain ⟨hop,hs1,hs2⟩:=hse
  have hst:=hsit i hi
  rw[hl] at hst
  have ha:atT n q j:=hst.1 hn
  have hjl:j<v.K.length:=by rw[s.K,List.length_map];exact hst.2
  have hx:okT n j (v.K.getD j 0):=by
   have e:v.K.getD j 0=(cellAt p.K j).2:=by rw[s.K];exact getD_cell p.K j
   rw[e]
   unfold cellAt
   rw[List.getElem?_eq_getElem hst.2]
   exact g.kok j _ (List.getElem?_eq_getElem hst.2) hn
  have hset:(mcT n).set v.stk ((mcT n).turn q (v.K.getD j 0)).2.2=(Ai n q (v.K.getD j 0)).2.2:=Mw.set_turn (mc:=mcT n) v.stk (turnT_nw q (v.K.getD j 0))
  rw[hset] at hon
  have hK:v1.K=v.K.set j (Ai n q (v.K.getD j 0)).2.1:=hK
  have hLL:v1.L=v.L++(⟨i,j,op,(Ai n q (v.K.getD j 0)).1.1,(Ai n q (v.K.getD j 0)).1.2⟩:Stp) :: X:=hLL
  have ho:=turn_old (n:=n) q (v.K.getD j 0)
  rw[ho] at hLL
  have hown:=fun op' j' q' (e:(Ai n q (v.K.getD j 0)).2.2=.turn op' j' q')=>turn_op e
  have T:Tn N n v v1 i op j (Ai n q (v.K.getD j 0)).2.1 (Ai n q (v.K.getD j 0)).2.2:=⟨hi,⟨_,_,_,_,_,_,hon,els,hLL⟩,hK,turnT_nw q _⟩
  clear hLL hK hon els ho hset hst hsit nowait s g
  subst hop
  obtain ⟨k,l⟩:=q
  unfold atT at ha
  simp only at ha
  generalize e0:l.getD 0 0=a at *
  generalize e1:l.getD 1 0=b at *
  generalize e2:l.getD 2 0=c at *
  have e0':l[0]?.getD 0=a:=by simpa using e0
  have e1':l[1]?.getD 0=b:=by simpa using e1
  have e2':l[2]?.getD 0=c:=by simpa using e2
  have far:∀ (hj:j≠hdJ n) (hq:∀ op' j' q',(Ai n (k,l) (v.K.getD j 0)).2.2=.turn op' j' q'->q'.1≠7∧q'.1≠8∧q'.1≠12∧q'.1≠13),VI N n v1:=fun hj hq=>T.far h hj (fun op' j' q' e=>⟨hown op' j' q' e,fun e'=>by have:=hq op' j' q' e;omega,fun e'=>by have:=hq op' j' q' e;omega⟩)
  split at ha
  ·refine far (by unfold hdJ;omega) (fun op' j' q' e=>?_)
   simp only[Ai,same] at e
   split at e<;>cases e
   simp
  ·refine far (by have:=ha.2.2;unfold nxJ slI at this;unfold hdJ;omega) (fun op' j' q' e=>?_)
   simp only[Ai,same] at e
   cases e
   simp
  ·refine far (by unfold hdJ;omega) (fun op' j' q' e=>?_)
   simp only[Ai] at e
   split at e<;>(simp only[same,put_] at e;cases e)<;>simp
  ·refine far (by have:=ha.2;unfold usJ at this;unfold hdJ;omega) (fun op' j' q' e=>?_)
   simp only[Ai,put_] at e
   cases e
   simp
  ·refine far (by have:=ha.2;unfold vlJ at this;unfold hdJ;omega) (fun op' j' q' e=>?_)
   simp only[Ai,put_] at e
   cases e
   simp
  ·obtain ⟨_,rfl⟩:=ha
   refine Tn.load h (nx:=(Ai n (6,l) (v.K.getD (hdJ n) 0)).2.2) T (fun op' j' q' e=>⟨hown op' j' q' e,?_⟩)
   simp only[Ai,same] at e
   cases e
   exact ⟨fun _=>rfl,fun e=>by (rcases e with e|e<;>cases e)⟩
  ·obtain ⟨_,_,hjj⟩:=ha
   refine T.far h (by unfold lkJ at hjj;unfold hdJ;omega) (fun op' j' q' e=>⟨hown op' j' q' e,?_⟩)
   have hh:=hs1 (.inl rfl)
   simp only[Ai,put_] at e
   cases e
   exact ⟨fun _=>by show Hold _ i (l.getD 1 0);rw[e1];exact hh,fun e=>by (rcases e with e|e<;>cases e)⟩
  ·obtain ⟨hsl,rfl⟩:=ha
   have hh:=hs1 (.inr rfl)
   by_cases hxx:v.K.getD (hdJ n) 0=b
   ·have et:Ai n (8,l) (v.K.getD (hdJ n) 0)=put_ (v.K.getD (hdJ n) 0) (hdI (a+1) (verI b+1)) (.ans 0 0):=by
     simp only[Ai,e0,e1]
     rw[if_pos hxx]
    rw[et] at T
    rw[←hxx] at hh T
    exact Tn.won h hL (f:=a+1) (by unfold D8 at hsl;omega) (by unfold D8 at hsl;omega) hh T (fun op' j' q' e=>by cases e)
   ·have et:Ai n (8,l) (v.K.getD (hdJ n) 0)=same (v.K.getD (hdJ n) 0) (.turn 1 (hdJ n) (6,[a])):=by
     simp only[Ai,e0,e1]
     rw[if_neg hxx]
    rw[et] at T
    exact Tn.lost h hh hxx T (fun op' j' q' e=>by cases e;simp[opT])
  ·subst ha
   refine Tn.load h (nx:=(Ai n (11,l) (v.K.getD (hdJ n) 0)).2.2) T (fun op' j' q' e=>⟨hown op' j' q' e,?_⟩)
   simp only[Ai,same] at e
   split at e<;>cases e
   exact ⟨fun e=>by (rcases e with e|e<;>cases e),fun _=>rfl⟩
  ·obtain ⟨_,_,hjj⟩:=ha
   refine T.far h (by unfold lkJ at hjj;unfold hdJ;omega) (fun op' j' q' e=>⟨hown op' j' q' e,?_⟩)
   have hh:=hs2 (.inl rfl)
   simp only[Ai,same] at e
   cases e
   exact ⟨fun e=>by (rcases e with e|e<;>cases e),fun _=>by show Hold _ i (l.getD 0 0);rw[e0];exact hh⟩
  ·obtain ⟨_,_,hb0,hb1,rfl⟩:=ha
   have hh:=hs2 (.inr rfl)
   by_cases hxx:v.K.getD (hdJ n) 0=a
   ·have et:Ai n (13,l) (v.K.getD (hdJ n) 0)=put_ (v.K.getD (hdJ n) 0) (hdI b (verI a+1)) (.turn 1 (vlJ n (slI a)) (14,[((slI a:Nat):Int)])):=by
     simp only[Ai,e0,e1]
     rw[if_pos hxx]
    rw[et] at T
    rw[←hxx] at hh T
    exact Tn.won h hL (f:=b) hb0 (by omega) hh T (fun op' j' q' e=>by cases e;simp[opT])
   ·have et:Ai n (13,l) (v.K.getD (hdJ n) 0)=same (v.K.getD (hdJ n) 0) (.turn 1 (hdJ n) (11,[])):=by
     simp only[Ai,e0,e1]
     rw[if_neg hxx]
    rw[et] at T
    exact Tn.lost h hh hxx T (fun op' j' q' e=>by cases e;simp[opT])
  ·refine far (by have:=ha.2;unfold vlJ at this;unfold hdJ;omega) (fun op' j' q' e=>?_)
   simp only[Ai,same] at e
   cases e
   simp
  ·refine far (by have:=ha.2;unfold usJ at this;unfold hdJ;omega) (fun op' j' q' e=>?_)
   simp only[Ai] at e
   split at e<;>(simp only[same,put_] at e;cases e)
   simp
  ·refine far (by have:=ha.2;unfold hdJ;omega) (fun op' j' q' e=>?_)
   simp only[Ai,same] at e
   cases e
   simp
  ·refine far (by have h1:=ha.2.2;have h2:=ha.1;unfold D8 at h2;unfold nxJ at h1;unfold hdJ;omega) (fun op' j' q' e=>?_)
   simp only[Ai,put_] at e
   cases e
   simp
  ·refine far (by have:=ha.2;unfold hdJ;omega) (fun op' j' q' e=>?_)
   simp only[Ai] at e
   split at e<;>(simp only[same,put_] at e;cases e)
   simp
  ·exact ha.elim
end Go.Proofs.YtbbhahigofeacaaDoor.Gen
