/- Of the proof of CounterTimes. Part 30 of 31. (Joined, by program, and written short, of: CtY, SamA, GPts, CtAw1, CtAw2, CtAw3, La15c.) -/
import Derived.Test.YtfjjoohflcchnaaDoorCounterTimes11
import Derived.Test.YtfjjoohflcchnaaDoorCounterTimes18
import Derived.Test.YtfjjoohflcchnaaDoorCounterTimes19
import Derived.Test.YtfjjoohflcchnaaDoorCounterTimes21
import Derived.BigQuiet
import Derived.KernelRfl
set_option linter.unusedSimpArgs false
set_option linter.unusedVariables false
set_option maxHeartbeats 4000000
set_option maxRecDepth 100000
namespace Go.Proofs.YtfjjoohflcchnaaDoor.Gen
open Go Go.Lift Go.Conc Go.RowKit
noncomputable def B52:Code:=Tryd.f52.body.getD .skip
noncomputable def k520:Code:=seq1 B52
noncomputable def k521:Code:=seq1 (seq2 B52)
noncomputable def k522:Code:=seq1 (seq2 (seq2 B52))
noncomputable def R52:Code:=seq2 (seq2 (seq2 B52))
theorem eB52:B52=.seq k520 (.seq k521 (.seq k522 R52)):=by kernel_rfl
theorem fine_k520:fineCode Tryd.prog true LV k520:=fineCode_askS callV extT (by kernel_rfl)
theorem fine_k521:fineCode Tryd.prog true LV k521:=fineCode_askS callV extT (by kernel_rfl)
theorem fine_k522:fineCode Tryd.prog true LV k522:=fineCode_askS callV extT (by kernel_rfl)
section
variable {S:TS} {v:World} {a:Act} {n cap:Nat} {p:Option Addr} {m:Int}
theorem k520_wp (hA:Fl 28 [(0,Pt S.wb 0),(1,I m),(2,.slice p n cap)] a):k520.wp Tryd.prog (fun e a w'=>e=.normal∧Fl 28 [(0,Pt S.wb 0),(1,I m),(2,.slice p n cap),(6,.slice none 0 0),(7,I 0)] a∧w'.heap=v.heap∧w'.os=v.os∧w'.output=v.output) a v:=by
 obtain ⟨hsz,hd,hpp⟩:=hA
 obtain ⟨u,rfl,hg⟩:=litN hsz hd
 have u0:=(hg 0).symm.trans (hpp (0,Pt S.wb 0) (by simp))
 have u1:=(hg 1).symm.trans (hpp (1,I m) (by simp))
 have u2:=(hg 2).symm.trans (hpp (2,.slice p n cap) (by simp))
 clear hg hpp hsz hd
 unfold k520 B52 Tryd.f52 seq1
 simp only [Option.getD_some,lits,Nat.reduceAdd,u0,u1,u2]
 clear u0 u1 u2
 go_wp2_with fail
 first
  |exact ⟨rfl,⟨rfl,rfl,by
    intro p hp
    simp only [List.mem_cons,List.not_mem_nil,or_false] at hp
    rcases hp with rfl|rfl|rfl|rfl|rfl<;>rfl⟩,rfl,rfl,rfl⟩
  |exact ⟨⟨rfl,rfl,by
    intro p hp
    simp only [List.mem_cons,List.not_mem_nil,or_false] at hp
    rcases hp with rfl|rfl|rfl|rfl|rfl<;>rfl⟩,rfl,rfl,rfl⟩
  |exact ⟨rfl,rfl,by
    intro p hp
    simp only [List.mem_cons,List.not_mem_nil,or_false] at hp
    rcases hp with rfl|rfl|rfl|rfl|rfl<;>rfl⟩
theorem k521_no (h:Rep zn S v) (pc:Nat→Option Addr) (ln cp:Nat→Nat) (hs:∀ k,k<n→∃ sb so,p=some ⟨sb,so,none⟩∧v.cell? ⟨sb,so+k,none⟩=some (.slice (pc k) (ln k) (cp k))) (hn:n≤17592186043904) (hr:S.ran=false) {E:Int} (hE:Refused n ln E) (hA:Fl 28 [(0,Pt S.wb 0),(1,I m),(2,.slice p n cap),(6,.slice none 0 0),(7,I 0)] a) :
 k521.wp Tryd.prog (fun e a w'=>e=.ret∧∃ x,(results Tryd.f52 a.tmps).run Tryd.prog w'=.ok x w'∧x=.tuple #[.slice none 0 0,I E]∧w'.heap=v.heap∧w'.os=v.os∧w'.output=v.output) a v:=by
 have h19:=(body19 h p n cap hn pc ln cp hs).calls Tryd.func59 rfl
 have H19:Hid (Calls Tryd.prog 59 #[Pt S.wb 0,.slice p n cap] v (fun e w'=>e=.returned (I E)∧w'=v)):=⟨h19.mono (by
  rintro e w' ⟨r,rfl,rfl,⟨hk,rfl⟩|⟨hk,rfl⟩⟩
  ·rcases hE with ⟨_,rfl⟩|⟨h1,_⟩
   ·exact ⟨rfl,rfl⟩
   ·obtain ⟨k,k1,k2⟩:=hk
    exact absurd (h1 k k1) (by omega)
  ·rcases hE with ⟨⟨k,k1,k2⟩,_⟩|⟨_,h1,rfl⟩
   ·exact absurd (hk k k1) (by omega)
   ·refine ⟨?_,rfl⟩
    unfold checkE
    rw [if_pos (h1.imp_right .inl)])⟩
 have hE0:¬ E=0:=by rcases hE with ⟨_,rfl⟩|⟨_,_,rfl⟩<;>decide
 clear h19 h hs hn hr hE
 obtain ⟨hsz,hd,hpp⟩:=hA
 obtain ⟨u,rfl,hg⟩:=litN hsz hd
 have u0:=(hg 0).symm.trans (hpp (0,Pt S.wb 0) (by simp))
 have u1:=(hg 1).symm.trans (hpp (1,I m) (by simp))
 have u2:=(hg 2).symm.trans (hpp (2,.slice p n cap) (by simp))
 have u6:=(hg 6).symm.trans (hpp (6,.slice none 0 0) (by simp))
 have u7:=(hg 7).symm.trans (hpp (7,I 0) (by simp))
 clear hg hpp hsz hd
 unfold k521 B52 Tryd.f52 seq1 seq2
 simp only [Option.getD_some,lits,Nat.reduceAdd,u0,u1,u2,u6,u7]
 clear u0 u1 u2 u6 u7
 go_wp2_with (first
  |(go_at_call 59;refine H19.out.mono ?_;rintro e w1 ⟨rfl,rfl⟩))
 exact results_tmp2 (t:=6) (u:=7) rfl _ _ _
theorem k521_yes (h:Rep zn S v) (pc:Nat→Option Addr) (ln cp:Nat→Nat) (hs:∀ k,k<n→∃ sb so,p=some ⟨sb,so,none⟩∧v.cell? ⟨sb,so+k,none⟩=some (.slice (pc k) (ln k) (cp k))) (hln:∀ k,k<n→ln k≤64) (hn:0<n∧n≤8) (hr:S.ran=false) (hA:Fl 28 [(0,Pt S.wb 0),(1,I m),(2,.slice p n cap),(6,.slice none 0 0),(7,I 0)] a) :
 k521.wp Tryd.prog (fun e a w'=>e=.normal∧Fl 28 [(0,Pt S.wb 0),(1,I m),(2,.slice p n cap),(6,.slice none 0 0),(7,I 0)] a∧w'.heap=v.heap∧w'.os=v.os∧w'.output=v.output) a v:=by
 have h19:=(body19 h p n cap (by omega) pc ln cp hs).calls Tryd.func59 rfl
 have he:checkE n S.ran=0:=by unfold checkE;rw [if_neg (by rw [hr];rintro (h|h|h)<;>first|omega|cases h)]
 have H19:Hid (Calls Tryd.prog 59 #[Pt S.wb 0,.slice p n cap] v (fun e w'=>e=.returned (I 0)∧w'=v)):=⟨h19.mono (by
  rintro e w' ⟨r,rfl,rfl,⟨⟨k,hk,h1⟩,_⟩|⟨_,rfl⟩⟩
  ·exact absurd (hln k hk) (by omega)
  ·rw [he];exact ⟨rfl,rfl⟩)⟩
 clear h19 h hs hln hn hr he
 obtain ⟨hsz,hd,hpp⟩:=hA
 obtain ⟨u,rfl,hg⟩:=litN hsz hd
 have u0:=(hg 0).symm.trans (hpp (0,Pt S.wb 0) (by simp))
 have u1:=(hg 1).symm.trans (hpp (1,I m) (by simp))
 have u2:=(hg 2).symm.trans (hpp (2,.slice p n cap) (by simp))
 have u6:=(hg 6).symm.trans (hpp (6,.slice none 0 0) (by simp))
 have u7:=(hg 7).symm.trans (hpp (7,I 0) (by simp))
 clear hg hpp hsz hd
 unfold k521 B52 Tryd.f52 seq1 seq2
 simp only [Option.getD_some,lits,Nat.reduceAdd,u0,u1,u2,u6,u7]
 clear u0 u1 u2 u6 u7
 go_wp2_with (first
  |(go_at_call 59;refine H19.out.mono ?_;rintro e w1 ⟨rfl,rfl⟩))
 first
  |exact ⟨rfl,⟨rfl,rfl,by
    intro p hp
    simp only [List.mem_cons,List.not_mem_nil,or_false] at hp
    rcases hp with rfl|rfl|rfl|rfl|rfl<;>rfl⟩,rfl,rfl,rfl⟩
  |exact ⟨⟨rfl,rfl,by
    intro p hp
    simp only [List.mem_cons,List.not_mem_nil,or_false] at hp
    rcases hp with rfl|rfl|rfl|rfl|rfl<;>rfl⟩,rfl,rfl,rfl⟩
  |exact ⟨rfl,rfl,by
    intro p hp
    simp only [List.mem_cons,List.not_mem_nil,or_false] at hp
    rcases hp with rfl|rfl|rfl|rfl|rfl<;>rfl⟩
theorem k522_yes (h1:1≤m) (h2:m≤16) (hA:Fl 28 [(0,Pt S.wb 0),(1,I m),(2,.slice p n cap),(6,.slice none 0 0),(7,I 0)] a):k522.wp Tryd.prog (fun e a w'=>e=.normal∧Fl 28 [(0,Pt S.wb 0),(1,I m),(2,.slice p n cap),(6,.slice none 0 0),(7,I 0)] a∧w'.heap=v.heap∧w'.os=v.os∧w'.output=v.output) a v:=by
 have g1:decide (m<1)=false:=decide_eq_false (by omega)
 have g2:decide (m > 16)=false:=decide_eq_false (by omega)
 have g3:¬ m<1:=by omega
 have g4:¬ m > 16:=by omega
 obtain ⟨hsz,hd,hpp⟩:=hA
 obtain ⟨u,rfl,hg⟩:=litN hsz hd
 have u0:=(hg 0).symm.trans (hpp (0,Pt S.wb 0) (by simp))
 have u1:=(hg 1).symm.trans (hpp (1,I m) (by simp))
 have u2:=(hg 2).symm.trans (hpp (2,.slice p n cap) (by simp))
 have u6:=(hg 6).symm.trans (hpp (6,.slice none 0 0) (by simp))
 have u7:=(hg 7).symm.trans (hpp (7,I 0) (by simp))
 clear hg hpp hsz hd
 unfold k522 B52 Tryd.f52 seq1 seq2
 simp only [Option.getD_some,lits,Nat.reduceAdd,u0,u1,u2,u6,u7]
 clear u0 u1 u2 u6 u7
 go_wp2_with fail
 first
  |exact ⟨rfl,⟨rfl,rfl,by
    intro p hp
    simp only [List.mem_cons,List.not_mem_nil,or_false] at hp
    rcases hp with rfl|rfl|rfl|rfl|rfl<;>rfl⟩,rfl,rfl,rfl⟩
  |exact ⟨⟨rfl,rfl,by
    intro p hp
    simp only [List.mem_cons,List.not_mem_nil,or_false] at hp
    rcases hp with rfl|rfl|rfl|rfl|rfl<;>rfl⟩,rfl,rfl,rfl⟩
  |exact ⟨rfl,rfl,by
    intro p hp
    simp only [List.mem_cons,List.not_mem_nil,or_false] at hp
    rcases hp with rfl|rfl|rfl|rfl|rfl<;>rfl⟩
theorem k522_no1 (h1:m<1) (hA:Fl 28 [(0,Pt S.wb 0),(1,I m),(2,.slice p n cap),(6,.slice none 0 0),(7,I 0)] a):k522.wp Tryd.prog (fun e a w'=>e=.ret∧∃ x,(results Tryd.f52 a.tmps).run Tryd.prog w'=.ok x w'∧x=.tuple #[.slice none 0 0,I 1]∧w'.heap=v.heap∧w'.os=v.os∧w'.output=v.output) a v:=by
 have g1:decide (m<1)=true:=decide_eq_true h1
 obtain ⟨hsz,hd,hpp⟩:=hA
 obtain ⟨u,rfl,hg⟩:=litN hsz hd
 have u0:=(hg 0).symm.trans (hpp (0,Pt S.wb 0) (by simp))
 have u1:=(hg 1).symm.trans (hpp (1,I m) (by simp))
 have u2:=(hg 2).symm.trans (hpp (2,.slice p n cap) (by simp))
 have u6:=(hg 6).symm.trans (hpp (6,.slice none 0 0) (by simp))
 have u7:=(hg 7).symm.trans (hpp (7,I 0) (by simp))
 clear hg hpp hsz hd
 unfold k522 B52 Tryd.f52 seq1 seq2
 simp only [Option.getD_some,lits,Nat.reduceAdd,u0,u1,u2,u6,u7]
 clear u0 u1 u2 u6 u7
 go_wp2_with fail
 exact results_tmp2 (t:=6) (u:=7) rfl _ _ _
theorem k522_no2 (h1:16<m) (hA:Fl 28 [(0,Pt S.wb 0),(1,I m),(2,.slice p n cap),(6,.slice none 0 0),(7,I 0)] a):k522.wp Tryd.prog (fun e a w'=>e=.ret∧∃ x,(results Tryd.f52 a.tmps).run Tryd.prog w'=.ok x w'∧x=.tuple #[.slice none 0 0,I 1]∧w'.heap=v.heap∧w'.os=v.os∧w'.output=v.output) a v:=by
 have g1:decide (m<1)=false:=decide_eq_false (by omega)
 have g2:decide (m > 16)=true:=decide_eq_true h1
 have g3:¬ m<1:=by omega
 obtain ⟨hsz,hd,hpp⟩:=hA
 obtain ⟨u,rfl,hg⟩:=litN hsz hd
 have u0:=(hg 0).symm.trans (hpp (0,Pt S.wb 0) (by simp))
 have u1:=(hg 1).symm.trans (hpp (1,I m) (by simp))
 have u2:=(hg 2).symm.trans (hpp (2,.slice p n cap) (by simp))
 have u6:=(hg 6).symm.trans (hpp (6,.slice none 0 0) (by simp))
 have u7:=(hg 7).symm.trans (hpp (7,I 0) (by simp))
 clear hg hpp hsz hd
 unfold k522 B52 Tryd.f52 seq1 seq2
 simp only [Option.getD_some,lits,Nat.reduceAdd,u0,u1,u2,u6,u7]
 clear u0 u1 u2 u6 u7
 go_wp2_with fail
 exact results_tmp2 (t:=6) (u:=7) rfl _ _ _
end
structure GF (pk0:Nat→Option Obj):Prop where
 a:∃ c t f,pk0 6=some (.cells c t f)∧c[0]? = some (I 0)∧c[1]? = some (I 32)
 b:∃ c t f,pk0 7=some (.cells c t f)∧c[0]? = some (I 32)∧c[1]? = some (I 30)
def QCtr (s:Nat) (caps:Array Value) (pk:Nat→Option Obj) (K:List (Nat×Int)):Prop :=
 0<s∧s≤16∧∃ pk0 N,7<N∧GF pk0∧caps=#[Pt (N+1) 0]∧pk=pkN pk0 s N K∧K.length=s
theorem mineCtr (s:Nat) (caps:Array Value) (pk:Nat→Option Obj) (K:List (Nat×Int)) (h:QCtr s caps pk K) (X:Fix (mcC s)) (hf:X.fid=86) (hc:X.caps=caps) (hp:X.pk=pk) (hk:X.kb=K.map (·.1)):(pkgC s).Mine X:=by
 obtain ⟨h0,h1,pk0,N,hN,hG,rfl,rfl,hK⟩:=h
 refine ⟨N+1,N,hc,fun v hv=>?_⟩
 rw [hp] at hv
 have e0:=hv (N+1) (.cells #[.slice (some ⟨N,0,none⟩) s s] 138 (0,0)) (by unfold pkN;rw [padd_ne (by omega),padd_at])
 have e1:=hv N (objP s K) (by unfold pkN;rw [padd_at])
 refine ⟨⟨cell_of e0 rfl,fun j hj=>?_,h0,h1⟩,?_⟩
 ·obtain ⟨c,hcj⟩:∃ c,K[j]? = some c:=⟨_,List.getElem?_eq_getElem (by omega)⟩
  refine ⟨c.1,by rw [hk,List.getElem?_map,hcj];rfl,cell_of e1 ?_⟩
  unfold rowP
  simp [hj,hcj]
 ·obtain ⟨c6,t6,f6,g6,a0,a1⟩:=hG.a
  obtain ⟨c7,t7,f7,g7,b0,b1⟩:=hG.b
  have q6:=hv 6 _ (by unfold pkN;rw [padd_ne (by omega),padd_ne (by omega)];exact g6)
  have q7:=hv 7 _ (by unfold pkN;rw [padd_ne (by omega),padd_ne (by omega)];exact g7)
  exact ⟨cell_of q6 a0,cell_of q6 a1,cell_of q7 b0,cell_of q7 b1⟩
theorem cplay_in {Ch:Nat→Prop} {Stop:Goroutine→World→Prop} {main:Bool} {S:TS} {v w:World} (s:Nat) (h0:0<s) (h1:s≤16) {pk0:Nat→Option Obj} (hG:GF pk0) (hO:Objs v S [] pk0 S [] v) (hlt:∀ b,pk0 b≠none→b<v.heap.size) (p:Option Addr) (n cap:Nat) (hn8:0<n∧n≤8) (hran:S.ran=false) (pc:Nat→Option Addr) (ln cp:Nat→Nat) (hs:∀ k,k<n→∃ sb so,p=some ⟨sb,so,none⟩∧v.cell? ⟨sb,so+k,none⟩=some (.slice (pc k) (ln k) (cp k))) (hln:∀ k,k<n→ln k≤64)
 (cs:List Frame) {bc:Frame} {ac:Act} {ops:Array Oper} {q:Nat} {rest:List Nat} {oc:Oper} {k:List Item} (hoc:ops[q]? = some oc)
 (hvw:Rel zn v w) (hn:NoRow Ch v)
 (hk:∀ v' w' (bd:Frame) (ad:Act) (od:Array Oper) (qd:Nat) (rd:List Nat) (oe:Oper) (kd:List Item) (caps:Array Value) (pk:Nat→Option Obj) (S1:TS) (K:List (Nat×Int)),Rel zn v' w'→NoRow Ch v'→Objs v S (List.replicate s 0) pk S1 K v'→QCtr s caps pk K→od[qd]? = some oe →
   (∀ (Ch:Nat→Prop) (Stop:Goroutine→World→Prop) (w:World) (x:Value),(∀ d,GoesI Tryd.prog main (DT (ScZ zn) Ch) Stop (G (bc.at (ac.put oc.dst (.tuple #[x,I 0])) (.inRegion ops rest :: k)) cs) (w.at d))→GoesI Tryd.prog main (DT (ScZ zn) Ch) Stop (G (bd.at (ad.put oe.dst x) (.inRegion od rd :: kd)) (bc.at ac (.inRegion ops (q :: rest) :: k) :: cs)) w) →
   GoesI Tryd.prog main (DT (ScZ zn) Ch) Stop (G ((base 60).at { tmps:=#[Pt S.wb 0,.slice p n cap,.func (.func 86) ((mcC s).bn caps) ((mcC s).fr caps)]++Array.replicate 36 undef,defers:=[] } [.code B20]) (bd.at ad (.inRegion od (qd :: rd) :: kd) :: bc.at ac (.inRegion ops (q :: rest) :: k) :: cs)) w') :
 GoesI Tryd.prog main (DT (ScZ zn) Ch) Stop (G ((base 52).at { tmps:=#[Pt S.wb 0,I s,.slice p n cap]++Array.replicate 25 undef,defers:=[] } [.code B52]) (bc.at ac (.inRegion ops (q :: rest) :: k) :: cs)) w:=by
 rw [eB52]
 have hA0:Fl 28 [(0,Pt S.wb 0),(1,I s),(2,.slice p n cap)] { tmps:=#[Pt S.wb 0,I s,.slice p n cap]++Array.replicate 25 undef,defers:=[] }:=by
  simp only [Array.replicate_succ,Array.replicate_zero,List.push_toArray,List.append_toArray,List.nil_append,List.cons_append]
  exact ⟨rfl,rfl,by
   intro p hp
   simp only [List.mem_cons,List.not_mem_nil,or_false] at hp
   rcases hp with rfl|rfl|rfl<;>rfl⟩
 refine goesI_seq (dt_idle _ _) ?_
 refine goesI_plain (z:=zn) (wr:=true) (L:=LV) (I:=NoRow Ch) hE fineV noRow_keeps (fun v v' w w' es hi hr ho he=>dt_of_z v v' w w' es hi hr ho he) hvw fine_k520 hA0.2.1 (by simp [base]) hn (Q:=fun a w'=>Fl 28 [(0,Pt S.wb 0),(1,I s),(2,.slice p n cap),(6,.slice none 0 0),(7,I 0)] a∧w'.heap=v.heap∧w'.os=v.os∧w'.output=v.output) (fun τ=>k520_wp (v:=onTape v τ 0) hA0) ?_
 rintro a0 v0 w0 ⟨hB0,e0,o0,u0⟩ hr0 hn0 -
 have m0:Mem zn S [] v0:=(hO.cel.mem.grows (v':=v0) ⟨by rw [e0];exact Nat.le_refl _,fun b _=>by rw [e0],o0,u0⟩).mem
 have hs0:∀ τ,∀ k,k<n→∃ sb so,p=some ⟨sb,so,none⟩∧(onTape v0 τ 0).cell? ⟨sb,so+k,none⟩=some (.slice (pc k) (ln k) (cp k)):=fun τ k hk=>by
  obtain ⟨sb,so,h1,h2⟩:=hs k hk
  exact ⟨sb,so,h1,by rw [World.cell?_of_block (w:=v) (w':=onTape v0 τ 0) (by show v0.heap[_]? = _;rw [e0])];exact h2⟩
 refine goesI_seq (dt_idle _ _) ?_
 refine goesI_plain (z:=zn) (wr:=true) (L:=LV) (I:=NoRow Ch) hE fineV noRow_keeps (fun v v' w w' es hi hr ho he=>dt_of_z v v' w w' es hi hr ho he) hr0 fine_k521 hB0.2.1 (by simp [base]) hn0 (Q:=fun a w'=>Fl 28 [(0,Pt S.wb 0),(1,I s),(2,.slice p n cap),(6,.slice none 0 0),(7,I 0)] a∧w'.heap=v0.heap∧w'.os=v0.os∧w'.output=v0.output) (fun τ=>k521_yes (v:=onTape v0 τ 0) (m0.grows (v':=onTape v0 τ 0) ⟨Nat.le_refl _,fun _ _=>rfl,rfl,rfl⟩).mem.rep pc ln cp (hs0 τ) hln hn8 hran hB0) ?_
 rintro a1 v1 w1 ⟨hB1,e1,o1,u1⟩ hr1 hn1 -
 refine goesI_seq (dt_idle _ _) ?_
 refine goesI_plain (z:=zn) (wr:=true) (L:=LV) (I:=NoRow Ch) hE fineV noRow_keeps (fun v v' w w' es hi hr ho he=>dt_of_z v v' w w' es hi hr ho he) hr1 fine_k522 hB1.2.1 (by simp [base]) hn1 (Q:=fun a w'=>Fl 28 [(0,Pt S.wb 0),(1,I s),(2,.slice p n cap),(6,.slice none 0 0),(7,I 0)] a∧w'.heap=v1.heap∧w'.os=v1.os∧w'.output=v1.output) (fun τ=>k522_yes (v:=onTape v1 τ 0) (by omega) (by omega) hB1) ?_
 rintro a2 v2 w2 ⟨hB2,e2,o2,u2⟩ hr2 hn2 -
 have e20:v2.heap=v.heap:=e2.trans (e1.trans e0)
 have O2:Objs v2 S [] pk0 S [] v2:=⟨Cel.refl (hO.cel.mem.grows (v':=v2) ⟨by rw [e20];exact Nat.le_refl _,fun b _=>by rw [e20],o2.trans (o1.trans o0),u2.trans (u1.trans u0)⟩).mem,rfl,hO.st,fun b o hb=>by rw [e20];exact hO.has b o hb,fun b hb=>by have:=hO.new b hb;rw [e20];exact this,hO.row⟩
 have hlt2:∀ b,pk0 b≠none→b<v2.heap.size:=fun b hb=>by rw [e20];exact hlt b hb
 obtain ⟨hsz,hd,hpp⟩:=hB2
 obtain ⟨u,rfl,hg⟩:=litN hsz hd
 have u0:=(hg 0).symm.trans (hpp (0,Pt S.wb 0) (by simp))
 have u1:=(hg 1).symm.trans (hpp (1,I s) (by simp))
 have u2:=(hg 2).symm.trans (hpp (2,.slice p n cap) (by simp))
 have u6:=(hg 6).symm.trans (hpp (6,.slice none 0 0) (by simp))
 have u7:=(hg 7).symm.trans (hpp (7,I 0) (by simp))
 clear hg hpp hsz hd
 unfold R52 B52 Tryd.f52 seq2
 simp only [Option.getD_some,lits,Nat.reduceAdd,u0,u1,u2,u6,u7]
 clear u0 u1 u2 u6 u7
 refine goesI_seq (dt_idle _ _) ?_
 refine goesI_region (dt_idle _ _) ?_
 simp only [List.size_toArray,List.length_cons,List.length_nil,Nat.reduceAdd,Nat.zero_add,List.range,List.range.loop]
 iterate 4
  (refine goesI_oper rfl rfl (by decide) (fun d K hK=>?_)
   go_simp
   refine hK _ _ ⟨dt_reads (fun e he=>?_),GoesI.at ?_ d⟩
   ·have hm:=mem_listed he
    simp [go_sem, *] at hm
    try exact ⟨_,_,hm⟩
   clear hK K)
 refine goesI_call (L:=LV) (f:=54) (fn:=Tryd.f54) (args:=#[Pt S.wb 0,I s]) hE fineV rfl rfl (by decide) rfl (by simp [Act.eval]) Tryd.func54 (by kernel_rfl) rfl (fineFn_body fineV (by simp [LV,plainV]) Tryd.func54 rfl) (fun tmps=>⟨_,fun w=>results_tmp rfl _ _ _,fun w=>by simp [results,go_sem,Tryd.f54]⟩) hr2 hn2
  (R:=fun r v4=>r=Pt (v2.heap.size+1) 0∧∃ S1 K,K.length=s∧Objs v2 S (List.replicate s 0) (pkN pk0 s v2.heap.size K) S1 K v4) (fun τ=>?_) (fun r v4 w4 hR hr4 hn4=>?_)
 ·have Oτ:Objs (onTape v2 τ 0) S [] pk0 S [] (onTape v2 τ 0):=⟨Cel.refl (O2.cel.mem.grows (v':=onTape v2 τ 0) ⟨Nat.le_refl _,fun _ _=>rfl,rfl,rfl⟩).mem,rfl,O2.st,O2.has,O2.new,O2.row⟩
  refine wp_mono (body54 Oτ hlt2 s h0 h1 _ rfl) (bp_mono fun r u hq=>⟨hq.1,?_⟩)
  obtain ⟨_,S1,K,h2,o⟩:=hq
  exact ⟨S1,K,h2,⟨o.cel.from rfl rfl rfl,o.vals,o.st,o.has,o.new,o.row⟩⟩
 obtain ⟨rfl,S1,K,hKl,ob4⟩:=hR
 have hset:Objs v S (List.replicate s 0) (pkN pk0 s v2.heap.size K) S1 K v4 :=
  ⟨ob4.cel.from e20 (o2.trans (o1.trans o0)) (u2.trans (u1.trans u0)),ob4.vals,ob4.st,ob4.has,fun b hb=>by rw [←e20];exact ob4.new b hb,ob4.row⟩
 have h7:7<v2.heap.size:=by
  obtain ⟨c,t,f,hg,_⟩:=hG.b
  exact hlt2 7 (by rw [hg];simp)
 have hql:QCtr s #[Pt (v2.heap.size+1) 0] (pkN pk0 s v2.heap.size K) K:=⟨h0,h1,pk0,v2.heap.size,h7,hG,rfl,rfl,hKl⟩
 clear ob4 hr0 hr1 hr2 hn0 hn1 hn2 e0 e1 e2 e20 o0 o1 o2 u0 u1 u2 hvw hn hs hs0 hln m0 O2 hlt2 hO hlt
 walk_nrm
 iterate 1
  (refine goesI_oper rfl rfl (by decide) (fun d K hK=>?_)
   go_simp
   refine hK _ _ ⟨dt_reads (fun e he=>?_),GoesI.at ?_ d⟩
   ·have hm:=mem_listed he
    simp [go_sem, *] at hm
    try exact ⟨_,_,hm⟩
   clear hK K)
 refine goesI_into (f:=60) (fn:=Tryd.f60) (args:=#[Pt S.wb 0,.slice p n cap,.func (.func 86) #[Pt (v2.heap.size+1) 0] #[]]) (dt_idle _ _) rfl rfl (by decide) rfl (by simp [Act.eval]) Tryd.func60 (by decide) rfl ?_
 refine hk v4 w4 _ _ _ _ _ _ _ _ _ _ _ hr4 hn4 hset hql rfl (fun Ch Stop w x hg=>?_)
 clear hk hset hr4 hn4 hql
 iterate 2
  (refine goesI_oper rfl rfl (by decide) (fun d K hK=>?_)
   go_simp
   refine hK _ _ ⟨dt_reads (fun e he=>?_),GoesI.at ?_ d⟩
   ·have hm:=mem_listed he
    simp [go_sem, *] at hm
    try exact ⟨_,_,hm⟩
   clear hK K)
 refine goesI_regionEnd (dt_idle _ _) ?_
 refine GoesI.ctl rfl (fun _=>stepG_ret') (dt_idle _ _) ?_
 refine goesI_leave (b:=base 52) (fn:=Tryd.f52) (v:=.tuple #[x,I 0]) rfl rfl Tryd.func52 (fun w=>?_) (fun w=>by simp [results,go_sem,Tryd.f52]) hoc (dt_idle _ _) ?_
 ·rw [results_tmp2 (t:=6) (u:=7) rfl]
  simp
 ·have:=hg w.drawn
  exact this
theorem cplay_no {Ch:Nat→Prop} {Stop:Goroutine→World→Prop} {main:Bool} {S:TS} {v w:World} (m:Int) (p:Option Addr) (n cap:Nat) (pc:Nat→Option Addr) (ln cp:Nat→Nat) (hs:∀ k,k<n→∃ sb so,p=some ⟨sb,so,none⟩∧v.cell? ⟨sb,so+k,none⟩=some (.slice (pc k) (ln k) (cp k))) (hn1:n≤17592186043904) (hran:S.ran=false) (hm:Mem zn S [] v)
 {E:Int} (hRe:Refused n ln E∨((∀ k,k<n→ln k≤64)∧(0<n∧n≤8)∧(m<1∨16<m)∧E=1)) (cs:List Frame) {bc:Frame} {ac:Act} {ops:Array Oper} {q:Nat} {rest:List Nat} {oc:Oper} {k:List Item} (hoc:ops[q]? = some oc)
 (hvw:Rel zn v w) (hn:NoRow Ch v)
 (hk:∀ v' w',Rel zn v' w'→NoRow Ch v'→v'.heap=v.heap→v'.os=v.os→v'.output=v.output→GoesI Tryd.prog main (DT (ScZ zn) Ch) Stop (G (bc.at (ac.put oc.dst (.tuple #[.slice none 0 0,I E])) (.inRegion ops rest :: k)) cs) w') :
 GoesI Tryd.prog main (DT (ScZ zn) Ch) Stop (G ((base 52).at { tmps:=#[Pt S.wb 0,I m,.slice p n cap]++Array.replicate 25 undef,defers:=[] } [.code B52]) (bc.at ac (.inRegion ops (q :: rest) :: k) :: cs)) w:=by
 rw [eB52]
 have hA0:Fl 28 [(0,Pt S.wb 0),(1,I m),(2,.slice p n cap)] { tmps:=#[Pt S.wb 0,I m,.slice p n cap]++Array.replicate 25 undef,defers:=[] }:=by
  simp only [Array.replicate_succ,Array.replicate_zero,List.push_toArray,List.append_toArray,List.nil_append,List.cons_append]
  exact ⟨rfl,rfl,by
   intro p hp
   simp only [List.mem_cons,List.not_mem_nil,or_false] at hp
   rcases hp with rfl|rfl|rfl<;>rfl⟩
 refine goesI_seq (dt_idle _ _) ?_
 refine goesI_plain (z:=zn) (wr:=true) (L:=LV) (I:=NoRow Ch) hE fineV noRow_keeps (fun v v' w w' es hi hr ho he=>dt_of_z v v' w w' es hi hr ho he) hvw fine_k520 hA0.2.1 (by simp [base]) hn (Q:=fun a w'=>Fl 28 [(0,Pt S.wb 0),(1,I m),(2,.slice p n cap),(6,.slice none 0 0),(7,I 0)] a∧w'.heap=v.heap∧w'.os=v.os∧w'.output=v.output) (fun τ=>k520_wp (v:=onTape v τ 0) hA0) ?_
 rintro a0 v0 w0 ⟨hB0,e0,o0,u0⟩ hr0 hn0 -
 have m0:Mem zn S [] v0:=(hm.grows (v':=v0) ⟨by rw [e0];exact Nat.le_refl _,fun b _=>by rw [e0],o0,u0⟩).mem
 have hs0:∀ τ,∀ k,k<n→∃ sb so,p=some ⟨sb,so,none⟩∧(onTape v0 τ 0).cell? ⟨sb,so+k,none⟩=some (.slice (pc k) (ln k) (cp k)):=fun τ k hk=>by
  obtain ⟨sb,so,h1,h2⟩:=hs k hk
  exact ⟨sb,so,h1,by rw [World.cell?_of_block (w:=v) (w':=onTape v0 τ 0) (by show v0.heap[_]? = _;rw [e0])];exact h2⟩
 refine goesI_seq (dt_idle _ _) ?_
 rcases hRe with hRe|⟨hE1,hE2,hE3,rfl⟩
 ·refine goesI_outZ (c:=k521) (f:=52) (fn:=Tryd.f52) (L:=LV) hE fineV hr0 hn0 Tryd.func52 fine_k521 hB0.2.1 hoc (R:=fun r w'=>r=.tuple #[.slice none 0 0,I E]∧w'.heap=v0.heap∧w'.os=v0.os∧w'.output=v0.output) (fun τ=>k521_no (v:=onTape v0 τ 0) (m0.grows (v':=onTape v0 τ 0) ⟨Nat.le_refl _,fun _ _=>rfl,rfl,rfl⟩).mem.rep pc ln cp (hs0 τ) hn1 hran hRe hB0) (fun r v' w' hR hr' hn'=>?_)
  obtain ⟨rfl,h1,h2,h3⟩:=hR
  exact hk v' w' hr' hn' (h1.trans e0) (h2.trans o0) (h3.trans u0)
 ·refine goesI_plain (z:=zn) (wr:=true) (L:=LV) (I:=NoRow Ch) hE fineV noRow_keeps (fun v v' w w' es hi hr ho he=>dt_of_z v v' w w' es hi hr ho he) hr0 fine_k521 hB0.2.1 (by simp [base]) hn0 (Q:=fun a w'=>Fl 28 [(0,Pt S.wb 0),(1,I m),(2,.slice p n cap),(6,.slice none 0 0),(7,I 0)] a∧w'.heap=v0.heap∧w'.os=v0.os∧w'.output=v0.output) (fun τ=>k521_yes (v:=onTape v0 τ 0) (m0.grows (v':=onTape v0 τ 0) ⟨Nat.le_refl _,fun _ _=>rfl,rfl,rfl⟩).mem.rep pc ln cp (hs0 τ) hE1 hE2 hran hB0) ?_
  rintro a1 v1 w1 ⟨hB1,e1,o1,u1⟩ hr1 hn1 -
  refine goesI_seq (dt_idle _ _) ?_
  refine goesI_outZ (c:=k522) (f:=52) (fn:=Tryd.f52) (L:=LV) hE fineV hr1 hn1 Tryd.func52 fine_k522 hB1.2.1 hoc (R:=fun r w'=>r=.tuple #[.slice none 0 0,I 1]∧w'.heap=v1.heap∧w'.os=v1.os∧w'.output=v1.output) (fun τ=>hE3.elim (fun h=>k522_no1 (v:=onTape v1 τ 0) h hB1) (fun h=>k522_no2 (v:=onTape v1 τ 0) h hB1)) (fun r v' w' hR hr' hn'=>?_)
  obtain ⟨rfl,h1,h2,h3⟩:=hR
  exact hk v' w' hr' hn' (h1.trans (e1.trans e0)) (h2.trans (o1.trans o0)) (h3.trans (u1.trans u0))
section
variable {S:TS} {n sb so cap:Nat} {pc:Nat→Option Addr} {ln cp rb:Nat→Nat} {cl:Nat→List Cl}
theorem cplay_all (s:Nat) (h0:0<s) (h1:s≤16) {cs:List Frame} {bc:Frame} {ac:Act} {ops:Array Oper} {q0:Nat} {rest:List Nat} {oc:Oper} {k0:List Item} (hoc:ops[q0]? = some oc) {w:World} {T:Trace} {gs:Array Goroutine} {q:Nat→Nat} (sl:Option (Nat×Nat)) (NT:Nat) (A:Alone gs w T q)
 (hg:gs[0]? = some (G ((base 52).at { tmps:=#[Pt S.wb 0,I s,.slice (some ⟨sb,so,none⟩) n cap]++Array.replicate 25 undef,defers:=[] } [.code B52]) (bc.at ac (.inRegion ops (q0 :: rest) :: k0) :: cs)))
 (hm:Mem zn S [] w) (hthr:S.thr=[]) (hran:S.ran=false) (hch:S.chg=[]) (hbk:Open w S.bk) {pk0:Nat→Option Obj} (hG:GF pk0) (hpk:Has pk0 w) (hpf:∀ b,pk0 b≠none→¬ Own S [] b∧b≠S.bk) (hpr:∀ b o,pk0 b=some o→∃ c e f,o=.cells c e f) (t:Asked w S n sb so pc ln cp rb cl) (hn8:0<n∧n≤8)
 (hlen:∀ caps pk N K,S.n+2*lens (scrs (mcC s) 86 caps pk N n K pc ln cp rb cl)≤1000000) (hsl:S.sched.length≤4611686018427387904) (hsc:∀ x∈S.sched,-9223372036854775808≤x∧x<9223372036854775808) (l0:Nat→Ph)
 (hturn:∀ (caps:Array Value) (pk:Nat→Option Obj) (N:Nat) (cv:Value) (K:List (Nat×Int)),K.map (·.2)=List.replicate s 0→∀ S1 l1,Hires (mcC s) 0 (scrs (mcC s) 86 caps pk N n K pc ln cp rb cl) (nv { cellsS S cv (List.replicate s (0:Int)).length with ran:=true }) l0 S1 l1→∃ m p',m≤NT∧Turns (mcC s) m ⟨S1,K,l1⟩ p'∧p'.S.n*40≤140737488355328) :
 ∃ (N':Nat) (gs':Array Goroutine) (w':World) (sl':Option (Nat×Nat)) (T':Trace) (q':Nat→Nat) (caps:Array Value) (pk:Nat→Option Obj) (N:Nat) (cv:Value) (K:List (Nat×Int)) (S':TS) (S1:TS) (l1:Nat→Ph) (m:Nat) (p':PSt),
   runNT Tryd.prog N' (crowd gs w sl) T=(.next (crowd gs' w' sl'),T')∧gs'.size=gs.size+n∧gs'[0]? = some (G (bc.at (ac.put oc.dst (.tuple #[.slice (some ⟨N+1,0,none⟩) n n,I 0])) (.inRegion ops rest :: k0)) cs) ∧
   Alone gs' w' T' q'∧K.map (·.2)=List.replicate s 0∧nv S'=p'.S∧Hires (mcC s) 0 (scrs (mcC s) 86 caps pk N n K pc ln cp rb cl) (nv { cellsS S cv (List.replicate s (0:Int)).length with ran:=true }) l0 S1 l1∧Turns (mcC s) m ⟨S1,K,l1⟩ p'∧GOut w S n ln N S' p'.K p'.l w':=by
 refine gplay_all (xs:=List.replicate s 0) (cap:=cap) (q0:=q0) (pkgC s) (mineCtr s) sl NT A hg ?_ hm hthr hran hbk t hn8 hlen hsl hsc l0 hturn
 exact cplay_in s h0 h1 hG (Objs.startG hm hch hpk hpf hpr) (fun b hb=>by
  obtain ⟨o,ho⟩:=Option.ne_none_iff_exists'.1 hb
  exact (Array.getElem?_eq_some_iff.1 (hpk b o ho)).1) (some ⟨sb,so,none⟩) n cap hn8 hran pc ln cp (fun k hk=>⟨sb,so,rfl,t.row k hk⟩) (fun k hk=>(t.len k hk).2) cs hoc (Rel.refl w) (fun c hc=>hc.elim)
  (fun v' w' bd ad od qd rd oe kd caps pk S1 K hr hn ho hq hoe hback=>GoesI.stop fun d=>⟨bd,ad,od,qd,rd,oe,kd,caps,pk,S1,K,ho.same hr.eq hr.os hr.output,hq,hoe,hback,rfl⟩)
end
structure Rws (M:Nat) (n:Nat) (A cp ln:Nat→Nat) (e x:Nat→Nat→Int) (v:World):Prop where
 row:∀ k,k<n→v.cell? ⟨M,k,none⟩=some (.slice (some ⟨A k,0,none⟩) (ln k) (cp k))
 ans:∀ k,k<n→∀ j,j<ln k→v.cell? ⟨A k,j*2,none⟩=some (I (e k j))∧v.cell? ⟨A k,j*2+1,none⟩=some (I (x k j))
theorem Rws.same {M n:Nat} {A cp ln:Nat→Nat} {e x:Nat→Nat→Int} {v v':World} (h:Rws M n A cp ln e x v) (hh:v'.heap=v.heap):Rws M n A cp ln e x v':=by
 have hc:∀ a,v'.cell? a=v.cell? a:=fun a=>World.cell?_of_block (w:=v) (w':=v') (by rw [hh])
 exact ⟨fun k hk=>by rw [hc];exact h.row k hk,fun k hk j hj=>by rw [hc,hc];exact h.ans k hk j hj⟩
def Sam (v u:World):Prop:=u.heap=v.heap∧u.os=v.os∧u.output=v.output
theorem body58 {v:World} (M M' n c1 c2:Nat) {A B ca cb ln:Nat→Nat} {e x:Nat→Nat→Int} (h1:Rws M n A ca ln e x v) (h2:Rws M' n B cb ln e x v) (hn:n≤1000000) (hln:∀ k,k<n→ln k≤1000000) :
 Body Tryd.f58 #[.slice (some ⟨M,0,none⟩) n c1,.slice (some ⟨M',0,none⟩) n c2] v (fun r v'=>r=.bool true∧v'.heap=v.heap∧v'.os=v.os∧v'.output=v.output):=by
 intro code hb
 obtain rfl:=Option.some.inj hb
 clear hb
 have H1:Hid (∀ u,Sam v u→Rws M n A ca ln e x u∧Rws M' n B cb ln e x u):=⟨fun u hu=>⟨h1.same hu.1,h2.same hu.1⟩⟩
 have HL:Hid (∀ k,k<n→ln k≤1000000):=⟨hln⟩
 clear h1 h2 hln
 simp only [Tryd.ntmps58,List.size_toArray,List.length_cons,List.length_nil,Nat.reduceAdd,Nat.reduceSub,Array.replicate_succ,Array.replicate_zero,List.push_toArray,List.append_toArray,List.nil_append,List.cons_append]
 go_wp2_with fail
 go_loopw [5] (fun i u=>∃ k:Nat,k≤n∧i=.int .i64 k∧Hid (Sam v u)) (fun i _=>n - (intOf i).toNat)
 case atStart=>exact ⟨0,Nat.zero_le _,rfl,⟨rfl,rfl,rfl⟩⟩
 case round =>
  obtain ⟨k,hk,rfl,hs⟩:=hrel
  by_cases hlt:k<n
  ·obtain ⟨r1,r2⟩:=H1.out wr hs.out
   have a1:=r1.row k hlt
   have a2:=r2.row k hlt
   have hl:=HL.out k hlt
   clear r1 r2
   have hlt':(k:Int)<(n:Int):=by omega
   have hnl:¬ n≤k:=by omega
   obtain ⟨wo,hwo⟩:∃ wo,wo=wr:=⟨wr,rfl⟩
   rw [←hwo] at hs a1 a2 ⊢
   clear hwo
   go_wp2_with fail
   go_quiet (fail)
   go_wp2_with fail
   go_loopw [6] (fun i u=>∃ j:Nat,j≤ln k∧i=.int .i64 j∧Hid (Sam v u)) (fun i _=>ln k - (intOf i).toNat)
   case atStart=>exact ⟨0,Nat.zero_le _,rfl,hs.out.1,hs.out.2.1,hs.out.2.2⟩
   case round =>
    obtain ⟨j,hj,rfl,hs2⟩:=hrel
    obtain ⟨r1,r2⟩:=H1.out wr hs2.out
    have b1:=r1.row k hlt
    have b2:=r2.row k hlt
    by_cases hjl:j<ln k
    ·have c1':=r1.ans k hlt j hjl
     have c2':=r2.ans k hlt j hjl
     obtain ⟨x1,x2⟩:=c1'
     obtain ⟨y1,y2⟩:=c2'
     clear r1 r2 a1 a2
     have hjl':(j:Int)<(ln k:Int):=by omega
     have hnj:¬ ln k≤j:=by omega
     go_wp2_with fail
     go_quiet (fail)
     go_wp2_with fail
     go_roundw
     case rel=>exact ⟨j+1,by omega,by go_num,hs2.out.1,hs2.out.2.1,hs2.out.2.2⟩
     case measure=>simp [intOf];omega
    ·have hjj:j=ln k:=by omega
     subst hjj
     clear r1 r2 a1 a2
     go_wp2_with fail
     go_roundw
     case rel=>exact ⟨k+1,by omega,by go_num,hs2.out.1,hs2.out.2.1,hs2.out.2.2⟩
     case measure=>simp [intOf];omega
  ·have hkk:k=n:=by omega
   subst hkk
   go_wp2_with fail
   go_ret
   exact ⟨_,rfl,rfl,hs.out.1,hs.out.2.1,hs.out.2.2⟩
variable {mc:Mc}
theorem turns_det:∀ {m m':Nat} {p p1 p2:PSt},Turns mc m p p1→Turns mc m' p p2→p1=p2
 |_,_,_,_,_,.stop h,.stop h'=>rfl
 |_,_,_,_,_,.stop h,.step h' _=>by rw [h] at h';cases h'
 |_,_,_,_,_,.step h _,.stop h'=>by rw [h] at h';cases h'
 |_,_,_,_,_,.step h t,.step h' t'=>by
  rw [h] at h'
  cases h'
  exact turns_det t t'
def pt (mc:Mc) (p:PSt):PSt:=(pturn mc p).getD p
def pts (mc:Mc):Nat→PSt→PSt
 |0,p=>p
 |n+1,p=>pts mc n (pt mc p)
def runs (mc:Mc):Nat→PSt→Bool
 |0,p=>(pturn mc p).isNone
 |n+1,p=>(pturn mc p).isSome&&runs mc n (pt mc p)
theorem turns_of:∀ (n:Nat) (p:PSt),runs mc n p=true→Turns mc n p (pts mc n p)
 |0,p,h=>by
  refine .stop ?_
  cases hp:pturn mc p with
  |none=>rfl
  |some x=>unfold runs at h;rw [hp] at h;cases h
 |n+1,p,h=>by
  unfold runs at h
  rw [Bool.and_eq_true] at h
  refine .step ?_ (turns_of n (pt mc p) h.2)
  unfold pt
  cases hp:pturn mc p with
  |none=>rw [hp] at h;cases h.1
  |some x=>rfl
end Go.Proofs.YtfjjoohflcchnaaDoor.Gen
namespace Go.Proofs.YtfjjoohflcchnaaDoor.Gen
open Go Go.Lift Go.Conc Go.RowKit
open Go.ConcN (upd upd_same upd_ne)
def clW (j:Nat):List Cl:=if j=0 then [⟨1,5,0,0⟩,⟨2,0,0,0⟩] else [⟨1,-7,0,0⟩]
def lnW (j:Nat):Nat:=if j=0 then 2 else 1
def an0 (j:Nat):List (Int×Int):=List.replicate (lnW j) (0,0)
def awST (wb bk base:Nat) (sc cv:Value) (k:Nat):TS:=nv { cellsS (newS wb bk base sc []) cv k with ran:=true }
def awF (wb bk base:Nat) (sc cv:Value) (tv0:Value) (tb0 gc0:Nat):TS×Ph:=flow 0 (mcC 2) (clW 0) 0 false (an0 0) (hiredS (awST wb bk base sc cv 2) tv0 tb0 gc0)
def awG (wb bk base:Nat) (sc cv:Value) (tv0:Value) (tb0 gc0:Nat) (tv1:Value) (tb1 gc1:Nat):TS×Ph:=flow 1 (mcC 2) (clW 1) 0 false (an0 1) (hiredS (awF wb bk base sc cv tv0 tb0 gc0).1 tv1 tb1 gc1)
def awPT (wb bk base:Nat) (sc cv:Value) (tv0:Value) (tb0 gc0:Nat) (tv1:Value) (tb1 gc1:Nat) (cb0 cb1:Nat) (l0:Nat→Ph):PSt :=
 ⟨(awG wb bk base sc cv tv0 tb0 gc0 tv1 tb1 gc1).1,[(cb0,0),(cb1,0)],upd (upd l0 0 (awF wb bk base sc cv tv0 tb0 gc0).2) 1 (awG wb bk base sc cv tv0 tb0 gc0 tv1 tb1 gc1).2⟩
section
variable (wb bk base:Nat) (sc cv:Value) (tv0:Value) (tb0 gc0:Nat) (tv1:Value) (tb1 gc1:Nat) (cb0 cb1:Nat) (l0:Nat→Ph)
set_option maxRecDepth 100000
theorem awt_runs:runs (mcC 2) 8 (awPT wb bk base sc cv tv0 tb0 gc0 tv1 tb1 gc1 cb0 cb1 l0)=true:=by kernel_rfl
theorem awt_n:(pts (mcC 2) 8 (awPT wb bk base sc cv tv0 tb0 gc0 tv1 tb1 gc1 cb0 cb1 l0)).S.n=14:=by kernel_rfl
theorem awt_ans:((pts (mcC 2) 8 (awPT wb bk base sc cv tv0 tb0 gc0 tv1 tb1 gc1 cb0 cb1 l0)).l 0).ans=[(0,0),(0,-2)]∧((pts (mcC 2) 8 (awPT wb bk base sc cv tv0 tb0 gc0 tv1 tb1 gc1 cb0 cb1 l0)).l 1).ans=[(0,0)]:=⟨by kernel_rfl,by kernel_rfl⟩
end
end Go.Proofs.YtfjjoohflcchnaaDoor.Gen
namespace Go.Proofs.YtfjjoohflcchnaaDoor.Gen
open Go Go.Lift Go.Conc Go.RowKit
noncomputable def B51:Code:=Tryd.f51.body.getD .skip
noncomputable def b510:Code:=seq1 B51
noncomputable def b511:Code:=seq1 (seq2 B51)
noncomputable def r512:Code:=seq1 (seq2 (seq2 B51))
noncomputable def T51:Code:=seq2 (seq2 (seq2 B51))
theorem eB51:B51=.seq b510 (.seq b511 (.seq r512 T51)):=by kernel_rfl
theorem fine510:fineCode Tryd.prog true LV b510:=fineCode_askS callV extT (by kernel_rfl)
theorem fine511:fineCode Tryd.prog true LV b511:=fineCode_askS callV extT (by kernel_rfl)
theorem fineT51:fineCode Tryd.prog true LV T51:=fineCode_askS callV extT (by kernel_rfl)
theorem b510_wp {v:World} :
 b510.wp Tryd.prog (fun e a w'=>e=.normal∧a={ tmps:=#[.bool false]++Array.replicate 27 undef,defers:=[] }∧w'.heap=v.heap∧w'.os=v.os∧w'.output=v.output)
  { tmps:=Array.replicate 28 undef,defers:=[] } v:=by
 show Code.wp Tryd.prog (seq1 (Tryd.f51.body.getD .skip)) _ _ _
 unfold Tryd.f51 seq1
 simp only [Option.getD_some,Array.replicate_succ,Array.replicate_zero,List.push_toArray,List.append_toArray,List.nil_append,List.cons_append]
 go_wp2_with fail
 try exact ⟨rfl,rfl,rfl⟩
theorem b511_wp {v:World} :
 b511.wp Tryd.prog (fun e a w'=>e=.normal∧∃ wb bk sc,a={ tmps:=#[.bool false,Pt wb 0,undef,undef,Pt wb 0]++Array.replicate 23 undef,defers:=[] }∧IsNew v [] wb bk sc w')
  { tmps:=#[.bool false]++Array.replicate 27 undef,defers:=[] } v:=by
 have H7:Hid (Calls Tryd.prog 17 #[.slice none 0 0] v _):=⟨(body70 (v:=v) none 0).calls Tryd.func17 rfl⟩
 show Code.wp Tryd.prog (seq1 (seq2 (Tryd.f51.body.getD .skip))) _ _ _
 unfold Tryd.f51 seq1 seq2
 simp only [Option.getD_some,Array.replicate_succ,Array.replicate_zero,List.push_toArray,List.append_toArray,List.nil_append,List.cons_append]
 go_wp2_with (first
  |(go_at_call 17;refine H7.out.mono ?_;rintro e w1 ⟨_,rfl,wb,bk,sc,rfl,hnew⟩))
 exact ⟨bk,sc,hnew⟩
structure Done51 (M:Nat) (A:Nat→Nat) (u:World):Prop where
 row:∀ k,k<2→u.cell? ⟨M,k,none⟩=some (.slice (some ⟨A k,0,none⟩) (lnW k) (lnW k))
 a0:u.heap[A 0]? = some (.cells #[I 0,I 0,I 0,I (-2)] 38)
 a1:u.heap[A 1]? = some (.cells #[I 0,I 0] 38)
def exW (k j:Nat):Int:=if k=0∧j=1 then -2 else 0
theorem same51 {v:World} {M:Nat} {A:Nat→Nat} (h:Done51 M A v):Calls Tryd.prog 58 #[.slice (some ⟨M,0,none⟩) 2 2,.slice (some ⟨v.heap.size+2,0,none⟩) 2 2] (((v.alloc (.cells #[I 0,I 0,I 0,I (-2)] 38)).alloc (.cells #[I 0,I 0] 38)).alloc (.cells #[.slice (some ⟨v.heap.size,0,none⟩) 2 2,.slice (some ⟨v.heap.size+1,0,none⟩) 1 1] 31)) (fun e w'=>e=.returned (.bool true)∧w'.heap=(((v.alloc (.cells #[I 0,I 0,I 0,I (-2)] 38)).alloc (.cells #[I 0,I 0] 38)).alloc (.cells #[.slice (some ⟨v.heap.size,0,none⟩) 2 2,.slice (some ⟨v.heap.size+1,0,none⟩) 1 1] 31)).heap∧w'.os=v.os∧w'.output=v.output):=by
 have old:∀ b,b<v.heap.size→(((v.alloc (.cells #[I 0,I 0,I 0,I (-2)] 38)).alloc (.cells #[I 0,I 0] 38)).alloc (.cells #[.slice (some ⟨v.heap.size,0,none⟩) 2 2,.slice (some ⟨v.heap.size+1,0,none⟩) 1 1] 31)).heap[b]? = v.heap[b]?:=fun b hb=>by
  show (((v.heap.push _).push _).push _)[b]? = _
  simp only [Array.getElem?_push,Array.size_push]
  repeat rw [if_neg (by omega)]
 have n0:(((v.alloc (.cells #[I 0,I 0,I 0,I (-2)] 38)).alloc (.cells #[I 0,I 0] 38)).alloc (.cells #[.slice (some ⟨v.heap.size,0,none⟩) 2 2,.slice (some ⟨v.heap.size+1,0,none⟩) 1 1] 31)).heap[v.heap.size]? = some (.cells #[I 0,I 0,I 0,I (-2)] 38):=by
  show (((v.heap.push _).push _).push _)[v.heap.size]? = _
  simp only [Array.getElem?_push,Array.size_push]
  repeat first|rw [if_pos trivial]|rw [if_pos (by omega)]|rw [if_neg (by omega)]
 have n1:(((v.alloc (.cells #[I 0,I 0,I 0,I (-2)] 38)).alloc (.cells #[I 0,I 0] 38)).alloc (.cells #[.slice (some ⟨v.heap.size,0,none⟩) 2 2,.slice (some ⟨v.heap.size+1,0,none⟩) 1 1] 31)).heap[v.heap.size+1]? = some (.cells #[I 0,I 0] 38):=by
  show (((v.heap.push _).push _).push _)[v.heap.size+1]? = _
  simp only [Array.getElem?_push,Array.size_push]
  repeat first|rw [if_pos trivial]|rw [if_pos (by omega)]|rw [if_neg (by omega)]
 have n2:(((v.alloc (.cells #[I 0,I 0,I 0,I (-2)] 38)).alloc (.cells #[I 0,I 0] 38)).alloc (.cells #[.slice (some ⟨v.heap.size,0,none⟩) 2 2,.slice (some ⟨v.heap.size+1,0,none⟩) 1 1] 31)).heap[v.heap.size+2]? = some (.cells #[.slice (some ⟨v.heap.size,0,none⟩) 2 2,.slice (some ⟨v.heap.size+1,0,none⟩) 1 1] 31):=by
  show (((v.heap.push _).push _).push _)[v.heap.size+2]? = _
  simp only [Array.getElem?_push,Array.size_push]
  repeat first|rw [if_pos trivial]|rw [if_pos (by omega)]|rw [if_neg (by omega)]
 have hb:=body58 (v:=(((v.alloc (.cells #[I 0,I 0,I 0,I (-2)] 38)).alloc (.cells #[I 0,I 0] 38)).alloc (.cells #[.slice (some ⟨v.heap.size,0,none⟩) 2 2,.slice (some ⟨v.heap.size+1,0,none⟩) 1 1] 31))) M (v.heap.size+2) 2 2 2 (A:=A) (B:=fun k=>v.heap.size+k) (ca:=lnW) (cb:=lnW) (ln:=lnW) (e:=fun _ _=>0) (x:=exW) ⟨fun k hk=>?_,fun k hk j hj=>?_⟩ ⟨fun k hk=>?_,fun k hk j hj=>?_⟩ (by decide) (fun k hk=>by unfold lnW;split<;>decide)
 ·refine (hb.calls Tryd.func58 rfl).mono ?_
  rintro e w' ⟨r,rfl,rfl,h1,h2,h3⟩
  exact ⟨rfl,h1,h2,h3⟩
 ·have:=h.row k hk
  rw [World.cell?_of_block (w:=v) (w':=(((v.alloc (.cells #[I 0,I 0,I 0,I (-2)] 38)).alloc (.cells #[I 0,I 0] 38)).alloc (.cells #[.slice (some ⟨v.heap.size,0,none⟩) 2 2,.slice (some ⟨v.heap.size+1,0,none⟩) 1 1] 31))) (old M (World.block_lt_of_cell? _ _ this))]
  exact this
 ·have:k=0∨k=1:=by omega
  rcases this with rfl|rfl
  ·have h2:(((v.alloc (.cells #[I 0,I 0,I 0,I (-2)] 38)).alloc (.cells #[I 0,I 0] 38)).alloc (.cells #[.slice (some ⟨v.heap.size,0,none⟩) 2 2,.slice (some ⟨v.heap.size+1,0,none⟩) 1 1] 31)).heap[A 0]? = some (.cells #[I 0,I 0,I 0,I (-2)] 38):=by rw [old _ (Array.getElem?_eq_some_iff.1 h.a0).1];exact h.a0
   have:j=0∨j=1:=by simp [lnW] at hj;omega
   rcases this with rfl|rfl<;>exact ⟨cell_of h2 rfl,cell_of h2 rfl⟩
  ·have h2:(((v.alloc (.cells #[I 0,I 0,I 0,I (-2)] 38)).alloc (.cells #[I 0,I 0] 38)).alloc (.cells #[.slice (some ⟨v.heap.size,0,none⟩) 2 2,.slice (some ⟨v.heap.size+1,0,none⟩) 1 1] 31)).heap[A 1]? = some (.cells #[I 0,I 0] 38):=by rw [old _ (Array.getElem?_eq_some_iff.1 h.a1).1];exact h.a1
   obtain rfl:j=0:=by simp [lnW] at hj;omega
   exact ⟨cell_of h2 rfl,cell_of h2 rfl⟩
 ·have:k=0∨k=1:=by omega
  rcases this with rfl|rfl<;>exact cell_of n2 rfl
 ·have:k=0∨k=1:=by omega
  rcases this with rfl|rfl
  ·have:j=0∨j=1:=by simp [lnW] at hj;omega
   rcases this with rfl|rfl<;>exact ⟨cell_of n0 rfl,cell_of n0 rfl⟩
  ·obtain rfl:j=0:=by simp [lnW] at hj;omega
   exact ⟨cell_of n1 rfl,cell_of n1 rfl⟩
theorem T51_wp {v:World} {M:Nat} {A:Nat→Nat} (h:Done51 M A v) {a:Act} (hA:Fl 28 [(2,.slice (some ⟨M,0,none⟩) 2 2),(3,I 0)] a) :
 T51.wp Tryd.prog (fun e a w'=>e=.ret∧∃ x,(results Tryd.f51 a.tmps).run Tryd.prog w'=.ok x w'∧x=.bool true∧Grows v w') a v:=by
 have g3:Grows v (((v.alloc (.cells #[I 0,I 0,I 0,I (-2)] 38)).alloc (.cells #[I 0,I 0] 38)).alloc (.cells #[.slice (some ⟨v.heap.size,0,none⟩) 2 2,.slice (some ⟨v.heap.size+1,0,none⟩) 1 1] 31)):=⟨by show _≤(((v.heap.push _).push _).push _).size;simp;omega,fun b hb=>by
  show (((v.heap.push _).push _).push _)[b]? = _
  simp only [Array.getElem?_push,Array.size_push]
  repeat rw [if_neg (by omega)],rfl,rfl⟩
 have H1:Hid (Calls Tryd.prog 58 #[.slice (some ⟨M,0,none⟩) 2 2,.slice (some ⟨v.heap.size+2,0,none⟩) 2 2] (((v.alloc (.cells #[I 0,I 0,I 0,I (-2)] 38)).alloc (.cells #[I 0,I 0] 38)).alloc (.cells #[.slice (some ⟨v.heap.size,0,none⟩) 2 2,.slice (some ⟨v.heap.size+1,0,none⟩) 1 1] 31)) (fun e w1=>e=.returned (.bool true)∧Hid (Grows v w1))):=⟨(same51 h).mono (by
  rintro e w1 ⟨rfl,h1,h2,h3⟩
  exact ⟨rfl,⟨by rw [h1];exact g3.size,fun b hb=>by rw [h1];exact g3.old b hb,h2,h3⟩⟩)⟩
 clear h g3
 obtain ⟨hsz,hd,hpp⟩:=hA
 obtain ⟨u,rfl,hg⟩:=litN hsz hd
 have u2:=(hg 2).symm.trans (hpp (2,.slice (some ⟨M,0,none⟩) 2 2) (by simp))
 have u3:=(hg 3).symm.trans (hpp (3,I 0) (by simp))
 clear hg hpp hsz hd
 unfold T51 B51 Tryd.f51 seq2
 simp only [Option.getD_some,lits,Nat.reduceAdd,u2,u3]
 clear u2 u3
 go_wp2_with (first
  |(go_at_call 58;refine H1.out.mono ?_;rintro e w1 ⟨rfl,H2⟩))
 exact ⟨_,results_tmp (t:=0) rfl _ _ _,rfl,H2.out⟩
structure Set51 (v:World) (wb bk:Nat) (sc:Value) (c:Nat) (u:World):Prop where
 mem:Mem zn (newS wb bk v.heap.size sc []) [] u
 opn:Open u bk
 c0:u.heap[c]? = some (.cells #[I 1,I 5,I 0,I 0,I 2,I 0,I 0,I 0] 35)
 c1:u.heap[c+1]? = some (.cells #[I 1,I (-7),I 0,I 0] 35)
 scr:u.heap[c+2]? = some (.cells #[.slice (some ⟨c,0,none⟩) 2 2,.slice (some ⟨c+1,0,none⟩) 1 1] 33)
 own:∀ b,Own (newS wb bk v.heap.size sc []) [] b∨b=bk→v.heap.size≤b∧b<c
 old:Grows v u
theorem Set51.same {v:World} {wb bk:Nat} {sc:Value} {c:Nat} {u u':World} (h:Set51 v wb bk sc c u) (e:u'.heap=u.heap) (e1:u'.os=u.os) (e2:u'.output=u.output):Set51 v wb bk sc c u':=by
 have g:Grows u u':=⟨by rw [e];exact Nat.le_refl _,fun b _=>by rw [e],e1,e2⟩
 refine ⟨(h.mem.grows g).mem,?_,by rw [e];exact h.c0,by rw [e];exact h.c1,by rw [e];exact h.scr,h.own,⟨by rw [e];exact h.old.size,fun b hb=>by rw [e];exact h.old.old b hb,e1.trans h.old.os,e2.trans h.old.output⟩⟩
 obtain ⟨c,m,hh⟩:=h.opn
 exact ⟨c,m,by rw [e];exact hh⟩
theorem cawake_in {Ch:Nat→Prop} {Stop:Goroutine→World→Prop} {main:Bool} {v w:World} (cs:List Frame) {bc:Frame} {ac:Act} {ops:Array Oper} {q:Nat} {rest:List Nat} {oc:Oper} {k:List Item} (hoc:ops[q]? = some oc)
 (hvw:Rel zn v w) (hn:NoRow Ch v)
 (hk:∀ v' w' (wb bk:Nat) (sc:Value) (c:Nat) (bd:Frame) (ad:Act) (od:Array Oper) (qd:Nat) (rd:List Nat) (oe:Oper) (kd:List Item),Rel zn v' w'→NoRow Ch v'→Set51 v wb bk sc c v'→od[qd]? = some oe →
   (∀ (Ch:Nat→Prop) (Stop:Goroutine→World→Prop) (M:Nat) (A:Nat→Nat) (v w:World),Rel zn v w→NoRow Ch v→Done51 M A v→(∀ v' w',Rel zn v' w'→NoRow Ch v'→Grows v v'→GoesI Tryd.prog main (DT (ScZ zn) Ch) Stop (G (bc.at (ac.put oc.dst (.bool true)) (.inRegion ops rest :: k)) cs) w')→GoesI Tryd.prog main (DT (ScZ zn) Ch) Stop (G (bd.at (ad.put oe.dst (.tuple #[.slice (some ⟨M,0,none⟩) 2 2,I 0])) (.inRegion od rd :: kd)) (bc.at ac (.inRegion ops (q :: rest) :: k) :: cs)) w) →
   GoesI Tryd.prog main (DT (ScZ zn) Ch) Stop (G ((base 52).at { tmps:=#[Pt wb 0,I 2,.slice (some ⟨c+2,0,none⟩) 2 2]++Array.replicate 25 undef,defers:=[] } [.code B52]) (bd.at ad (.inRegion od (qd :: rd) :: kd) :: bc.at ac (.inRegion ops (q :: rest) :: k) :: cs)) w') :
 GoesI Tryd.prog main (DT (ScZ zn) Ch) Stop (G ((base 51).at { tmps:=Array.replicate 28 undef,defers:=[] } [.code B51]) (bc.at ac (.inRegion ops (q :: rest) :: k) :: cs)) w:=by
 rw [eB51]
 refine goesI_seq (dt_idle _ _) ?_
 refine goesI_plain (z:=zn) (wr:=true) (L:=LV) (I:=NoRow Ch) hE fineV noRow_keeps (fun v v' w w' es hi hr ho he=>dt_of_z v v' w w' es hi hr ho he) hvw fine510 rfl (by simp [base]) hn
  (Q:=fun a w'=>a={ tmps:=#[.bool false]++Array.replicate 27 undef,defers:=[] }∧w'.heap=v.heap∧w'.os=v.os∧w'.output=v.output) (fun τ=>b510_wp (v:=onTape v τ 0)) ?_
 rintro a0 v0 w0 ⟨rfl,e0,o0,u0⟩ hr0 hn0 -
 refine goesI_seq (dt_idle _ _) ?_
 refine goesI_plain (z:=zn) (wr:=true) (L:=LV) (I:=NoRow Ch) hE fineV noRow_keeps (fun v v' w w' es hi hr ho he=>dt_of_z v v' w w' es hi hr ho he) hr0 fine511 rfl (by simp [base]) hn0
  (Q:=fun a w'=>∃ wb bk sc,a={ tmps:=#[.bool false,Pt wb 0,undef,undef,Pt wb 0]++Array.replicate 23 undef,defers:=[] }∧IsNew v0 [] wb bk sc w') (fun τ=>?_) ?_
 ·refine wp_mono (b511_wp (v:=onTape v0 τ 0)) (fun e a w' hq=>⟨hq.1,?_⟩)
  obtain ⟨_,wb,bk,sc,h1,h2⟩:=hq
  exact ⟨wb,bk,sc,h1,⟨h2.mem,h2.opn,h2.new,⟨h2.old.size,h2.old.old,h2.old.os,h2.old.output⟩⟩⟩
 rintro a1 v1 w1 ⟨wb,bk,sc,rfl,hnew⟩ hr1 hn1 -
 have hset:Set51 v wb bk sc v1.heap.size (((v1.alloc (.cells #[I 1,I 5,I 0,I 0,I 2,I 0,I 0,I 0] 35)).alloc (.cells #[I 1,I (-7),I 0,I 0] 35)).alloc (.cells #[.slice (some ⟨v1.heap.size,0,none⟩) 2 2,.slice (some ⟨v1.heap.size+1,0,none⟩) 1 1] 33)):=by
  have g1:Grows v1 (((v1.alloc (.cells #[I 1,I 5,I 0,I 0,I 2,I 0,I 0,I 0] 35)).alloc (.cells #[I 1,I (-7),I 0,I 0] 35)).alloc (.cells #[.slice (some ⟨v1.heap.size,0,none⟩) 2 2,.slice (some ⟨v1.heap.size+1,0,none⟩) 1 1] 33)):=⟨by show _≤(((v1.heap.push _).push _).push _).size;simp;omega,fun b hb=>by
   show (((v1.heap.push _).push _).push _)[b]? = _
   simp only [Array.getElem?_push,Array.size_push]
   repeat rw [if_neg (by omega)],rfl,rfl⟩
  have hm1:=hnew.mem
  have hnn:=hnew.new
  rw [e0] at hm1 hnn
  refine ⟨(hm1.grows g1).mem,?_,?_,?_,?_,fun b hb=>⟨hnn b hb,?_⟩,⟨?_,fun b hb=>?_,?_,?_⟩⟩
  ·obtain ⟨c,m,h⟩:=hnew.opn
   exact ⟨c,m,by rw [g1.old _ (Array.getElem?_eq_some_iff.1 h).1];exact h⟩
  ·show (((v1.heap.push _).push _).push _)[v1.heap.size]? = _
   simp only [Array.getElem?_push,Array.size_push]
   repeat first|rw [if_pos trivial]|rw [if_pos (by omega)]|rw [if_neg (by omega)]
  ·show (((v1.heap.push _).push _).push _)[v1.heap.size+1]? = _
   simp only [Array.getElem?_push,Array.size_push]
   repeat first|rw [if_pos trivial]|rw [if_pos (by omega)]|rw [if_neg (by omega)]
  ·show (((v1.heap.push _).push _).push _)[v1.heap.size+2]? = _
   simp only [Array.getElem?_push,Array.size_push]
   repeat first|rw [if_pos trivial]|rw [if_pos (by omega)]|rw [if_neg (by omega)]
  ·rcases hb with hb|rfl
   ·exact hm1.lt hb
   ·obtain ⟨c,m,h⟩:=hnew.opn
    exact (Array.getElem?_eq_some_iff.1 h).1
  ·have:=hnew.old.size;have:=g1.size;rw [e0] at *;omega
  ·rw [g1.old b (by have:=hnew.old.size;rw [e0] at this;omega),hnew.old.old b (by rw [e0];exact hb),e0]
  ·exact hnew.old.os.trans o0
  ·exact hnew.old.output.trans u0
 clear hnew hr0 hn0 e0 o0 u0 hvw hn
 unfold r512 B51 Tryd.f51 seq1 seq2
 simp only [Option.getD_some,Array.replicate_succ,Array.replicate_zero,List.push_toArray,List.append_toArray,List.nil_append,List.cons_append]
 refine goesI_seq (dt_idle _ _) ?_
 refine goesI_region (dt_idle _ _) ?_
 simp only [List.size_toArray,List.length_cons,List.length_nil,Nat.reduceAdd,Nat.zero_add,List.range,List.range.loop]
 iterate 1
  (refine goesI_oper rfl rfl (by decide) (fun d K hK=>?_)
   go_simp
   refine hK _ _ ⟨dt_reads (fun e he=>?_),GoesI.at ?_ d⟩
   ·have hm:=mem_listed he
    simp [go_sem, *] at hm
    try exact ⟨_,_,hm⟩
   clear hK K)
 refine goesI_opZ (L:=LV) rfl rfl (by decide) (fineOp_ask callV extT (by kernel_rfl)) hr1 hn1 (v':=v1) (x:=.agg #[I 1,I 5,I 0,I 0]) (by go_simp) rfl (fun w2 hr2 hn2=>?_)
 refine goesI_opZ (L:=LV) rfl rfl (by decide) (fineOp_ask callV extT (by kernel_rfl)) hr2 hn2 (v':=v1) (x:=.agg #[I 2,I 0,I 0,I 0]) (by go_simp) rfl (fun w2b hr2b hn2b=>?_)
 refine goesI_opZ (L:=LV) rfl rfl (by decide) (fineOp_ask callV extT (by kernel_rfl)) hr2b hn2b (v':=(v1.alloc (.cells #[I 1,I 5,I 0,I 0,I 2,I 0,I 0,I 0] 35))) (x:=.slice (some ⟨v1.heap.size,0,none⟩) 2 2) (by go_simp) rfl (fun w3 hr3 hn3=>?_)
 refine goesI_opZ (L:=LV) rfl rfl (by decide) (fineOp_ask callV extT (by kernel_rfl)) hr3 hn3 (v':=(v1.alloc (.cells #[I 1,I 5,I 0,I 0,I 2,I 0,I 0,I 0] 35))) (x:=.agg #[I 1,I (-7),I 0,I 0]) (by go_simp) rfl (fun w4 hr4 hn4=>?_)
 refine goesI_opZ (L:=LV) rfl rfl (by decide) (fineOp_ask callV extT (by kernel_rfl)) hr4 hn4 (v':=((v1.alloc (.cells #[I 1,I 5,I 0,I 0,I 2,I 0,I 0,I 0] 35)).alloc (.cells #[I 1,I (-7),I 0,I 0] 35))) (x:=.slice (some ⟨v1.heap.size+1,0,none⟩) 1 1) (by go_simp) rfl (fun w5 hr5 hn5=>?_)
 refine goesI_opZ (L:=LV) rfl rfl (by decide) (fineOp_ask callV extT (by kernel_rfl)) hr5 hn5 (v':=(((v1.alloc (.cells #[I 1,I 5,I 0,I 0,I 2,I 0,I 0,I 0] 35)).alloc (.cells #[I 1,I (-7),I 0,I 0] 35)).alloc (.cells #[.slice (some ⟨v1.heap.size,0,none⟩) 2 2,.slice (some ⟨v1.heap.size+1,0,none⟩) 1 1] 33))) (x:=.slice (some ⟨v1.heap.size+2,0,none⟩) 2 2) (by go_simp) rfl (fun w6 hr6 hn6=>?_)
 refine goesI_into (f:=52) (fn:=Tryd.f52) (args:=#[Pt wb 0,I 2,.slice (some ⟨v1.heap.size+2,0,none⟩) 2 2]) (dt_idle _ _) rfl rfl (by decide) rfl (by simp [Act.eval,Act.put]) Tryd.func52 (by decide) rfl ?_
 refine hk _ w6 wb bk sc v1.heap.size _ _ _ _ _ _ _ hr6 hn6 hset rfl (fun Ch Stop M A vv ww hvw hn hD hg=>?_)
 clear hk hset hr1 hr2 hr2b hr3 hr4 hr5 hr6 hn1 hn2 hn2b hn3 hn4 hn5 hn6
 iterate 5
  (refine goesI_oper rfl rfl (by decide) (fun d K hK=>?_)
   go_simp
   refine hK _ _ ⟨dt_reads (fun e he=>?_),GoesI.at ?_ d⟩
   ·have hm:=mem_listed he
    simp [go_sem, *] at hm
    try exact ⟨_,_,hm⟩
   clear hK K)
 refine goesI_regionEnd (dt_idle _ _) ?_
 refine goesI_outZ (c:=T51) (f:=51) (fn:=Tryd.f51) (L:=LV) hE fineV hvw hn Tryd.func51 fineT51 rfl hoc (R:=fun r w'=>r=.bool true∧Grows vv w') (fun τ=>?_) (fun r v' w' hR hr' hn'=>?_)
 ·have hD':Done51 M A (onTape vv τ 0):=⟨hD.row,hD.a0,hD.a1⟩
  refine wp_mono (T51_wp (v:=onTape vv τ 0) hD' ⟨rfl,rfl,by
   intro p hp
   simp only [List.mem_cons,List.not_mem_nil,or_false] at hp
   rcases hp with rfl|rfl<;>rfl⟩) (fun e a w' hq=>⟨hq.1,?_⟩)
  obtain ⟨_,x,h1,h2,h3⟩:=hq
  exact ⟨x,h1,h2,⟨h3.size,h3.old,h3.os,h3.output⟩⟩
 ·obtain ⟨rfl,hgr⟩:=hR
  exact hg v' w' hr' hn' hgr
end Go.Proofs.YtfjjoohflcchnaaDoor.Gen
namespace Go.Proofs.YtfjjoohflcchnaaDoor.Gen
open Go Go.Lift Go.Conc Go.RowKit
open Go.ConcN (upd upd_same upd_ne)
structure Gl (w:World):Prop where
 a:∃ c t f,w.heap[6]? = some (.cells c t f)∧c[0]? = some (I 0)∧c[1]? = some (I 32)
 b:∃ c t f,w.heap[7]? = some (.cells c t f)∧c[0]? = some (I 32)∧c[1]? = some (I 30)
theorem Gl.grows {w w':World} (h:Gl w) (g:Grows w w'):Gl w':=by
 obtain ⟨c,t,f,h1,h2⟩:=h.a
 obtain ⟨c',t',f',k1,k2⟩:=h.b
 exact ⟨⟨c,t,f,by rw [g.old 6 (Array.getElem?_eq_some_iff.1 h1).1];exact h1,h2⟩,⟨c',t',f',by rw [g.old 7 (Array.getElem?_eq_some_iff.1 k1).1];exact k1,k2⟩⟩
def glP (w:World):Nat→Option Obj:=fun b=>if b=6∨b=7 then w.heap[b]? else none
theorem glP_in {w:World} {b:Nat} (h:glP w b≠none):b=6∨b=7:=by
 unfold glP at h
 split at h
 ·assumption
 ·exact absurd rfl h
theorem glP_gf {w:World} (h:Gl w):GF (glP w):=by
 obtain ⟨c,t,f,h1,h2⟩:=h.a
 obtain ⟨c',t',f',k1,k2⟩:=h.b
 exact ⟨⟨c,t,f,by unfold glP;rw [if_pos (.inl rfl)];exact h1,h2⟩,⟨c',t',f',by unfold glP;rw [if_pos (.inr rfl)];exact k1,k2⟩⟩
theorem glP_has (w:World):Has (glP w) w:=fun b o hb=>by
 unfold glP at hb
 split at hb
 ·exact hb
 ·cases hb
theorem glP_row {w:World} (h:Gl w):∀ b o,glP w b=some o→∃ c e f,o=.cells c e f:=fun b o hb=>by
 have hw:=glP_has w b o hb
 rcases glP_in (by rw [hb];simp) with rfl|rfl
 ·obtain ⟨c,t,f,h1,_⟩:=h.a
  rw [h1] at hw;cases hw;exact ⟨_,_,_,rfl⟩
 ·obtain ⟨c,t,f,h1,_⟩:=h.b
  rw [h1] at hw;cases hw;exact ⟨_,_,_,rfl⟩
theorem Gl.lt {w:World} (h:Gl w):7<w.heap.size:=by
 obtain ⟨c,t,f,h1,_⟩:=h.b
 exact (Array.getElem?_eq_some_iff.1 h1).1
abbrev pcW (c j:Nat):Option Addr:=some ⟨c+j,0,none⟩
section
variable {wb bk base:Nat} {sc cv:Value} {cb0 cb1:Nat} {l0:Nat→Ph}
theorem hires_ctr {caps:Array Value} {pk:Nat→Option Obj} {N c:Nat} {S1:TS} {l1:Nat→Ph} (h:Hires (mcC 2) 0 (scrs (mcC 2) 86 caps pk N 2 [(cb0,0),(cb1,0)] (pcW c) lnW lnW (fun j=>c+j) clW) (awST wb bk base sc cv 2) l0 S1 l1) :
 ∃ tv0 tb0 gc0 tv1 tb1 gc1,(⟨S1,[(cb0,0),(cb1,0)],l1⟩:PSt)=awPT wb bk base sc cv tv0 tb0 gc0 tv1 tb1 gc1 cb0 cb1 l0:=by
 have e:(scrs (mcC 2) 86 caps pk N 2 [(cb0,0),(cb1,0)] (pcW c) lnW lnW (fun j=>c+j) clW)=[scrOf (mcC 2) 86 caps pk N 2 [cb0,cb1] (pcW c) lnW lnW (fun j=>c+j) clW 0,scrOf (mcC 2) 86 caps pk N 2 [cb0,cb1] (pcW c) lnW lnW (fun j=>c+j) clW 1]:=rfl
 rw [e] at h
 cases h with
 |cons tv0 tb0 gc0 h =>
  cases h with
  |cons tv1 tb1 gc1 h =>
   cases h
   exact ⟨tv0,tb0,gc0,tv1,tb1,gc1,rfl⟩
end
theorem asked51 {v u:World} {wb bk:Nat} {sc:Value} {c:Nat} (s:Set51 v wb bk sc c u):Asked u (newS wb bk v.heap.size sc []) 2 (c+2) 0 (pcW c) lnW lnW (fun j=>c+j) clW:=by
 have two:∀ {j},j<2→j=0∨j=1:=fun h=>by omega
 refine ⟨fun j hj=>by rcases two hj with rfl|rfl<;>exact ⟨rfl,by decide⟩,fun k hk=>?_,fun h=>by have:=(s.own _ (.inl h)).2;omega,fun j hj _=>⟨rfl,fun h=>by have:=(s.own _ (.inl h)).2;omega⟩,fun j hj k x hx=>?_,fun j hj x hx=>?_⟩
 ·rcases two hk with rfl|rfl<;>exact cell_of s.scr rfl
 ·rcases two hj with rfl|rfl
  ·match k,hx with
   |0,hx=>cases hx;exact ⟨cell_of s.c0 rfl,cell_of s.c0 rfl,cell_of s.c0 rfl,cell_of s.c0 rfl⟩
   |1,hx=>cases hx;exact ⟨cell_of s.c0 rfl,cell_of s.c0 rfl,cell_of s.c0 rfl,cell_of s.c0 rfl⟩
   |k+2,hx=>simp [clW] at hx
  ·match k,hx with
   |0,hx=>cases hx;exact ⟨cell_of s.c1 rfl,cell_of s.c1 rfl,cell_of s.c1 rfl,cell_of s.c1 rfl⟩
   |k+1,hx=>simp [clW] at hx
 ·rcases two hj with rfl|rfl
  ·simp [clW] at hx
   rcases hx with rfl|rfl<;>decide
  ·simp [clW] at hx
   subst hx
   decide
theorem K_two {K:List (Nat×Int)} (hK:K.map (·.2)=List.replicate 2 0):∃ cb0 cb1,K=[(cb0,0),(cb1,0)]:=by
 match K,hK with
 | [(a,x),(b,y)],hK =>
  simp [List.replicate] at hK
  obtain ⟨rfl,rfl⟩:=hK
  exact ⟨a,b,rfl⟩
 | [],hK=>simp at hK
 | [x],hK=>simp [List.replicate] at hK
 |x :: y :: z :: l,hK=>simp [List.replicate] at hK
theorem cawake_all {cs:List Frame} {bc:Frame} {ac:Act} {ops:Array Oper} {q0:Nat} {rest:List Nat} {oc:Oper} {k0:List Item} (hoc:ops[q0]? = some oc) {w:World} {T:Trace} {gs:Array Goroutine} {q:Nat→Nat} (sl:Option (Nat×Nat)) (A:Alone gs w T q) (hGl:Gl w)
 (hg:gs[0]? = some (G ((base 51).at { tmps:=Array.replicate 28 undef,defers:=[] } [.code B51]) (bc.at ac (.inRegion ops (q0 :: rest) :: k0) :: cs))) :
 ∃ (N':Nat) (gs':Array Goroutine) (w':World) (sl':Option (Nat×Nat)) (T':Trace) (q':Nat→Nat),
   runNT Tryd.prog N' (crowd gs w sl) T=(.next (crowd gs' w' sl'),T')∧gs'[0]? = some (G (bc.at (ac.put oc.dst (.bool true)) (.inRegion ops rest :: k0)) cs)∧Alone gs' w' T' q'∧Grows w w':=by
 have hG:GoesI Tryd.prog true (DT (ScZ zn) (fun _=>False)) (fun g w'=>∃ (wb bk:Nat) (sc:Value) (c:Nat) (bd:Frame) (ad:Act) (od:Array Oper) (qd:Nat) (rd:List Nat) (oe:Oper) (kd:List Item),Set51 w wb bk sc c w'∧od[qd]? = some oe ∧
  (∀ (Ch:Nat→Prop) (Stop:Goroutine→World→Prop) (M:Nat) (A:Nat→Nat) (v w:World),Rel zn v w→NoRow Ch v→Done51 M A v→(∀ v' w',Rel zn v' w'→NoRow Ch v'→Grows v v'→GoesI Tryd.prog true (DT (ScZ zn) Ch) Stop (G (bc.at (ac.put oc.dst (.bool true)) (.inRegion ops rest :: k0)) cs) w')→GoesI Tryd.prog true (DT (ScZ zn) Ch) Stop (G (bd.at (ad.put oe.dst (.tuple #[.slice (some ⟨M,0,none⟩) 2 2,I 0])) (.inRegion od rd :: kd)) (bc.at ac (.inRegion ops (q0 :: rest) :: k0) :: cs)) w) ∧
  g=G ((base 52).at { tmps:=#[Pt wb 0,I 2,.slice (some ⟨c+2,0,none⟩) 2 2]++Array.replicate 25 undef,defers:=[] } [.code B52]) (bd.at ad (.inRegion od (qd :: rd) :: kd) :: bc.at ac (.inRegion ops (q0 :: rest) :: k0) :: cs)) (G ((base 51).at { tmps:=Array.replicate 28 undef,defers:=[] } [.code B51]) (bc.at ac (.inRegion ops (q0 :: rest) :: k0) :: cs)) w :=
  cawake_in cs hoc (Rel.refl w) (fun c hc=>hc.elim) (fun v' w' wb bk sc c bd ad od qd rd oe kd hr hn hset ho hback=>GoesI.stop fun d=>⟨wb,bk,sc,c,bd,ad,od,qd,rd,oe,kd,hset.same hr.eq hr.os hr.output,ho,hback,rfl⟩)
 obtain ⟨N1,gs1,a1,w1,sl1,T1,q1,r1,z1,h1,⟨wb,bk,sc,c,bd,ad,od,qd,rd,oe,kd,s,hoe,hback,rfl⟩,A1⟩:=alone_goes A hg sl hG
 have l0:Nat→Ph:=fun _=>.done []
 have hGl1:=hGl.grows s.old
 have h7:=hGl.lt
 have hpf:∀ b,glP w1 b≠none→¬ Own (newS wb bk w.heap.size sc []) [] b∧b≠(newS wb bk w.heap.size sc []).bk:=fun b hb=>by
  have hb':=glP_in hb
  exact ⟨fun h=>by have:=(s.own b (.inl h)).1;omega,fun h=>by have:=(s.own b (.inr h)).1;omega⟩
 obtain ⟨N2,gs2,w2,sl2,T2,q2,caps,pk,N,cv,K,S',S1,l1,m,p',r2,z2,h2,A2,hK,hnv,hH,hT,O⟩:=cplay_all 2 (by decide) (by decide) (S:=newS wb bk w.heap.size sc []) (n:=2) (sb:=c+2) (so:=0) (cap:=2) (pc:=pcW c) (ln:=lnW) (cp:=lnW) (rb:=fun j=>c+j) (cl:=clW) hoe sl1 8 A1 h1 s.mem rfl rfl rfl s.opn (glP_gf hGl1) (glP_has w1) hpf (glP_row hGl1) (asked51 s) (by decide) (fun caps pk N K=>by show 0+2*(2+(1+0))≤1000000;decide) (by show 0≤4611686018427387904;decide) (by show ∀ x∈([]:List Int),_;simp) l0 (fun caps pk N cv K hK S1 l1 hH=>by
  obtain ⟨cb0,cb1,rfl⟩:=K_two hK
  obtain ⟨tv0,tb0,gc0,tv1,tb1,gc1,e⟩:=hires_ctr (wb:=wb) (bk:=bk) (base:=w.heap.size) (sc:=sc) (cv:=cv) hH
  exact ⟨8,_,Nat.le_refl _,by rw [e];exact turns_of 8 _ (awt_runs wb bk _ sc cv tv0 tb0 gc0 tv1 tb1 gc1 cb0 cb1 l0),by rw [awt_n];decide⟩)
 obtain ⟨cb0,cb1,rfl⟩:=K_two hK
 obtain ⟨tv0,tb0,gc0,tv1,tb1,gc1,e⟩:=hires_ctr (wb:=wb) (bk:=bk) (base:=w.heap.size) (sc:=sc) (cv:=cv) hH
 have hT':Turns (mcC 2) m (⟨S1,[(cb0,0),(cb1,0)],l1⟩:PSt) p':=hT
 rw [e] at hT'
 have hp:=turns_det hT' (turns_of 8 _ (awt_runs wb bk w.heap.size sc cv tv0 tb0 gc0 tv1 tb1 gc1 cb0 cb1 l0))
 have hans:=awt_ans wb bk w.heap.size sc cv tv0 tb0 gc0 tv1 tb1 gc1 cb0 cb1 l0
 rw [←hp] at hans
 have a0:=(O.ans 0 (by decide)).2.1 (by decide)
 have a1:=(O.ans 1 (by decide)).2.1 (by decide)
 rw [hans.1] at a0
 rw [hans.2] at a1
 have hD:Done51 (N+1) (fun k=>N+4+3*k+2) w2:=⟨fun k hk=>O.rows k hk,a0,a1⟩
 obtain ⟨N3,gs3,a3,w3,sl3,T3,q3,r3,z3,h3,⟨rfl,hg3⟩,A3⟩:=alone_goes A2 h2 sl2 (hback (fun _=>False) (fun g w'=>g=G (bc.at (ac.put oc.dst (.bool true)) (.inRegion ops rest :: k0)) cs∧Grows w2 w') (N+1) _ w2 w2 (Rel.refl w2) (fun c hc=>hc.elim) hD (fun v' w' hr hn hgr=>GoesI.stop fun d=>⟨rfl,hgr.toAt hr d⟩))
 refine ⟨N1+N2+N3,gs3,w3,sl3,T3,q3,runNT_then (runNT_then r1 r2) r3,h3,A3,⟨by have:=s.old.size;have:=O.size;have:=hg3.size;omega,fun b hb=>?_,hg3.os.trans (O.os.trans s.old.os),hg3.output.trans (O.out.trans s.old.output)⟩⟩
 have hs1:=s.old.size
 have hno:¬ (Own (newS wb bk w.heap.size sc []) [] b∨b=bk):=fun h=>by have:=(s.own b h).1;omega
 have h5:=O.old b (by omega) (fun h=>hno (.inl h)) (fun h=>hno (.inr h))
 rw [hg3.old b (by have:=O.size;omega),h5.1,s.old.old b hb]
end Go.Proofs.YtfjjoohflcchnaaDoor.Gen
namespace Go.Proofs.YtfjjoohflcchnaaDoor.Gen
open Go Go.Lift Go.Conc Go.RowKit
end Go.Proofs.YtfjjoohflcchnaaDoor.Gen
