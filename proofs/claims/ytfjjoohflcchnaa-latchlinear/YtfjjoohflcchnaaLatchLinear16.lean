/- Of the proof of LatchLinear. Part 16 of 27. (Joined, by program, and written short, of: LatY, LatS, GPts, LatAw1, LatAw2, LatAw3.) -/
import Derived.Test.YtfjjoohflcchnaaLatchLinear12
import Derived.Test.YtfjjoohflcchnaaLatchLinear14
import Derived.Test.YtfjjoohflcchnaaLatchLinear15
import Derived.BigQuiet
import Derived.KernelRfl
set_option linter.unusedSimpArgs false
set_option linter.unusedVariables false
set_option maxHeartbeats 4000000
set_option maxRecDepth 100000
namespace Go.Proofs.Ytfjjoohflcchnaa.Gen
open Go Go.Lift Go.Conc Go.RowKit
theorem body42 {v:World} {S:TS} (hm:Mem zn S [] v) (hch:S.chg=[]) (m:Int) (h0:0≤m):Body Try.f44 #[Pt S.wb 0,I m] v (fun r v'=>∃ lb cb,r=Pt lb 0∧v'.heap.size=lb+1∧∃ S1,Objs v S [m] (padd (fun _=>none) lb (.cells #[Pt cb 0] 113)) S1 [(cb,m)] v'):=by
 intro code hb
 obtain rfl:=Option.some.inj hb
 clear hb
 have H1:Hid (Calls Try.prog 21 #[Pt S.wb 0,I m] v (fun e w1=>∃ cb,e=.returned (Pt cb 0)∧Hid (∀ u,u.heap=w1.heap.push (.cells #[Pt cb 0] 113)→u.os=w1.os→u.output=w1.output→∃ S1,Objs v S [m] (padd (fun _=>none) w1.heap.size (.cells #[Pt cb 0] 113)) S1 [(cb,m)] u))):=⟨((Objs.start hm hch).cell m (by decide)).mono (by
  rintro e w1 ⟨cb,rfl,hs,S1,o1⟩
  exact ⟨cb,rfl,⟨fun u e e1 e2=>⟨S1,o1.push e e1 e2⟩⟩⟩)⟩
 have hmx:(Builtin.max_ #[3,3] 3 #[I m,I 0])=pure (I m):=by
  show (pure (Value.int .i64 (if (0:Int) > m then 0 else m)):Sem Value)=_
  rw [if_neg (by omega)]
 have h1:¬ (0 > m):=by omega
 clear hm hch
 simp only [Try.ntmps44,List.size_toArray,List.length_cons,List.length_nil,Nat.reduceAdd,Nat.reduceSub,Array.replicate_succ,Array.replicate_zero,List.push_toArray,List.append_toArray,List.nil_append,List.cons_append]
 go_wp2_with (first
  |(go_at_call 21;refine H1.out.mono ?_;rintro e w1 ⟨cb,rfl,H2⟩))
 go_ret
 exact ⟨_,rfl,w1.heap.size,cb,rfl,by show (w1.heap.push _).size=_;exact Array.size_push _,H2.out _ rfl rfl rfl⟩
noncomputable def B40:Code:=Try.f42.body.getD .skip
noncomputable def k400:Code:=seq1 B40
noncomputable def k401:Code:=seq1 (seq2 B40)
noncomputable def k402:Code:=seq1 (seq2 (seq2 B40))
noncomputable def k403:Code:=seq1 (seq2 (seq2 (seq2 B40)))
noncomputable def R40:Code:=seq2 (seq2 (seq2 (seq2 B40)))
theorem eB40:B40=.seq k400 (.seq k401 (.seq k402 (.seq k403 R40))):=by kernel_rfl
theorem fine400:fineCode Try.prog true LV k400:=fineCode_askS callV extT (by kernel_rfl)
theorem fine401:fineCode Try.prog true LV k401:=fineCode_askS callV extT (by kernel_rfl)
theorem fine402:fineCode Try.prog true LV k402:=fineCode_askS callV extT (by kernel_rfl)
theorem fine403:fineCode Try.prog true LV k403:=fineCode_askS callV extT (by kernel_rfl)
section
variable {S:TS} {v:World} {wb n cap:Nat} {p:Option Addr} {m:Int}
theorem k400_wp (x1:Value) :
 k400.wp Try.prog (fun e a w'=>e=.normal∧a={ tmps:=#[Pt wb 0,I m,x1,undef,undef,undef,.slice none 0 0,I 0]++Array.replicate 17 undef,defers:=[] }∧w'.heap=v.heap∧w'.os=v.os∧w'.output=v.output)
  { tmps:=#[Pt wb 0,I m,x1]++Array.replicate 22 undef,defers:=[] } v:=by
 show Code.wp Try.prog (seq1 (Try.f42.body.getD .skip)) _ _ _
 unfold Try.f42 seq1
 simp only [Option.getD_some,Array.replicate_succ,Array.replicate_zero,List.push_toArray,List.append_toArray,List.nil_append,List.cons_append]
 go_wp2_with fail
 try exact ⟨rfl,rfl,rfl⟩
theorem k401_no (h:Rep zn S v) (pc:Nat→Option Addr) (ln cp:Nat→Nat) (hs:∀ k,k<n→∃ sb so,p=some ⟨sb,so,none⟩∧v.cell? ⟨sb,so+k,none⟩=some (.slice (pc k) (ln k) (cp k))) (hn:n≤17592186043904) (hr:S.ran=false) {E:Int} (hE:Refused n ln E) :
 k401.wp Try.prog (fun e a w'=>e=.ret∧∃ x,(results Try.f42 a.tmps).run Try.prog w'=.ok x w'∧x=.tuple #[.slice none 0 0,I E]∧w'.heap=v.heap∧w'.os=v.os∧w'.output=v.output)
  { tmps:=#[Pt S.wb 0,I m,.slice p n cap,undef,undef,undef,.slice none 0 0,I 0]++Array.replicate 17 undef,defers:=[] } v:=by
 have h19:=(body19 h p n cap hn pc ln cp hs).calls Try.func53 rfl
 have H19:Hid (Calls Try.prog 53 #[Pt S.wb 0,.slice p n cap] v (fun e w'=>e=.returned (I E)∧w'=v)):=⟨h19.mono (by
  rintro e w' ⟨r,rfl,rfl,⟨hk,rfl⟩|⟨hk,rfl⟩⟩
  ·rcases hE with ⟨_,rfl⟩|⟨h1,_⟩
   ·exact ⟨rfl,rfl⟩
   ·obtain ⟨k,k1,k2⟩:=hk
    exact absurd (h1 k k1) (by omega)
  ·rcases hE with ⟨⟨k,k1,k2⟩,_⟩|⟨_,h1,rfl⟩
   ·exact absurd (hk k k1) (by omega)
   ·refine ⟨?_,rfl⟩
    unfold checkE
    rw [if_pos (h1.imp_right .inl)])⟩
 have hE0:¬ E=0:=by rcases hE with ⟨_,rfl⟩|⟨_,_,rfl⟩<;>decide
 clear h19 h hs hn hr hE
 show Code.wp Try.prog (seq1 (seq2 (Try.f42.body.getD .skip))) _ _ _
 unfold Try.f42 seq1 seq2
 simp only [Option.getD_some,Array.replicate_succ,Array.replicate_zero,List.push_toArray,List.append_toArray,List.nil_append,List.cons_append]
 go_wp2_with (first
  |(go_at_call 53;refine H19.out.mono ?_;rintro e w1 ⟨rfl,rfl⟩))
 exact results_tmp2 (t:=6) (u:=7) rfl _ _ _
theorem k401_yes (h:Rep zn S v) (pc:Nat→Option Addr) (ln cp:Nat→Nat) (hs:∀ k,k<n→∃ sb so,p=some ⟨sb,so,none⟩∧v.cell? ⟨sb,so+k,none⟩=some (.slice (pc k) (ln k) (cp k))) (hln:∀ k,k<n→ln k≤64) (hn:0<n∧n≤8) (hr:S.ran=false) :
 k401.wp Try.prog (fun e a w'=>e=.normal∧a={ tmps:=#[Pt S.wb 0,I m,.slice p n cap,undef,undef,undef,.slice none 0 0,I 0,I 0,undef,Pt S.wb 0,.slice p n cap,I 0,I 0,.bool false]++Array.replicate 10 undef,defers:=[] }∧w'.heap=v.heap∧w'.os=v.os∧w'.output=v.output)
  { tmps:=#[Pt S.wb 0,I m,.slice p n cap,undef,undef,undef,.slice none 0 0,I 0]++Array.replicate 17 undef,defers:=[] } v:=by
 have h19:=(body19 h p n cap (by omega) pc ln cp hs).calls Try.func53 rfl
 have he:checkE n S.ran=0:=by unfold checkE;rw [if_neg (by rw [hr];rintro (h|h|h)<;>first|omega|cases h)]
 have H19:Hid (Calls Try.prog 53 #[Pt S.wb 0,.slice p n cap] v (fun e w'=>e=.returned (I 0)∧w'=v)):=⟨h19.mono (by
  rintro e w' ⟨r,rfl,rfl,⟨⟨k,hk,h1⟩,_⟩|⟨_,rfl⟩⟩
  ·exact absurd (hln k hk) (by omega)
  ·rw [he];exact ⟨rfl,rfl⟩)⟩
 clear h19 h hs hln hn hr he
 show Code.wp Try.prog (seq1 (seq2 (Try.f42.body.getD .skip))) _ _ _
 unfold Try.f42 seq1 seq2
 simp only [Option.getD_some,Array.replicate_succ,Array.replicate_zero,List.push_toArray,List.append_toArray,List.nil_append,List.cons_append]
 go_wp2_with (first
  |(go_at_call 53;refine H19.out.mono ?_;rintro e w1 ⟨rfl,rfl⟩))
 try exact ⟨rfl,rfl,rfl⟩
theorem k402_yes (x1:Value) (h0:0≤m) :
 k402.wp Try.prog (fun e a w'=>e=.normal∧a={ tmps:=#[Pt wb 0,I m,x1,undef,undef,undef,.slice none 0 0,I 0,I 0,undef,Pt wb 0,x1,I 0,I 0,.bool false,undef,I m,.bool false]++Array.replicate 7 undef,defers:=[] }∧w'.heap=v.heap∧w'.os=v.os∧w'.output=v.output)
  { tmps:=#[Pt wb 0,I m,x1,undef,undef,undef,.slice none 0 0,I 0,I 0,undef,Pt wb 0,x1,I 0,I 0,.bool false]++Array.replicate 10 undef,defers:=[] } v:=by
 have h1:¬ (m<0):=by omega
 show Code.wp Try.prog (seq1 (seq2 (seq2 (Try.f42.body.getD .skip)))) _ _ _
 unfold Try.f42 seq1 seq2
 simp only [Option.getD_some,Array.replicate_succ,Array.replicate_zero,List.push_toArray,List.append_toArray,List.nil_append,List.cons_append]
 go_wp2_with fail
 try exact ⟨rfl,rfl,rfl⟩
theorem k402_no (x1:Value) (h0:m<0) :
 k402.wp Try.prog (fun e a w'=>e=.ret∧∃ x,(results Try.f42 a.tmps).run Try.prog w'=.ok x w'∧x=.tuple #[.slice none 0 0,I 1]∧w'.heap=v.heap∧w'.os=v.os∧w'.output=v.output)
  { tmps:=#[Pt wb 0,I m,x1,undef,undef,undef,.slice none 0 0,I 0,I 0,undef,Pt wb 0,x1,I 0,I 0,.bool false]++Array.replicate 10 undef,defers:=[] } v:=by
 show Code.wp Try.prog (seq1 (seq2 (seq2 (Try.f42.body.getD .skip)))) _ _ _
 unfold Try.f42 seq1 seq2
 simp only [Option.getD_some,Array.replicate_succ,Array.replicate_zero,List.push_toArray,List.append_toArray,List.nil_append,List.cons_append]
 go_wp2_with fail
 exact results_tmp2 (t:=6) (u:=7) rfl _ _ _
theorem k403_wp (hm:Mem zn S [] v) (hch:S.chg=[]) (h0:0≤m) (x1:Value) :
 k403.wp Try.prog (fun e a w'=>e=.normal∧∃ lb cb,a={ tmps:=#[Pt S.wb 0,I m,x1,undef,undef,undef,.slice none 0 0,I 0,I 0,Pt (lb+1) 0,Pt S.wb 0,x1,I 0,I 0,.bool false,undef,I m,.bool false,Pt S.wb 0,I m,Pt lb 0]++Array.replicate 4 undef,defers:=[] }∧∃ S1,Objs v S [m] (padd (padd (fun _=>none) lb (.cells #[Pt cb 0] 113)) (lb+1) (.cells #[Pt lb 0] 69)) S1 [(cb,m)] w')
  { tmps:=#[Pt S.wb 0,I m,x1,undef,undef,undef,.slice none 0 0,I 0,I 0,undef,Pt S.wb 0,x1,I 0,I 0,.bool false,undef,I m,.bool false]++Array.replicate 7 undef,defers:=[] } v:=by
 have H1:Hid (Calls Try.prog 44 #[Pt S.wb 0,I m] v (fun e w'=>∃ lb cb,e=.returned (Pt lb 0)∧w'.heap.size=lb+1∧Hid (∀ u,u.heap=w'.heap.push (.cells #[Pt lb 0] 69)→u.os=w'.os→u.output=w'.output→∃ S1,Objs v S [m] (padd (padd (fun _=>none) lb (.cells #[Pt cb 0] 113)) (lb+1) (.cells #[Pt lb 0] 69)) S1 [(cb,m)] u))):=⟨((body42 hm hch m h0).calls Try.func44 rfl).mono (by
  rintro e w' ⟨r,rfl,lb,cb,rfl,hs,S1,o⟩
  refine ⟨lb,cb,rfl,hs,⟨fun u e e1 e2=>⟨S1,?_⟩⟩⟩
  have:=o.push e e1 e2
  rw [hs] at this
  exact this)⟩
 clear hm hch h0
 show Code.wp Try.prog (seq1 (seq2 (seq2 (seq2 (Try.f42.body.getD .skip))))) _ _ _
 unfold Try.f42 seq1 seq2
 simp only [Option.getD_some,Array.replicate_succ,Array.replicate_zero,List.push_toArray,List.append_toArray,List.nil_append,List.cons_append]
 go_wp2_with (first
  |(go_at_call 44;refine H1.out.mono ?_;rintro e w1 ⟨lb,cb,rfl,hs,H2⟩))
 exact ⟨cb,H2.out _ rfl rfl rfl⟩
end
def QLatch (caps:Array Value) (pk:Nat→Option Obj) (K:List (Nat×Int)):Prop :=
 ∃ lb cb m,caps=#[Pt (lb+1) 0]∧pk=(padd (padd (fun _=>none) lb (.cells #[Pt cb 0] 113)) (lb+1) (.cells #[Pt lb 0] 69))∧K=[(cb,m)]
theorem mineLatch (caps:Array Value) (pk:Nat→Option Obj) (K:List (Nat×Int)) (h:QLatch caps pk K) (X:Fix mcLatch) (hf:X.fid=69) (hc:X.caps=caps) (hp:X.pk=pk) (hk:X.kb=K.map (·.1)):pkgLatch.Mine X:=by
 obtain ⟨lb,cb,m,rfl,rfl,rfl⟩:=h
 refine ⟨lb+1,lb,cb,hc,fun v hv=>?_,by rw [hk];rfl⟩
 rw [hp] at hv
 have h2:=hv (lb+1) _ (padd_at _ _ _)
 have h3:=hv lb (.cells #[Pt cb 0] 113) (by rw [padd_ne (by omega),padd_at])
 exact ⟨cell_of h2 rfl,cell_of h3 rfl⟩
theorem tplay_in {Ch:Nat→Prop} {Stop:Goroutine→World→Prop} {main:Bool} {S:TS} {v w:World} (m:Int) (p:Option Addr) (n cap:Nat) (h0:0≤m) (hn8:0<n∧n≤8) (hran:S.ran=false) (hch:S.chg=[]) (pc:Nat→Option Addr) (ln cp:Nat→Nat) (hln:∀ k,k<n→ln k≤64) (hs:∀ k,k<n→∃ sb so,p=some ⟨sb,so,none⟩∧v.cell? ⟨sb,so+k,none⟩=some (.slice (pc k) (ln k) (cp k)))
 (hm:Mem zn S [] v) (cs:List Frame) {bc:Frame} {ac:Act} {ops:Array Oper} {q:Nat} {rest:List Nat} {oc:Oper} {k:List Item} (hoc:ops[q]? = some oc)
 (hvw:Rel zn v w) (hn:NoRow Ch v)
 (hk:∀ v' w' (bd:Frame) (ad:Act) (od:Array Oper) (qd:Nat) (rd:List Nat) (oe:Oper) (kd:List Item) (caps:Array Value) (pk:Nat→Option Obj) (S1:TS) (K:List (Nat×Int)),Rel zn v' w'→NoRow Ch v'→Objs v S [m] pk S1 K v'→QLatch caps pk K→od[qd]? = some oe →
   (∀ (Ch:Nat→Prop) (Stop:Goroutine→World→Prop) (w:World) (x:Value),(∀ d,GoesI Try.prog main (DT (ScZ zn) Ch) Stop (G (bc.at (ac.put oc.dst (.tuple #[x,I 0])) (.inRegion ops rest :: k)) cs) (w.at d))→GoesI Try.prog main (DT (ScZ zn) Ch) Stop (G (bd.at (ad.put oe.dst x) (.inRegion od rd :: kd)) (bc.at ac (.inRegion ops (q :: rest) :: k) :: cs)) w) →
   GoesI Try.prog main (DT (ScZ zn) Ch) Stop (G ((base 54).at { tmps:=#[Pt S.wb 0,.slice p n cap,.func (.func 69) #[] caps]++Array.replicate 36 undef,defers:=[] } [.code B20]) (bd.at ad (.inRegion od (qd :: rd) :: kd) :: bc.at ac (.inRegion ops (q :: rest) :: k) :: cs)) w') :
 GoesI Try.prog main (DT (ScZ zn) Ch) Stop (G ((base 42).at { tmps:=#[Pt S.wb 0,I m,.slice p n cap]++Array.replicate 22 undef,defers:=[] } [.code B40]) (bc.at ac (.inRegion ops (q :: rest) :: k) :: cs)) w:=by
 rw [eB40]
 refine goesI_seq (dt_idle _ _) ?_
 refine goesI_plain (z:=zn) (wr:=true) (L:=LV) (I:=NoRow Ch) hE fineV noRow_keeps (fun v v' w w' es hi hr ho he=>dt_of_z v v' w w' es hi hr ho he) hvw fine400 rfl (by simp [base]) hn
  (Q:=fun a w'=>a={ tmps:=#[Pt S.wb 0,I m,.slice p n cap,undef,undef,undef,.slice none 0 0,I 0]++Array.replicate 17 undef,defers:=[] }∧w'.heap=v.heap∧w'.os=v.os∧w'.output=v.output) (fun τ=>k400_wp (v:=onTape v τ 0) _) ?_
 rintro a0 v0 w0 ⟨rfl,e0,o0,u0⟩ hr0 hn0 -
 have m0:Mem zn S [] v0:=(hm.grows (v':=v0) ⟨by rw [e0];exact Nat.le_refl _,fun b _=>by rw [e0],o0,u0⟩).mem
 have hs0:∀ τ,∀ k,k<n→∃ sb so,p=some ⟨sb,so,none⟩∧(onTape v0 τ 0).cell? ⟨sb,so+k,none⟩=some (.slice (pc k) (ln k) (cp k)):=fun τ k hk=>by
  obtain ⟨sb,so,h1,h2⟩:=hs k hk
  exact ⟨sb,so,h1,by rw [World.cell?_of_block (w:=v) (w':=onTape v0 τ 0) (by show v0.heap[_]? = _;rw [e0])];exact h2⟩
 refine goesI_seq (dt_idle _ _) ?_
 refine goesI_plain (z:=zn) (wr:=true) (L:=LV) (I:=NoRow Ch) hE fineV noRow_keeps (fun v v' w w' es hi hr ho he=>dt_of_z v v' w w' es hi hr ho he) hr0 fine401 rfl (by simp [base]) hn0
  (Q:=fun a w'=>a={ tmps:=#[Pt S.wb 0,I m,.slice p n cap,undef,undef,undef,.slice none 0 0,I 0,I 0,undef,Pt S.wb 0,.slice p n cap,I 0,I 0,.bool false]++Array.replicate 10 undef,defers:=[] }∧w'.heap=v0.heap∧w'.os=v0.os∧w'.output=v0.output) (fun τ=>k401_yes (v:=onTape v0 τ 0) (m0.grows (v':=onTape v0 τ 0) ⟨Nat.le_refl _,fun _ _=>rfl,rfl,rfl⟩).mem.rep pc ln cp (hs0 τ) hln hn8 hran) ?_
 rintro a1 v1 w1 ⟨rfl,e1,o1,u1⟩ hr1 hn1 -
 refine goesI_seq (dt_idle _ _) ?_
 refine goesI_plain (z:=zn) (wr:=true) (L:=LV) (I:=NoRow Ch) hE fineV noRow_keeps (fun v v' w w' es hi hr ho he=>dt_of_z v v' w w' es hi hr ho he) hr1 fine402 rfl (by simp [base]) hn1
  (Q:=fun a w'=>a={ tmps:=#[Pt S.wb 0,I m,.slice p n cap,undef,undef,undef,.slice none 0 0,I 0,I 0,undef,Pt S.wb 0,.slice p n cap,I 0,I 0,.bool false,undef,I m,.bool false]++Array.replicate 7 undef,defers:=[] }∧w'.heap=v1.heap∧w'.os=v1.os∧w'.output=v1.output) (fun τ=>k402_yes (v:=onTape v1 τ 0) _ h0) ?_
 rintro a2 v2 w2 ⟨rfl,e2,o2,u2⟩ hr2 hn2 -
 have e20:v2.heap=v.heap:=e2.trans (e1.trans e0)
 have m2:Mem zn S [] v2:=(hm.grows (v':=v2) ⟨by rw [e20];exact Nat.le_refl _,fun b _=>by rw [e20],o2.trans (o1.trans o0),u2.trans (u1.trans u0)⟩).mem
 refine goesI_seq (dt_idle _ _) ?_
 refine goesI_plain (z:=zn) (wr:=true) (L:=LV) (I:=NoRow Ch) hE fineV noRow_keeps (fun v v' w w' es hi hr ho he=>dt_of_z v v' w w' es hi hr ho he) hr2 fine403 rfl (by simp [base]) hn2
  (Q:=fun a w'=>∃ lb cb,a={ tmps:=#[Pt S.wb 0,I m,.slice p n cap,undef,undef,undef,.slice none 0 0,I 0,I 0,Pt (lb+1) 0,Pt S.wb 0,.slice p n cap,I 0,I 0,.bool false,undef,I m,.bool false,Pt S.wb 0,I m,Pt lb 0]++Array.replicate 4 undef,defers:=[] }∧∃ S1,Objs v2 S [m] (padd (padd (fun _=>none) lb (.cells #[Pt cb 0] 113)) (lb+1) (.cells #[Pt lb 0] 69)) S1 [(cb,m)] w') (fun τ=>?_) ?_
 ·refine wp_mono (k403_wp (v:=onTape v2 τ 0) (m2.grows (v':=onTape v2 τ 0) ⟨Nat.le_refl _,fun _ _=>rfl,rfl,rfl⟩).mem hch h0 _) (fun e a w' hq=>⟨hq.1,?_⟩)
  obtain ⟨_,lb,cb,h1,S1,o⟩:=hq
  exact ⟨lb,cb,h1,S1,⟨o.cel.from rfl rfl rfl,o.vals,o.st,o.has,o.new,o.row⟩⟩
 rintro a3 v3 w3 ⟨lb,cb,rfl,S3,ob3⟩ hr3 hn3 -
 have hset:Objs v S [m] (padd (padd (fun _=>none) lb (.cells #[Pt cb 0] 113)) (lb+1) (.cells #[Pt lb 0] 69)) S3 [(cb,m)] v3 :=
  ⟨ob3.cel.from e20 (o2.trans (o1.trans o0)) (u2.trans (u1.trans u0)),ob3.vals,ob3.st,ob3.has,fun b hb=>by rw [←e20];exact ob3.new b hb,ob3.row⟩
 have hql:QLatch #[Pt (lb+1) 0] (padd (padd (fun _=>none) lb (.cells #[Pt cb 0] 113)) (lb+1) (.cells #[Pt lb 0] 69)) [(cb,m)]:=⟨lb,cb,m,rfl,rfl,rfl⟩
 clear ob3 hr0 hr1 hr2 hn0 hn1 hn2 e0 e1 e2 e20 o0 o1 o2 u0 u1 u2 hvw hn hs hs0 hln m0 m2 hm
 unfold R40 B40 Try.f42 seq2
 simp only [Option.getD_some]
 refine goesI_seq (dt_idle _ _) ?_
 refine goesI_region (dt_idle _ _) ?_
 simp only [List.size_toArray,List.length_cons,List.length_nil,Nat.reduceAdd,Nat.zero_add,List.range,List.range.loop]
 iterate 3
  (refine goesI_oper rfl rfl (by decide) (fun d K hK=>?_)
   go_simp
   refine hK _ _ ⟨dt_reads (fun e he=>?_),GoesI.at ?_ d⟩
   ·have hm:=mem_listed he
    simp [go_sem, *] at hm
    try exact ⟨_,_,hm⟩
   clear hK K)
 refine goesI_into (f:=54) (fn:=Try.f54) (args:=#[Pt S.wb 0,.slice p n cap,.func (.func 69) #[] #[Pt (lb+1) 0]]) (dt_idle _ _) rfl rfl (by decide) rfl (by simp [Act.eval]) Try.func54 (by decide) rfl ?_
 refine hk v3 w3 _ _ _ _ _ _ _ _ _ _ _ hr3 hn3 hset hql rfl (fun Ch Stop w x hg=>?_)
 clear hk hset hr3 hn3 hql
 iterate 2
  (refine goesI_oper rfl rfl (by decide) (fun d K hK=>?_)
   go_simp
   refine hK _ _ ⟨dt_reads (fun e he=>?_),GoesI.at ?_ d⟩
   ·have hm:=mem_listed he
    simp [go_sem, *] at hm
    try exact ⟨_,_,hm⟩
   clear hK K)
 refine goesI_regionEnd (dt_idle _ _) ?_
 refine GoesI.ctl rfl (fun _=>stepG_ret') (dt_idle _ _) ?_
 refine goesI_leave (b:=base 42) (fn:=Try.f42) (v:=.tuple #[x,I 0]) rfl rfl Try.func42 (fun w=>?_) (fun w=>by simp [results,go_sem,Try.f42]) hoc (dt_idle _ _) ?_
 ·rw [results_tmp2 (t:=6) (u:=7) rfl]
  simp
 ·have:=hg w.drawn
  exact this
theorem tplay_no {Ch:Nat→Prop} {Stop:Goroutine→World→Prop} {main:Bool} {S:TS} {v w:World} (m:Int) (p:Option Addr) (n cap:Nat) (pc:Nat→Option Addr) (ln cp:Nat→Nat) (hs:∀ k,k<n→∃ sb so,p=some ⟨sb,so,none⟩∧v.cell? ⟨sb,so+k,none⟩=some (.slice (pc k) (ln k) (cp k))) (hn1:n≤17592186043904) (hran:S.ran=false) (hm:Mem zn S [] v)
 {E:Int} (hRe:Refused n ln E∨((∀ k,k<n→ln k≤64)∧(0<n∧n≤8)∧m<0∧E=1)) (cs:List Frame) {bc:Frame} {ac:Act} {ops:Array Oper} {q:Nat} {rest:List Nat} {oc:Oper} {k:List Item} (hoc:ops[q]? = some oc)
 (hvw:Rel zn v w) (hn:NoRow Ch v)
 (hk:∀ v' w',Rel zn v' w'→NoRow Ch v'→v'.heap=v.heap→v'.os=v.os→v'.output=v.output→GoesI Try.prog main (DT (ScZ zn) Ch) Stop (G (bc.at (ac.put oc.dst (.tuple #[.slice none 0 0,I E])) (.inRegion ops rest :: k)) cs) w') :
 GoesI Try.prog main (DT (ScZ zn) Ch) Stop (G ((base 42).at { tmps:=#[Pt S.wb 0,I m,.slice p n cap]++Array.replicate 22 undef,defers:=[] } [.code B40]) (bc.at ac (.inRegion ops (q :: rest) :: k) :: cs)) w:=by
 rw [eB40]
 refine goesI_seq (dt_idle _ _) ?_
 refine goesI_plain (z:=zn) (wr:=true) (L:=LV) (I:=NoRow Ch) hE fineV noRow_keeps (fun v v' w w' es hi hr ho he=>dt_of_z v v' w w' es hi hr ho he) hvw fine400 rfl (by simp [base]) hn
  (Q:=fun a w'=>a={ tmps:=#[Pt S.wb 0,I m,.slice p n cap,undef,undef,undef,.slice none 0 0,I 0]++Array.replicate 17 undef,defers:=[] }∧w'.heap=v.heap∧w'.os=v.os∧w'.output=v.output) (fun τ=>k400_wp (v:=onTape v τ 0) _) ?_
 rintro a0 v0 w0 ⟨rfl,e0,o0,u0⟩ hr0 hn0 -
 have m0:Mem zn S [] v0:=(hm.grows (v':=v0) ⟨by rw [e0];exact Nat.le_refl _,fun b _=>by rw [e0],o0,u0⟩).mem
 have hs0:∀ τ,∀ k,k<n→∃ sb so,p=some ⟨sb,so,none⟩∧(onTape v0 τ 0).cell? ⟨sb,so+k,none⟩=some (.slice (pc k) (ln k) (cp k)):=fun τ k hk=>by
  obtain ⟨sb,so,h1,h2⟩:=hs k hk
  exact ⟨sb,so,h1,by rw [World.cell?_of_block (w:=v) (w':=onTape v0 τ 0) (by show v0.heap[_]? = _;rw [e0])];exact h2⟩
 refine goesI_seq (dt_idle _ _) ?_
 rcases hRe with hRe|⟨hE1,hE2,hE3,rfl⟩
 ·refine goesI_outZ (c:=k401) (f:=42) (fn:=Try.f42) (L:=LV) hE fineV hr0 hn0 Try.func42 fine401 rfl hoc (R:=fun r w'=>r=.tuple #[.slice none 0 0,I E]∧w'.heap=v0.heap∧w'.os=v0.os∧w'.output=v0.output) (fun τ=>k401_no (v:=onTape v0 τ 0) (m0.grows (v':=onTape v0 τ 0) ⟨Nat.le_refl _,fun _ _=>rfl,rfl,rfl⟩).mem.rep pc ln cp (hs0 τ) hn1 hran hRe) (fun r v' w' hR hr' hn'=>?_)
  obtain ⟨rfl,h1,h2,h3⟩:=hR
  exact hk v' w' hr' hn' (h1.trans e0) (h2.trans o0) (h3.trans u0)
 ·refine goesI_plain (z:=zn) (wr:=true) (L:=LV) (I:=NoRow Ch) hE fineV noRow_keeps (fun v v' w w' es hi hr ho he=>dt_of_z v v' w w' es hi hr ho he) hr0 fine401 rfl (by simp [base]) hn0
   (Q:=fun a w'=>a={ tmps:=#[Pt S.wb 0,I m,.slice p n cap,undef,undef,undef,.slice none 0 0,I 0,I 0,undef,Pt S.wb 0,.slice p n cap,I 0,I 0,.bool false]++Array.replicate 10 undef,defers:=[] }∧w'.heap=v0.heap∧w'.os=v0.os∧w'.output=v0.output) (fun τ=>k401_yes (v:=onTape v0 τ 0) (m0.grows (v':=onTape v0 τ 0) ⟨Nat.le_refl _,fun _ _=>rfl,rfl,rfl⟩).mem.rep pc ln cp (hs0 τ) hE1 hE2 hran) ?_
  rintro a1 v1 w1 ⟨rfl,e1,o1,u1⟩ hr1 hn1 -
  refine goesI_seq (dt_idle _ _) ?_
  refine goesI_outZ (c:=k402) (f:=42) (fn:=Try.f42) (L:=LV) hE fineV hr1 hn1 Try.func42 fine402 rfl hoc (R:=fun r w'=>r=.tuple #[.slice none 0 0,I 1]∧w'.heap=v1.heap∧w'.os=v1.os∧w'.output=v1.output) (fun τ=>k402_no (v:=onTape v1 τ 0) _ hE3) (fun r v' w' hR hr' hn'=>?_)
  obtain ⟨rfl,h1,h2,h3⟩:=hR
  exact hk v' w' hr' hn' (h1.trans (e1.trans e0)) (h2.trans (o1.trans o0)) (h3.trans (u1.trans u0))
section
variable {S:TS} {n sb so cap:Nat} {pc:Nat→Option Addr} {ln cp rb:Nat→Nat} {cl:Nat→List Cl}
theorem tplay_all (m0:Int) (h0:0≤m0) {cs:List Frame} {bc:Frame} {ac:Act} {ops:Array Oper} {q0:Nat} {rest:List Nat} {oc:Oper} {k0:List Item} (hoc:ops[q0]? = some oc) {w:World} {T:Trace} {gs:Array Goroutine} {q:Nat→Nat} (sl:Option (Nat×Nat)) (NT:Nat) (A:Alone gs w T q)
 (hg:gs[0]? = some (G ((base 42).at { tmps:=#[Pt S.wb 0,I m0,.slice (some ⟨sb,so,none⟩) n cap]++Array.replicate 22 undef,defers:=[] } [.code B40]) (bc.at ac (.inRegion ops (q0 :: rest) :: k0) :: cs)))
 (hm:Mem zn S [] w) (hthr:S.thr=[]) (hran:S.ran=false) (hch:S.chg=[]) (hbk:Open w S.bk) (t:Asked w S n sb so pc ln cp rb cl) (hn8:0<n∧n≤8)
 (hlen:∀ caps pk N K,S.n+2*lens (scrs mcLatch 69 caps pk N n K pc ln cp rb cl)≤1000000) (hsl:S.sched.length≤4611686018427387904) (hsc:∀ x∈S.sched,-9223372036854775808≤x∧x<9223372036854775808) (l0:Nat→Ph)
 (hturn:∀ (caps:Array Value) (pk:Nat→Option Obj) (N:Nat) (cv:Value) (K:List (Nat×Int)),K.map (·.2)=[m0]→∀ S1 l1,Hires mcLatch 0 (scrs mcLatch 69 caps pk N n K pc ln cp rb cl) (nv { cellsS S cv 1 with ran:=true }) l0 S1 l1→∃ m p',m≤NT∧Turns mcLatch m ⟨S1,K,l1⟩ p'∧p'.S.n*40≤140737488355328) :
 ∃ (N':Nat) (gs':Array Goroutine) (w':World) (sl':Option (Nat×Nat)) (T':Trace) (q':Nat→Nat) (caps:Array Value) (pk:Nat→Option Obj) (N:Nat) (cv:Value) (K:List (Nat×Int)) (S':TS) (S1:TS) (l1:Nat→Ph) (m:Nat) (p':PSt),
   runNT Try.prog N' (crowd gs w sl) T=(.next (crowd gs' w' sl'),T')∧gs'.size=gs.size+n∧gs'[0]? = some (G (bc.at (ac.put oc.dst (.tuple #[.slice (some ⟨N+1,0,none⟩) n n,I 0])) (.inRegion ops rest :: k0)) cs) ∧
   Alone gs' w' T' q'∧K.map (·.2)=[m0]∧nv S'=p'.S∧Hires mcLatch 0 (scrs mcLatch 69 caps pk N n K pc ln cp rb cl) (nv { cellsS S cv 1 with ran:=true }) l0 S1 l1∧Turns mcLatch m ⟨S1,K,l1⟩ p'∧GOut w S n ln N S' p'.K p'.l w':=by
 refine gplay_all (xs:=[m0]) (cap:=cap) (q0:=q0) pkgLatch mineLatch sl NT A hg ?_ hm hthr hran hbk t hn8 hlen hsl hsc l0 hturn
 exact tplay_in m0 (some ⟨sb,so,none⟩) n cap h0 hn8 hran hch pc ln cp (fun k hk=>(t.len k hk).2) (fun k hk=>⟨sb,so,rfl,t.row k hk⟩) hm cs hoc (Rel.refl w) (fun c hc=>hc.elim)
  (fun v' w' bd ad od qd rd oe kd caps pk S1 K hr hn ho hq hoe hback=>GoesI.stop fun d=>⟨bd,ad,od,qd,rd,oe,kd,caps,pk,S1,K,ho.same hr.eq hr.os hr.output,hq,hoe,hback,rfl⟩)
end
structure Rws (M:Nat) (n:Nat) (A cp ln:Nat→Nat) (e x:Nat→Nat→Int) (v:World):Prop where
 row:∀ k,k<n→v.cell? ⟨M,k,none⟩=some (.slice (some ⟨A k,0,none⟩) (ln k) (cp k))
 ans:∀ k,k<n→∀ j,j<ln k→v.cell? ⟨A k,j*2,none⟩=some (I (e k j))∧v.cell? ⟨A k,j*2+1,none⟩=some (I (x k j))
theorem Rws.same {M n:Nat} {A cp ln:Nat→Nat} {e x:Nat→Nat→Int} {v v':World} (h:Rws M n A cp ln e x v) (hh:v'.heap=v.heap):Rws M n A cp ln e x v':=by
 have hc:∀ a,v'.cell? a=v.cell? a:=fun a=>World.cell?_of_block (w:=v) (w':=v') (by rw [hh])
 exact ⟨fun k hk=>by rw [hc];exact h.row k hk,fun k hk j hj=>by rw [hc,hc];exact h.ans k hk j hj⟩
def Sam (v u:World):Prop:=u.heap=v.heap∧u.os=v.os∧u.output=v.output
theorem body63 {v:World} (M M' n c1 c2:Nat) {A B ca cb ln:Nat→Nat} {e x:Nat→Nat→Int} (h1:Rws M n A ca ln e x v) (h2:Rws M' n B cb ln e x v) (hn:n≤1000000) (hln:∀ k,k<n→ln k≤1000000) :
 Body Try.f68 #[.slice (some ⟨M,0,none⟩) n c1,.slice (some ⟨M',0,none⟩) n c2] v (fun r v'=>r=.bool true∧v'.heap=v.heap∧v'.os=v.os∧v'.output=v.output):=by
 intro code hb
 obtain rfl:=Option.some.inj hb
 clear hb
 have H1:Hid (∀ u,Sam v u→Rws M n A ca ln e x u∧Rws M' n B cb ln e x u):=⟨fun u hu=>⟨h1.same hu.1,h2.same hu.1⟩⟩
 have HL:Hid (∀ k,k<n→ln k≤1000000):=⟨hln⟩
 clear h1 h2 hln
 simp only [Try.ntmps68,List.size_toArray,List.length_cons,List.length_nil,Nat.reduceAdd,Nat.reduceSub,Array.replicate_succ,Array.replicate_zero,List.push_toArray,List.append_toArray,List.nil_append,List.cons_append]
 go_wp2_with fail
 go_loopw [5] (fun i u=>∃ k:Nat,k≤n∧i=.int .i64 k∧Hid (Sam v u)) (fun i _=>n - (intOf i).toNat)
 case atStart=>exact ⟨0,Nat.zero_le _,rfl,⟨rfl,rfl,rfl⟩⟩
 case round =>
  obtain ⟨k,hk,rfl,hs⟩:=hrel
  by_cases hlt:k<n
  ·obtain ⟨r1,r2⟩:=H1.out wr hs.out
   have a1:=r1.row k hlt
   have a2:=r2.row k hlt
   have hl:=HL.out k hlt
   clear r1 r2
   have hlt':(k:Int)<(n:Int):=by omega
   have hnl:¬ n≤k:=by omega
   obtain ⟨wo,hwo⟩:∃ wo,wo=wr:=⟨wr,rfl⟩
   rw [←hwo] at hs a1 a2 ⊢
   clear hwo
   go_wp2_with fail
   go_quiet (fail)
   go_wp2_with fail
   go_loopw [6] (fun i u=>∃ j:Nat,j≤ln k∧i=.int .i64 j∧Hid (Sam v u)) (fun i _=>ln k - (intOf i).toNat)
   case atStart=>exact ⟨0,Nat.zero_le _,rfl,hs.out.1,hs.out.2.1,hs.out.2.2⟩
   case round =>
    obtain ⟨j,hj,rfl,hs2⟩:=hrel
    obtain ⟨r1,r2⟩:=H1.out wr hs2.out
    have b1:=r1.row k hlt
    have b2:=r2.row k hlt
    by_cases hjl:j<ln k
    ·have c1':=r1.ans k hlt j hjl
     have c2':=r2.ans k hlt j hjl
     obtain ⟨x1,x2⟩:=c1'
     obtain ⟨y1,y2⟩:=c2'
     clear r1 r2 a1 a2
     have hjl':(j:Int)<(ln k:Int):=by omega
     have hnj:¬ ln k≤j:=by omega
     go_wp2_with fail
     go_quiet (fail)
     go_wp2_with fail
     go_roundw
     case rel=>exact ⟨j+1,by omega,by go_num,hs2.out.1,hs2.out.2.1,hs2.out.2.2⟩
     case measure=>simp [intOf];omega
    ·have hjj:j=ln k:=by omega
     subst hjj
     clear r1 r2 a1 a2
     go_wp2_with fail
     go_roundw
     case rel=>exact ⟨k+1,by omega,by go_num,hs2.out.1,hs2.out.2.1,hs2.out.2.2⟩
     case measure=>simp [intOf];omega
  ·have hkk:k=n:=by omega
   subst hkk
   go_wp2_with fail
   go_ret
   exact ⟨_,rfl,rfl,hs.out.1,hs.out.2.1,hs.out.2.2⟩
variable {mc:Mc}
theorem turns_det:∀ {m m':Nat} {p p1 p2:PSt},Turns mc m p p1→Turns mc m' p p2→p1=p2
 |_,_,_,_,_,.stop h,.stop h'=>rfl
 |_,_,_,_,_,.stop h,.step h' _=>by rw [h] at h';cases h'
 |_,_,_,_,_,.step h _,.stop h'=>by rw [h] at h';cases h'
 |_,_,_,_,_,.step h t,.step h' t'=>by
  rw [h] at h'
  cases h'
  exact turns_det t t'
def pt (mc:Mc) (p:PSt):PSt:=(pturn mc p).getD p
def pts (mc:Mc):Nat→PSt→PSt
 |0,p=>p
 |n+1,p=>pts mc n (pt mc p)
def runs (mc:Mc):Nat→PSt→Bool
 |0,p=>(pturn mc p).isNone
 |n+1,p=>(pturn mc p).isSome&&runs mc n (pt mc p)
theorem turns_of:∀ (n:Nat) (p:PSt),runs mc n p=true→Turns mc n p (pts mc n p)
 |0,p,h=>by
  refine .stop ?_
  cases hp:pturn mc p with
  |none=>rfl
  |some x=>unfold runs at h;rw [hp] at h;cases h
 |n+1,p,h=>by
  unfold runs at h
  rw [Bool.and_eq_true] at h
  refine .step ?_ (turns_of n (pt mc p) h.2)
  unfold pt
  cases hp:pturn mc p with
  |none=>rw [hp] at h;cases h.1
  |some x=>rfl
end Go.Proofs.Ytfjjoohflcchnaa.Gen
namespace Go.Proofs.Ytfjjoohflcchnaa.Gen
open Go Go.Lift Go.Conc Go.RowKit
open Go.ConcN (upd upd_same upd_ne)
def clT (j:Nat):List Cl:=if j=0 then [⟨1,0,0,0⟩] else [⟨2,0,0,0⟩]
def awST (wb bk base:Nat) (sc cv:Value) (k:Nat):TS:=nv { cellsS (newS wb bk base sc []) cv k with ran:=true }
def awF (wb bk base:Nat) (sc cv:Value) (tv0:Value) (tb0 gc0:Nat):TS×Ph:=flow 0 mcLatch (clT 0) 0 false [(0,0)] (hiredS (awST wb bk base sc cv 1) tv0 tb0 gc0)
def awG (wb bk base:Nat) (sc cv:Value) (tv0:Value) (tb0 gc0:Nat) (tv1:Value) (tb1 gc1:Nat):TS×Ph:=flow 1 mcLatch (clT 1) 0 false [(0,0)] (hiredS (awF wb bk base sc cv tv0 tb0 gc0).1 tv1 tb1 gc1)
def awPT (wb bk base:Nat) (sc cv:Value) (tv0:Value) (tb0 gc0:Nat) (tv1:Value) (tb1 gc1:Nat) (cb:Nat) (l0:Nat→Ph):PSt :=
 ⟨(awG wb bk base sc cv tv0 tb0 gc0 tv1 tb1 gc1).1,[(cb,1)],upd (upd l0 0 (awF wb bk base sc cv tv0 tb0 gc0).2) 1 (awG wb bk base sc cv tv0 tb0 gc0 tv1 tb1 gc1).2⟩
section
variable (wb bk base:Nat) (sc cv:Value) (tv0:Value) (tb0 gc0:Nat) (tv1:Value) (tb1 gc1:Nat) (cb:Nat) (l0:Nat→Ph)
set_option maxRecDepth 100000
theorem awt_runs:runs mcLatch 5 (awPT wb bk base sc cv tv0 tb0 gc0 tv1 tb1 gc1 cb l0)=true:=by kernel_rfl
theorem awt_n:(pts mcLatch 5 (awPT wb bk base sc cv tv0 tb0 gc0 tv1 tb1 gc1 cb l0)).S.n=9:=by kernel_rfl
theorem awt_wb:(pts mcLatch 5 (awPT wb bk base sc cv tv0 tb0 gc0 tv1 tb1 gc1 cb l0)).S.wb=wb:=by kernel_rfl
theorem awt_tr:((pts mcLatch 5 (awPT wb bk base sc cv tv0 tb0 gc0 tv1 tb1 gc1 cb l0)).S.tr.all fun u=>u.oneCell')=true:=by kernel_rfl
theorem awt_ans:((pts mcLatch 5 (awPT wb bk base sc cv tv0 tb0 gc0 tv1 tb1 gc1 cb l0)).l 0).ans=[(0,0)]∧((pts mcLatch 5 (awPT wb bk base sc cv tv0 tb0 gc0 tv1 tb1 gc1 cb l0)).l 1).ans=[(0,0)]:=⟨by kernel_rfl,by kernel_rfl⟩
end
end Go.Proofs.Ytfjjoohflcchnaa.Gen
namespace Go.Proofs.Ytfjjoohflcchnaa.Gen
open Go Go.Lift Go.Conc Go.RowKit
noncomputable def B39:Code:=Try.f41.body.getD .skip
noncomputable def b390:Code:=seq1 B39
noncomputable def b391:Code:=seq1 (seq2 B39)
noncomputable def r392:Code:=seq1 (seq2 (seq2 B39))
noncomputable def T39:Code:=seq2 (seq2 (seq2 B39))
theorem eB39:B39=.seq b390 (.seq b391 (.seq r392 T39)):=by kernel_rfl
theorem fine390:fineCode Try.prog true LV b390:=fineCode_askS callV extT (by kernel_rfl)
theorem fine391:fineCode Try.prog true LV b391:=fineCode_askS callV extT (by kernel_rfl)
theorem fineT39:fineCode Try.prog true LV T39:=fineCode_askS callV extT (by kernel_rfl)
theorem b390_wp {v:World} :
 b390.wp Try.prog (fun e a w'=>e=.normal∧a={ tmps:=#[.bool false]++Array.replicate 35 undef,defers:=[] }∧w'.heap=v.heap∧w'.os=v.os∧w'.output=v.output)
  { tmps:=Array.replicate 36 undef,defers:=[] } v:=by
 show Code.wp Try.prog (seq1 (Try.f41.body.getD .skip)) _ _ _
 unfold Try.f41 seq1
 simp only [Option.getD_some,Array.replicate_succ,Array.replicate_zero,List.push_toArray,List.append_toArray,List.nil_append,List.cons_append]
 go_wp2_with fail
 try exact ⟨rfl,rfl,rfl⟩
theorem b391_wp {v:World} :
 b391.wp Try.prog (fun e a w'=>e=.normal∧∃ wb bk sc,a={ tmps:=#[.bool false,Pt wb 0,undef,undef,undef,undef,Pt wb 0]++Array.replicate 29 undef,defers:=[] }∧IsNew v [] wb bk sc w')
  { tmps:=#[.bool false]++Array.replicate 35 undef,defers:=[] } v:=by
 have H7:Hid (Calls Try.prog 18 #[.slice none 0 0] v _):=⟨(body70 (v:=v) none 0).calls Try.func18 rfl⟩
 show Code.wp Try.prog (seq1 (seq2 (Try.f41.body.getD .skip))) _ _ _
 unfold Try.f41 seq1 seq2
 simp only [Option.getD_some,Array.replicate_succ,Array.replicate_zero,List.push_toArray,List.append_toArray,List.nil_append,List.cons_append]
 go_wp2_with (first
  |(go_at_call 18;refine H7.out.mono ?_;rintro e w1 ⟨_,rfl,wb,bk,sc,rfl,hnew⟩))
 exact ⟨bk,sc,hnew⟩
structure Done39 (wb M:Nat) (A:Nat→Nat) (S:TS) (u:World):Prop where
 rep:Rep zn S u
 wb:S.wb=wb
 n:S.n=9
 tr:∀ x∈S.tr,x.oneCell'=true
 row:∀ k,k<2→u.cell? ⟨M,k,none⟩=some (.slice (some ⟨A k,0,none⟩) 1 1)
 ans:∀ k,k<2→u.heap[A k]? = some (.cells #[I 0,I 0] 42)
theorem same39 {v:World} {wb M:Nat} {A:Nat→Nat} {S:TS} (h:Done39 wb M A S v):Calls Try.prog 68 #[.slice (some ⟨M,0,none⟩) 2 2,.slice (some ⟨v.heap.size+2,0,none⟩) 2 2] (((v.alloc (.cells #[I 0,I 0] 42)).alloc (.cells #[I 0,I 0] 42)).alloc (.cells #[.slice (some ⟨v.heap.size,0,none⟩) 1 1,.slice (some ⟨v.heap.size+1,0,none⟩) 1 1] 40)) (fun e w'=>e=.returned (.bool true)∧w'.heap=(((v.alloc (.cells #[I 0,I 0] 42)).alloc (.cells #[I 0,I 0] 42)).alloc (.cells #[.slice (some ⟨v.heap.size,0,none⟩) 1 1,.slice (some ⟨v.heap.size+1,0,none⟩) 1 1] 40)).heap∧w'.os=v.os∧w'.output=v.output):=by
 have old:∀ b,b<v.heap.size→(((v.alloc (.cells #[I 0,I 0] 42)).alloc (.cells #[I 0,I 0] 42)).alloc (.cells #[.slice (some ⟨v.heap.size,0,none⟩) 1 1,.slice (some ⟨v.heap.size+1,0,none⟩) 1 1] 40)).heap[b]? = v.heap[b]?:=fun b hb=>by
  show (((v.heap.push _).push _).push _)[b]? = _
  simp only [Array.getElem?_push,Array.size_push]
  repeat rw [if_neg (by omega)]
 have n0:(((v.alloc (.cells #[I 0,I 0] 42)).alloc (.cells #[I 0,I 0] 42)).alloc (.cells #[.slice (some ⟨v.heap.size,0,none⟩) 1 1,.slice (some ⟨v.heap.size+1,0,none⟩) 1 1] 40)).heap[v.heap.size]? = some (.cells #[I 0,I 0] 42):=by
  show (((v.heap.push _).push _).push _)[v.heap.size]? = _
  simp only [Array.getElem?_push,Array.size_push]
  repeat first|rw [if_pos trivial]|rw [if_pos (by omega)]|rw [if_neg (by omega)]
 have n1:(((v.alloc (.cells #[I 0,I 0] 42)).alloc (.cells #[I 0,I 0] 42)).alloc (.cells #[.slice (some ⟨v.heap.size,0,none⟩) 1 1,.slice (some ⟨v.heap.size+1,0,none⟩) 1 1] 40)).heap[v.heap.size+1]? = some (.cells #[I 0,I 0] 42):=by
  show (((v.heap.push _).push _).push _)[v.heap.size+1]? = _
  simp only [Array.getElem?_push,Array.size_push]
  repeat first|rw [if_pos trivial]|rw [if_pos (by omega)]|rw [if_neg (by omega)]
 have n2:(((v.alloc (.cells #[I 0,I 0] 42)).alloc (.cells #[I 0,I 0] 42)).alloc (.cells #[.slice (some ⟨v.heap.size,0,none⟩) 1 1,.slice (some ⟨v.heap.size+1,0,none⟩) 1 1] 40)).heap[v.heap.size+2]? = some (.cells #[.slice (some ⟨v.heap.size,0,none⟩) 1 1,.slice (some ⟨v.heap.size+1,0,none⟩) 1 1] 40):=by
  show (((v.heap.push _).push _).push _)[v.heap.size+2]? = _
  simp only [Array.getElem?_push,Array.size_push]
  repeat first|rw [if_pos trivial]|rw [if_pos (by omega)]|rw [if_neg (by omega)]
 have hb:=body63 (v:=(((v.alloc (.cells #[I 0,I 0] 42)).alloc (.cells #[I 0,I 0] 42)).alloc (.cells #[.slice (some ⟨v.heap.size,0,none⟩) 1 1,.slice (some ⟨v.heap.size+1,0,none⟩) 1 1] 40))) M (v.heap.size+2) 2 2 2 (A:=A) (B:=fun k=>v.heap.size+k) (ca:=fun _=>1) (cb:=fun _=>1) (ln:=fun _=>1) (e:=fun _ _=>0) (x:=fun _ _=>0) ⟨fun k hk=>?_,fun k hk j hj=>?_⟩ ⟨fun k hk=>?_,fun k hk j hj=>?_⟩ (by decide) (fun _ _=>by decide)
 ·refine (hb.calls Try.func68 rfl).mono ?_
  rintro e w' ⟨r,rfl,rfl,h1,h2,h3⟩
  exact ⟨rfl,h1,h2,h3⟩
 ·have:=h.row k hk
  rw [World.cell?_of_block (w:=v) (w':=(((v.alloc (.cells #[I 0,I 0] 42)).alloc (.cells #[I 0,I 0] 42)).alloc (.cells #[.slice (some ⟨v.heap.size,0,none⟩) 1 1,.slice (some ⟨v.heap.size+1,0,none⟩) 1 1] 40))) (old M (World.block_lt_of_cell? _ _ this))]
  exact this
 ·have h1:=h.ans k hk
  have h2:(((v.alloc (.cells #[I 0,I 0] 42)).alloc (.cells #[I 0,I 0] 42)).alloc (.cells #[.slice (some ⟨v.heap.size,0,none⟩) 1 1,.slice (some ⟨v.heap.size+1,0,none⟩) 1 1] 40)).heap[A k]? = some (.cells #[I 0,I 0] 42):=by rw [old _ (Array.getElem?_eq_some_iff.1 h1).1];exact h1
  obtain rfl:j=0:=by omega
  exact ⟨cell_of h2 rfl,cell_of h2 rfl⟩
 ·have:k=0∨k=1:=by omega
  rcases this with rfl|rfl<;>exact cell_of n2 rfl
 ·obtain rfl:j=0:=by omega
  have:k=0∨k=1:=by omega
  rcases this with rfl|rfl
  ·exact ⟨cell_of n0 rfl,cell_of n0 rfl⟩
  ·exact ⟨cell_of n1 rfl,cell_of n1 rfl⟩
theorem T39_wp {v:World} {wb M:Nat} {A:Nat→Nat} {S:TS} (h:Done39 wb M A S v) (u4 u6 u7 u8 u9 u10 u11 u12 u13 u14 u15 u16:Value) :
 T39.wp Try.prog (fun e a w'=>e=.ret∧∃ x,(results Try.f41 a.tmps).run Try.prog w'=.ok x w'∧x=.bool true∧Grows v w')
  { tmps:=#[.bool false,Pt wb 0,.slice (some ⟨M,0,none⟩) 2 2,I 0,u4,undef,u6,u7,u8,u9,u10,u11,u12,u13,u14,u15,u16]++Array.replicate 19 undef,defers:=[] } v:=by
 obtain rfl:=h.wb
 have g3:Grows v (((v.alloc (.cells #[I 0,I 0] 42)).alloc (.cells #[I 0,I 0] 42)).alloc (.cells #[.slice (some ⟨v.heap.size,0,none⟩) 1 1,.slice (some ⟨v.heap.size+1,0,none⟩) 1 1] 40)):=⟨by show _≤(((v.heap.push _).push _).push _).size;simp;omega,fun b hb=>by
  show (((v.heap.push _).push _).push _)[b]? = _
  simp only [Array.getElem?_push,Array.size_push]
  repeat rw [if_neg (by omega)],rfl,rfl⟩
 have H1:Hid (Calls Try.prog 68 #[.slice (some ⟨M,0,none⟩) 2 2,.slice (some ⟨v.heap.size+2,0,none⟩) 2 2] (((v.alloc (.cells #[I 0,I 0] 42)).alloc (.cells #[I 0,I 0] 42)).alloc (.cells #[.slice (some ⟨v.heap.size,0,none⟩) 1 1,.slice (some ⟨v.heap.size+1,0,none⟩) 1 1] 40)) (fun e w1=>e=.returned (.bool true)∧Hid (Calls Try.prog 20 #[Pt S.wb 0] w1 (fun e w2=>∃ p g cap,e=.returned (.slice p 9 cap)∧Hid (Grows v w2))))):=⟨(same39 h).mono (by
  rintro e w1 ⟨rfl,h1,h2,h3⟩
  have g1:Grows v w1:=⟨by rw [h1];exact g3.size,fun b hb=>by rw [h1];exact g3.old b hb,h2,h3⟩
  refine ⟨rfl,⟨((body9A (z:=zn) (S:=S) (v:=w1) (h.rep.grows g1.size g1.old) (by rw [h.n];decide) h.tr).calls Try.func20 rfl).mono ?_⟩⟩
  rintro e w2 ⟨r,rfl,p,g,cap,rfl,_,_,hgr⟩
  rw [h.n]
  exact ⟨p,g,cap,rfl,⟨g1.andThen hgr⟩⟩)⟩
 clear h g3
 show Code.wp Try.prog (seq2 (seq2 (seq2 (Try.f41.body.getD .skip)))) _ _ _
 unfold Try.f41 seq2
 simp only [Option.getD_some,Array.replicate_succ,Array.replicate_zero,List.push_toArray,List.append_toArray,List.nil_append,List.cons_append]
 go_wp2_with (first
  |(go_at_call 68;refine H1.out.mono ?_;rintro e w1 ⟨rfl,H2⟩)
  |(go_at_call 20;refine H2.out.mono ?_;rintro e w2 ⟨p,g,cap,rfl,H3⟩))
 exact ⟨_,results_tmp (t:=0) rfl _ _ _,rfl,H3.out⟩
structure Set39 (v:World) (wb bk:Nat) (sc:Value) (c:Nat) (u:World):Prop where
 mem:Mem zn (newS wb bk v.heap.size sc []) [] u
 opn:Open u bk
 c0:u.heap[c]? = some (.cells #[I 1,I 0,I 0,I 0] 39)
 c1:u.heap[c+1]? = some (.cells #[I 2,I 0,I 0,I 0] 39)
 scr:u.heap[c+2]? = some (.cells #[.slice (some ⟨c,0,none⟩) 1 1,.slice (some ⟨c+1,0,none⟩) 1 1] 37)
 own:∀ b,Own (newS wb bk v.heap.size sc []) [] b∨b=bk→v.heap.size≤b∧b<c
 old:Grows v u
theorem Set39.same {v:World} {wb bk:Nat} {sc:Value} {c:Nat} {u u':World} (h:Set39 v wb bk sc c u) (e:u'.heap=u.heap) (e1:u'.os=u.os) (e2:u'.output=u.output):Set39 v wb bk sc c u':=by
 have g:Grows u u':=⟨by rw [e];exact Nat.le_refl _,fun b _=>by rw [e],e1,e2⟩
 refine ⟨(h.mem.grows g).mem,?_,by rw [e];exact h.c0,by rw [e];exact h.c1,by rw [e];exact h.scr,h.own,⟨by rw [e];exact h.old.size,fun b hb=>by rw [e];exact h.old.old b hb,e1.trans h.old.os,e2.trans h.old.output⟩⟩
 obtain ⟨c,m,hh⟩:=h.opn
 exact ⟨c,m,by rw [e];exact hh⟩
theorem tawake_in {Ch:Nat→Prop} {Stop:Goroutine→World→Prop} {main:Bool} {v w:World} (cs:List Frame) {bc:Frame} {ac:Act} {ops:Array Oper} {q:Nat} {rest:List Nat} {oc:Oper} {k:List Item} (hoc:ops[q]? = some oc)
 (hvw:Rel zn v w) (hn:NoRow Ch v)
 (hk:∀ v' w' (wb bk:Nat) (sc:Value) (c:Nat) (bd:Frame) (ad:Act) (od:Array Oper) (qd:Nat) (rd:List Nat) (oe:Oper) (kd:List Item),Rel zn v' w'→NoRow Ch v'→Set39 v wb bk sc c v'→od[qd]? = some oe →
   (∀ (Ch:Nat→Prop) (Stop:Goroutine→World→Prop) (S:TS) (M:Nat) (A:Nat→Nat) (v w:World),Rel zn v w→NoRow Ch v→Done39 wb M A S v→(∀ v' w',Rel zn v' w'→NoRow Ch v'→Grows v v'→GoesI Try.prog main (DT (ScZ zn) Ch) Stop (G (bc.at (ac.put oc.dst (.bool true)) (.inRegion ops rest :: k)) cs) w')→GoesI Try.prog main (DT (ScZ zn) Ch) Stop (G (bd.at (ad.put oe.dst (.tuple #[.slice (some ⟨M,0,none⟩) 2 2,I 0])) (.inRegion od rd :: kd)) (bc.at ac (.inRegion ops (q :: rest) :: k) :: cs)) w) →
   GoesI Try.prog main (DT (ScZ zn) Ch) Stop (G ((base 42).at { tmps:=#[Pt wb 0,I 1,.slice (some ⟨c+2,0,none⟩) 2 2]++Array.replicate 22 undef,defers:=[] } [.code B40]) (bd.at ad (.inRegion od (qd :: rd) :: kd) :: bc.at ac (.inRegion ops (q :: rest) :: k) :: cs)) w') :
 GoesI Try.prog main (DT (ScZ zn) Ch) Stop (G ((base 41).at { tmps:=Array.replicate 36 undef,defers:=[] } [.code B39]) (bc.at ac (.inRegion ops (q :: rest) :: k) :: cs)) w:=by
 rw [eB39]
 refine goesI_seq (dt_idle _ _) ?_
 refine goesI_plain (z:=zn) (wr:=true) (L:=LV) (I:=NoRow Ch) hE fineV noRow_keeps (fun v v' w w' es hi hr ho he=>dt_of_z v v' w w' es hi hr ho he) hvw fine390 rfl (by simp [base]) hn
  (Q:=fun a w'=>a={ tmps:=#[.bool false]++Array.replicate 35 undef,defers:=[] }∧w'.heap=v.heap∧w'.os=v.os∧w'.output=v.output) (fun τ=>b390_wp (v:=onTape v τ 0)) ?_
 rintro a0 v0 w0 ⟨rfl,e0,o0,u0⟩ hr0 hn0 -
 refine goesI_seq (dt_idle _ _) ?_
 refine goesI_plain (z:=zn) (wr:=true) (L:=LV) (I:=NoRow Ch) hE fineV noRow_keeps (fun v v' w w' es hi hr ho he=>dt_of_z v v' w w' es hi hr ho he) hr0 fine391 rfl (by simp [base]) hn0
  (Q:=fun a w'=>∃ wb bk sc,a={ tmps:=#[.bool false,Pt wb 0,undef,undef,undef,undef,Pt wb 0]++Array.replicate 29 undef,defers:=[] }∧IsNew v0 [] wb bk sc w') (fun τ=>?_) ?_
 ·refine wp_mono (b391_wp (v:=onTape v0 τ 0)) (fun e a w' hq=>⟨hq.1,?_⟩)
  obtain ⟨_,wb,bk,sc,h1,h2⟩:=hq
  exact ⟨wb,bk,sc,h1,⟨h2.mem,h2.opn,h2.new,⟨h2.old.size,h2.old.old,h2.old.os,h2.old.output⟩⟩⟩
 rintro a1 v1 w1 ⟨wb,bk,sc,rfl,hnew⟩ hr1 hn1 -
 have hset:Set39 v wb bk sc v1.heap.size (((v1.alloc (.cells #[I 1,I 0,I 0,I 0] 39)).alloc (.cells #[I 2,I 0,I 0,I 0] 39)).alloc (.cells #[.slice (some ⟨v1.heap.size,0,none⟩) 1 1,.slice (some ⟨v1.heap.size+1,0,none⟩) 1 1] 37)):=by
  have g1:Grows v1 (((v1.alloc (.cells #[I 1,I 0,I 0,I 0] 39)).alloc (.cells #[I 2,I 0,I 0,I 0] 39)).alloc (.cells #[.slice (some ⟨v1.heap.size,0,none⟩) 1 1,.slice (some ⟨v1.heap.size+1,0,none⟩) 1 1] 37)):=⟨by show _≤(((v1.heap.push _).push _).push _).size;simp;omega,fun b hb=>by
   show (((v1.heap.push _).push _).push _)[b]? = _
   simp only [Array.getElem?_push,Array.size_push]
   repeat rw [if_neg (by omega)],rfl,rfl⟩
  have hm1:=hnew.mem
  have hnn:=hnew.new
  rw [e0] at hm1 hnn
  refine ⟨(hm1.grows g1).mem,?_,?_,?_,?_,fun b hb=>⟨hnn b hb,?_⟩,⟨?_,fun b hb=>?_,?_,?_⟩⟩
  ·obtain ⟨c,m,h⟩:=hnew.opn
   exact ⟨c,m,by rw [g1.old _ (Array.getElem?_eq_some_iff.1 h).1];exact h⟩
  ·show (((v1.heap.push _).push _).push _)[v1.heap.size]? = _
   simp only [Array.getElem?_push,Array.size_push]
   repeat first|rw [if_pos trivial]|rw [if_pos (by omega)]|rw [if_neg (by omega)]
  ·show (((v1.heap.push _).push _).push _)[v1.heap.size+1]? = _
   simp only [Array.getElem?_push,Array.size_push]
   repeat first|rw [if_pos trivial]|rw [if_pos (by omega)]|rw [if_neg (by omega)]
  ·show (((v1.heap.push _).push _).push _)[v1.heap.size+2]? = _
   simp only [Array.getElem?_push,Array.size_push]
   repeat first|rw [if_pos trivial]|rw [if_pos (by omega)]|rw [if_neg (by omega)]
  ·rcases hb with hb|rfl
   ·exact hm1.lt hb
   ·obtain ⟨c,m,h⟩:=hnew.opn
    exact (Array.getElem?_eq_some_iff.1 h).1
  ·have:=hnew.old.size;have:=g1.size;rw [e0] at *;omega
  ·rw [g1.old b (by have:=hnew.old.size;rw [e0] at this;omega),hnew.old.old b (by rw [e0];exact hb),e0]
  ·exact hnew.old.os.trans o0
  ·exact hnew.old.output.trans u0
 clear hnew hr0 hn0 e0 o0 u0 hvw hn
 unfold r392 B39 Try.f41 seq1 seq2
 simp only [Option.getD_some,Array.replicate_succ,Array.replicate_zero,List.push_toArray,List.append_toArray,List.nil_append,List.cons_append]
 refine goesI_seq (dt_idle _ _) ?_
 refine goesI_region (dt_idle _ _) ?_
 simp only [List.size_toArray,List.length_cons,List.length_nil,Nat.reduceAdd,Nat.zero_add,List.range,List.range.loop]
 iterate 1
  (refine goesI_oper rfl rfl (by decide) (fun d K hK=>?_)
   go_simp
   refine hK _ _ ⟨dt_reads (fun e he=>?_),GoesI.at ?_ d⟩
   ·have hm:=mem_listed he
    simp [go_sem, *] at hm
    try exact ⟨_,_,hm⟩
   clear hK K)
 refine goesI_opZ (L:=LV) rfl rfl (by decide) (fineOp_ask callV extT (by kernel_rfl)) hr1 hn1 (v':=v1) (x:=.agg #[I 1,I 0,I 0,I 0]) (by go_simp) rfl (fun w2 hr2 hn2=>?_)
 refine goesI_opZ (L:=LV) rfl rfl (by decide) (fineOp_ask callV extT (by kernel_rfl)) hr2 hn2 (v':=v1.alloc (.cells #[I 1,I 0,I 0,I 0] 39)) (x:=.slice (some ⟨v1.heap.size,0,none⟩) 1 1) (by go_simp) rfl (fun w3 hr3 hn3=>?_)
 refine goesI_opZ (L:=LV) rfl rfl (by decide) (fineOp_ask callV extT (by kernel_rfl)) hr3 hn3 (v':=v1.alloc (.cells #[I 1,I 0,I 0,I 0] 39)) (x:=.agg #[I 2,I 0,I 0,I 0]) (by go_simp) rfl (fun w4 hr4 hn4=>?_)
 refine goesI_opZ (L:=LV) rfl rfl (by decide) (fineOp_ask callV extT (by kernel_rfl)) hr4 hn4 (v':=(v1.alloc (.cells #[I 1,I 0,I 0,I 0] 39)).alloc (.cells #[I 2,I 0,I 0,I 0] 39)) (x:=.slice (some ⟨v1.heap.size+1,0,none⟩) 1 1) (by go_simp) rfl (fun w5 hr5 hn5=>?_)
 refine goesI_opZ (L:=LV) rfl rfl (by decide) (fineOp_ask callV extT (by kernel_rfl)) hr5 hn5 (v':=(((v1.alloc (.cells #[I 1,I 0,I 0,I 0] 39)).alloc (.cells #[I 2,I 0,I 0,I 0] 39)).alloc (.cells #[.slice (some ⟨v1.heap.size,0,none⟩) 1 1,.slice (some ⟨v1.heap.size+1,0,none⟩) 1 1] 37))) (x:=.slice (some ⟨v1.heap.size+2,0,none⟩) 2 2) (by go_simp) rfl (fun w6 hr6 hn6=>?_)
 refine goesI_into (f:=42) (fn:=Try.f42) (args:=#[Pt wb 0,I 1,.slice (some ⟨v1.heap.size+2,0,none⟩) 2 2]) (dt_idle _ _) rfl rfl (by decide) rfl (by simp [Act.eval,Act.put]) Try.func42 (by decide) rfl ?_
 refine hk _ w6 wb bk sc v1.heap.size _ _ _ _ _ _ _ hr6 hn6 hset rfl (fun Ch Stop S M A vv ww hvw hn hD hg=>?_)
 clear hk hset hr1 hr2 hr3 hr4 hr5 hr6 hn1 hn2 hn3 hn4 hn5 hn6
 iterate 5
  (refine goesI_oper rfl rfl (by decide) (fun d K hK=>?_)
   go_simp
   refine hK _ _ ⟨dt_reads (fun e he=>?_),GoesI.at ?_ d⟩
   ·have hm:=mem_listed he
    simp [go_sem, *] at hm
    try exact ⟨_,_,hm⟩
   clear hK K)
 refine goesI_regionEnd (dt_idle _ _) ?_
 refine goesI_outZ (c:=T39) (f:=41) (fn:=Try.f41) (L:=LV) hE fineV hvw hn Try.func41 fineT39 rfl hoc (R:=fun r w'=>r=.bool true∧Grows vv w') (fun τ=>?_) (fun r v' w' hR hr' hn'=>?_)
 ·have hD':Done39 wb M A S (onTape vv τ 0):=⟨hD.rep.same rfl,hD.wb,hD.n,hD.tr,hD.row,hD.ans⟩
  have h:=T39_wp (v:=onTape vv τ 0) hD' undef (Pt wb 0) (.tuple #[.slice (some ⟨M,0,none⟩) 2 2,I 0]) (Pt wb 0) (.agg #[I 1,I 0,I 0,I 0]) (.slice (some ⟨v1.heap.size,0,none⟩) 1 1) (.agg #[I 2,I 0,I 0,I 0]) (.slice (some ⟨v1.heap.size+1,0,none⟩) 1 1) (.slice (some ⟨v1.heap.size+2,0,none⟩) 2 2) (.tuple #[.slice (some ⟨M,0,none⟩) 2 2,I 0]) (.slice (some ⟨M,0,none⟩) 2 2) (I 0)
  simp only [Array.replicate_succ,Array.replicate_zero,List.push_toArray,List.append_toArray,List.nil_append,List.cons_append] at h ⊢
  refine wp_mono h (fun e a w' hq=>⟨hq.1,?_⟩)
  obtain ⟨_,x,h1,h2,h3⟩:=hq
  exact ⟨x,h1,h2,⟨h3.size,h3.old,h3.os,h3.output⟩⟩
 ·obtain ⟨rfl,hgr⟩:=hR
  exact hg v' w' hr' hn' hgr
end Go.Proofs.Ytfjjoohflcchnaa.Gen
namespace Go.Proofs.Ytfjjoohflcchnaa.Gen
open Go Go.Lift Go.Conc Go.RowKit
open Go.ConcN (upd upd_same upd_ne)
section
variable {wb bk base:Nat} {sc cv:Value} {cb:Nat} {l0:Nat→Ph}
theorem hires_lat {caps:Array Value} {pk:Nat→Option Obj} {N c:Nat} {S1:TS} {l1:Nat→Ph} (h:Hires mcLatch 0 (scrs mcLatch 69 caps pk N 2 [(cb,1)] (fun j=>some ⟨c+j,0,none⟩) (fun _=>1) (fun _=>1) (fun j=>c+j) clT) (awST wb bk base sc cv 1) l0 S1 l1) :
 ∃ tv0 tb0 gc0 tv1 tb1 gc1,(⟨S1,[(cb,1)],l1⟩:PSt)=awPT wb bk base sc cv tv0 tb0 gc0 tv1 tb1 gc1 cb l0:=by
 have e:(scrs mcLatch 69 caps pk N 2 [(cb,1)] (fun j=>some ⟨c+j,0,none⟩) (fun _=>1) (fun _=>1) (fun j=>c+j) clT)=[scrOf mcLatch 69 caps pk N 2 [cb] (fun j=>some ⟨c+j,0,none⟩) (fun _=>1) (fun _=>1) (fun j=>c+j) clT 0,scrOf mcLatch 69 caps pk N 2 [cb] (fun j=>some ⟨c+j,0,none⟩) (fun _=>1) (fun _=>1) (fun j=>c+j) clT 1]:=rfl
 rw [e] at h
 cases h with
 |cons tv0 tb0 gc0 h =>
  cases h with
  |cons tv1 tb1 gc1 h =>
   cases h
   exact ⟨tv0,tb0,gc0,tv1,tb1,gc1,rfl⟩
end
theorem asked39 {v u:World} {wb bk:Nat} {sc:Value} {c:Nat} (s:Set39 v wb bk sc c u):Asked u (newS wb bk v.heap.size sc []) 2 (c+2) 0 (fun j=>some ⟨c+j,0,none⟩) (fun _=>1) (fun _=>1) (fun j=>c+j) clT:=by
 refine ⟨fun j hj=>⟨by unfold clT;split<;>rfl,by decide⟩,fun k hk=>?_,fun h=>by have:=(s.own _ (.inl h)).2;omega,fun j hj _=>⟨rfl,fun h=>by have:=(s.own _ (.inl h)).2;omega⟩,fun j hj k x hx=>?_,fun j hj x hx=>?_⟩
 ·have:k=0∨k=1:=by omega
  rcases this with rfl|rfl<;>exact cell_of s.scr rfl
 ·have:j=0∨j=1:=by omega
  rcases this with rfl|rfl
  ·match k,hx with
   |0,hx =>
    cases hx
    exact ⟨cell_of s.c0 rfl,cell_of s.c0 rfl,cell_of s.c0 rfl,cell_of s.c0 rfl⟩
   |k+1,hx=>simp [clT] at hx
  ·match k,hx with
   |0,hx =>
    cases hx
    exact ⟨cell_of s.c1 rfl,cell_of s.c1 rfl,cell_of s.c1 rfl,cell_of s.c1 rfl⟩
   |k+1,hx=>simp [clT] at hx
 ·unfold clT at hx
  split at hx
  ·simp only [List.mem_singleton] at hx
   subst hx
   decide
  ·simp only [List.mem_singleton] at hx
   subst hx
   decide
theorem K_one {K:List (Nat×Int)} {m:Int} (hK:K.map (·.2)=[m]):∃ cb,K=[(cb,m)]:=by
 match K,hK with
 | [],hK=>cases hK
 | [x],hK =>
  obtain ⟨a,b⟩:=x
  simp only [List.map_cons,List.map_nil,List.cons.injEq,and_true] at hK
  obtain rfl:=hK
  exact ⟨a,rfl⟩
 |x :: y :: l,hK=>simp at hK
theorem tawake_all {cs:List Frame} {bc:Frame} {ac:Act} {ops:Array Oper} {q0:Nat} {rest:List Nat} {oc:Oper} {k0:List Item} (hoc:ops[q0]? = some oc) {w:World} {T:Trace} {gs:Array Goroutine} {q:Nat→Nat} (sl:Option (Nat×Nat)) (A:Alone gs w T q)
 (hg:gs[0]? = some (G ((base 41).at { tmps:=Array.replicate 36 undef,defers:=[] } [.code B39]) (bc.at ac (.inRegion ops (q0 :: rest) :: k0) :: cs))) :
 ∃ (N':Nat) (gs':Array Goroutine) (w':World) (sl':Option (Nat×Nat)) (T':Trace) (q':Nat→Nat),
   runNT Try.prog N' (crowd gs w sl) T=(.next (crowd gs' w' sl'),T')∧gs'[0]? = some (G (bc.at (ac.put oc.dst (.bool true)) (.inRegion ops rest :: k0)) cs)∧Alone gs' w' T' q'∧Grows w w':=by
 have hG:GoesI Try.prog true (DT (ScZ zn) (fun _=>False)) (fun g w'=>∃ (wb bk:Nat) (sc:Value) (c:Nat) (bd:Frame) (ad:Act) (od:Array Oper) (qd:Nat) (rd:List Nat) (oe:Oper) (kd:List Item),Set39 w wb bk sc c w'∧od[qd]? = some oe ∧
  (∀ (Ch:Nat→Prop) (Stop:Goroutine→World→Prop) (S:TS) (M:Nat) (A:Nat→Nat) (v w:World),Rel zn v w→NoRow Ch v→Done39 wb M A S v→(∀ v' w',Rel zn v' w'→NoRow Ch v'→Grows v v'→GoesI Try.prog true (DT (ScZ zn) Ch) Stop (G (bc.at (ac.put oc.dst (.bool true)) (.inRegion ops rest :: k0)) cs) w')→GoesI Try.prog true (DT (ScZ zn) Ch) Stop (G (bd.at (ad.put oe.dst (.tuple #[.slice (some ⟨M,0,none⟩) 2 2,I 0])) (.inRegion od rd :: kd)) (bc.at ac (.inRegion ops (q0 :: rest) :: k0) :: cs)) w) ∧
  g=G ((base 42).at { tmps:=#[Pt wb 0,I 1,.slice (some ⟨c+2,0,none⟩) 2 2]++Array.replicate 22 undef,defers:=[] } [.code B40]) (bd.at ad (.inRegion od (qd :: rd) :: kd) :: bc.at ac (.inRegion ops (q0 :: rest) :: k0) :: cs)) (G ((base 41).at { tmps:=Array.replicate 36 undef,defers:=[] } [.code B39]) (bc.at ac (.inRegion ops (q0 :: rest) :: k0) :: cs)) w :=
  tawake_in cs hoc (Rel.refl w) (fun c hc=>hc.elim) (fun v' w' wb bk sc c bd ad od qd rd oe kd hr hn hset ho hback=>GoesI.stop fun d=>⟨wb,bk,sc,c,bd,ad,od,qd,rd,oe,kd,hset.same hr.eq hr.os hr.output,ho,hback,rfl⟩)
 obtain ⟨N1,gs1,a1,w1,sl1,T1,q1,r1,z1,h1,⟨wb,bk,sc,c,bd,ad,od,qd,rd,oe,kd,s,hoe,hback,rfl⟩,A1⟩:=alone_goes A hg sl hG
 have l0:Nat→Ph:=fun _=>.done []
 obtain ⟨N2,gs2,w2,sl2,T2,q2,caps,pk,N,cv,K,S',S1,l1,m,p',r2,z2,h2,A2,hK,hnv,hH,hT,O⟩:=tplay_all 1 (by decide) (S:=newS wb bk w.heap.size sc []) (n:=2) (sb:=c+2) (so:=0) (cap:=2) (pc:=fun j=>some ⟨c+j,0,none⟩) (ln:=fun _=>1) (cp:=fun _=>1) (rb:=fun j=>c+j) (cl:=clT) hoe sl1 5 A1 h1 s.mem rfl rfl rfl s.opn (asked39 s) (by decide) (fun caps pk N K=>by show 0+2*(1+(1+0))≤1000000;decide) (by show 0≤4611686018427387904;decide) (by show ∀ x∈([]:List Int),_;simp) l0 (fun caps pk N cv K hK S1 l1 hH=>by
  obtain ⟨cb,rfl⟩:=K_one hK
  obtain ⟨tv0,tb0,gc0,tv1,tb1,gc1,e⟩:=hires_lat (wb:=wb) (bk:=bk) (base:=w.heap.size) (sc:=sc) (cv:=cv) hH
  exact ⟨5,_,Nat.le_refl _,by rw [e];exact turns_of 5 _ (awt_runs wb bk _ sc cv tv0 tb0 gc0 tv1 tb1 gc1 cb l0),by rw [awt_n];decide⟩)
 obtain ⟨cb,rfl⟩:=K_one hK
 obtain ⟨tv0,tb0,gc0,tv1,tb1,gc1,e⟩:=hires_lat (wb:=wb) (bk:=bk) (base:=w.heap.size) (sc:=sc) (cv:=cv) hH
 have hT':Turns mcLatch m (⟨S1,[(cb,1)],l1⟩:PSt) p':=hT
 rw [e] at hT'
 have hp:=turns_det hT' (turns_of 5 _ (awt_runs wb bk w.heap.size sc cv tv0 tb0 gc0 tv1 tb1 gc1 cb l0))
 have hSn:S'.n=9:=by
  have:=congrArg TS.n hnv
  rw [hp,awt_n] at this
  exact this
 have hSw:S'.wb=wb:=by
  have:=congrArg TS.wb hnv
  rw [hp,awt_wb] at this
  exact this
 have hStr:∀ x∈S'.tr,x.oneCell'=true:=by
  have h1:=awt_tr wb bk w.heap.size sc cv tv0 tb0 gc0 tv1 tb1 gc1 cb l0
  have h2:=congrArg TS.tr hnv
  rw [hp] at h2
  have h3:S'.tr=(pts mcLatch 5 (awPT wb bk w.heap.size sc cv tv0 tb0 gc0 tv1 tb1 gc1 cb l0)).S.tr:=h2
  rw [←h3] at h1
  exact fun x hx=>List.all_eq_true.1 h1 x hx
 have hans:=awt_ans wb bk w.heap.size sc cv tv0 tb0 gc0 tv1 tb1 gc1 cb l0
 rw [←hp] at hans
 have a0:=(O.ans 0 (by decide)).2.1 (by decide)
 have a1:=(O.ans 1 (by decide)).2.1 (by decide)
 rw [hans.1] at a0
 rw [hans.2] at a1
 have hD:Done39 wb (N+1) (fun k=>N+4+3*k+2) S' w2:=by
  refine ⟨O.mem.rep,hSw,hSn,hStr,fun k hk=>O.rows k hk,fun k hk=>?_⟩
  have:k=0∨k=1:=by omega
  rcases this with rfl|rfl
  ·exact a0
  ·exact a1
 obtain ⟨N3,gs3,a3,w3,sl3,T3,q3,r3,z3,h3,⟨rfl,hg3⟩,A3⟩:=alone_goes A2 h2 sl2 (hback (fun _=>False) (fun g w'=>g=G (bc.at (ac.put oc.dst (.bool true)) (.inRegion ops rest :: k0)) cs∧Grows w2 w') S' (N+1) _ w2 w2 (Rel.refl w2) (fun c hc=>hc.elim) hD (fun v' w' hr hn hgr=>GoesI.stop fun d=>⟨rfl,hgr.toAt hr d⟩))
 refine ⟨N1+N2+N3,gs3,w3,sl3,T3,q3,runNT_then (runNT_then r1 r2) r3,h3,A3,⟨by have:=s.old.size;have:=O.size;have:=hg3.size;omega,fun b hb=>?_,hg3.os.trans (O.os.trans s.old.os),hg3.output.trans (O.out.trans s.old.output)⟩⟩
 have hs1:=s.old.size
 have hno:¬ (Own (newS wb bk w.heap.size sc []) [] b∨b=bk):=fun h=>by have:=(s.own b h).1;omega
 have h5:=O.old b (by omega) (fun h=>hno (.inl h)) (fun h=>hno (.inr h))
 rw [hg3.old b (by have:=O.size;omega),h5.1,s.old.old b hb]
end Go.Proofs.Ytfjjoohflcchnaa.Gen
