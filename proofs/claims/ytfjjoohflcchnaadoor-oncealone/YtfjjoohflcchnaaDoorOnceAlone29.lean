/- Of the proof of OnceAlone. Part 29 of 30. (Joined, by program, and written short, of: SamA, GPts, OnAw1, OnAw2, OnAw3, La5c, La5d, GIns, GWb, GFin, GAe.) -/
import Derived.Test.YtfjjoohflcchnaaDoorOnceAlone15
import Derived.Test.YtfjjoohflcchnaaDoorOnceAlone17
import Derived.Test.YtfjjoohflcchnaaDoorOnceAlone22
import Derived.Test.YtfjjoohflcchnaaDoorOnceAlone23
import Derived.Test.YtfjjoohflcchnaaDoorOnceAlone26
import Derived.Test.YtfjjoohflcchnaaDoorOnceAlone27
import Derived.Test.YtfjjoohflcchnaaDoorOnceAlone28
import Derived.BigQuiet
import Derived.KernelRfl
set_option linter.unusedSimpArgs false
set_option linter.unusedVariables false
set_option maxHeartbeats 4000000
set_option maxRecDepth 100000
namespace Go.Proofs.YtfjjoohflcchnaaDoor.Gen
open Go Go.Lift Go.Conc Go.RowKit
structure Rws (M:Nat) (n:Nat) (A cp ln:Nat→Nat) (e x:Nat→Nat→Int) (v:World):Prop where
 row:∀ k,k<n→v.cell? ⟨M,k,none⟩=some (.slice (some ⟨A k,0,none⟩) (ln k) (cp k))
 ans:∀ k,k<n→∀ j,j<ln k→v.cell? ⟨A k,j*2,none⟩=some (I (e k j))∧v.cell? ⟨A k,j*2+1,none⟩=some (I (x k j))
theorem Rws.same {M n:Nat} {A cp ln:Nat→Nat} {e x:Nat→Nat→Int} {v v':World} (h:Rws M n A cp ln e x v) (hh:v'.heap=v.heap):Rws M n A cp ln e x v':=by
 have hc:∀ a,v'.cell? a=v.cell? a:=fun a=>World.cell?_of_block (w:=v) (w':=v') (by rw [hh])
 exact ⟨fun k hk=>by rw [hc];exact h.row k hk,fun k hk j hj=>by rw [hc,hc];exact h.ans k hk j hj⟩
def Sam (v u:World):Prop:=u.heap=v.heap∧u.os=v.os∧u.output=v.output
theorem body22 {v:World} (M M' n c1 c2:Nat) {A B ca cb ln:Nat→Nat} {e x:Nat→Nat→Int} (h1:Rws M n A ca ln e x v) (h2:Rws M' n B cb ln e x v) (hn:n≤1000000) (hln:∀ k,k<n→ln k≤1000000) :
 Body Tryd.f58 #[.slice (some ⟨M,0,none⟩) n c1,.slice (some ⟨M',0,none⟩) n c2] v (fun r v'=>r=.bool true∧v'.heap=v.heap∧v'.os=v.os∧v'.output=v.output):=by
 intro code hb
 obtain rfl:=Option.some.inj hb
 clear hb
 have H1:Hid (∀ u,Sam v u→Rws M n A ca ln e x u∧Rws M' n B cb ln e x u):=⟨fun u hu=>⟨h1.same hu.1,h2.same hu.1⟩⟩
 have HL:Hid (∀ k,k<n→ln k≤1000000):=⟨hln⟩
 clear h1 h2 hln
 simp only [Tryd.ntmps58,List.size_toArray,List.length_cons,List.length_nil,Nat.reduceAdd,Nat.reduceSub,Array.replicate_succ,Array.replicate_zero,List.push_toArray,List.append_toArray,List.nil_append,List.cons_append]
 go_wp2_with fail
 go_loopw [5] (fun i u=>∃ k:Nat,k≤n∧i=.int .i64 k∧Hid (Sam v u)) (fun i _=>n - (intOf i).toNat)
 case atStart=>exact ⟨0,Nat.zero_le _,rfl,⟨rfl,rfl,rfl⟩⟩
 case round =>
  obtain ⟨k,hk,rfl,hs⟩:=hrel
  by_cases hlt:k<n
  ·obtain ⟨r1,r2⟩:=H1.out wr hs.out
   have a1:=r1.row k hlt
   have a2:=r2.row k hlt
   have hl:=HL.out k hlt
   clear r1 r2
   have hlt':(k:Int)<(n:Int):=by omega
   have hnl:¬ n≤k:=by omega
   obtain ⟨wo,hwo⟩:∃ wo,wo=wr:=⟨wr,rfl⟩
   rw [←hwo] at hs a1 a2 ⊢
   clear hwo
   go_wp2_with fail
   go_quiet (fail)
   go_wp2_with fail
   go_loopw [6] (fun i u=>∃ j:Nat,j≤ln k∧i=.int .i64 j∧Hid (Sam v u)) (fun i _=>ln k - (intOf i).toNat)
   case atStart=>exact ⟨0,Nat.zero_le _,rfl,hs.out.1,hs.out.2.1,hs.out.2.2⟩
   case round =>
    obtain ⟨j,hj,rfl,hs2⟩:=hrel
    obtain ⟨r1,r2⟩:=H1.out wr hs2.out
    have b1:=r1.row k hlt
    have b2:=r2.row k hlt
    by_cases hjl:j<ln k
    ·have c1':=r1.ans k hlt j hjl
     have c2':=r2.ans k hlt j hjl
     obtain ⟨x1,x2⟩:=c1'
     obtain ⟨y1,y2⟩:=c2'
     clear r1 r2 a1 a2
     have hjl':(j:Int)<(ln k:Int):=by omega
     have hnj:¬ ln k≤j:=by omega
     go_wp2_with fail
     go_quiet (fail)
     go_wp2_with fail
     go_roundw
     case rel=>exact ⟨j+1,by omega,by go_num,hs2.out.1,hs2.out.2.1,hs2.out.2.2⟩
     case measure=>simp [intOf];omega
    ·have hjj:j=ln k:=by omega
     subst hjj
     clear r1 r2 a1 a2
     go_wp2_with fail
     go_roundw
     case rel=>exact ⟨k+1,by omega,by go_num,hs2.out.1,hs2.out.2.1,hs2.out.2.2⟩
     case measure=>simp [intOf];omega
  ·have hkk:k=n:=by omega
   subst hkk
   go_wp2_with fail
   go_ret
   exact ⟨_,rfl,rfl,hs.out.1,hs.out.2.1,hs.out.2.2⟩
variable {mc:Mc}
theorem turns_det:∀ {m m':Nat} {p p1 p2:PSt},Turns mc m p p1→Turns mc m' p p2→p1=p2
 |_,_,_,_,_,.stop h,.stop h'=>rfl
 |_,_,_,_,_,.stop h,.step h' _=>by rw [h] at h';cases h'
 |_,_,_,_,_,.step h _,.stop h'=>by rw [h] at h';cases h'
 |_,_,_,_,_,.step h t,.step h' t'=>by
  rw [h] at h'
  cases h'
  exact turns_det t t'
def pt (mc:Mc) (p:PSt):PSt:=(pturn mc p).getD p
def pts (mc:Mc):Nat→PSt→PSt
 |0,p=>p
 |n+1,p=>pts mc n (pt mc p)
def runs (mc:Mc):Nat→PSt→Bool
 |0,p=>(pturn mc p).isNone
 |n+1,p=>(pturn mc p).isSome&&runs mc n (pt mc p)
theorem turns_of:∀ (n:Nat) (p:PSt),runs mc n p=true→Turns mc n p (pts mc n p)
 |0,p,h=>by
  refine .stop ?_
  cases hp:pturn mc p with
  |none=>rfl
  |some x=>unfold runs at h;rw [hp] at h;cases h
 |n+1,p,h=>by
  unfold runs at h
  rw [Bool.and_eq_true] at h
  refine .step ?_ (turns_of n (pt mc p) h.2)
  unfold pt
  cases hp:pturn mc p with
  |none=>rw [hp] at h;cases h.1
  |some x=>rfl
end Go.Proofs.YtfjjoohflcchnaaDoor.Gen
namespace Go.Proofs.YtfjjoohflcchnaaDoor.Gen
open Go Go.Lift Go.Conc Go.RowKit
open Go.ConcN (upd upd_same upd_ne)
def clW (j:Nat):List Cl:=[⟨2,0,7,0⟩,⟨1,0,8,0⟩]
def lnW (j:Nat):Nat:=2
def an0 (j:Nat):List (Int×Int):=List.replicate (lnW j) (0,0)
def awST (wb bk base:Nat) (sc cv:Value) (k:Nat):TS:=nv { cellsS (newS wb bk base sc []) cv k with ran:=true }
def awF (wb bk base:Nat) (sc cv:Value) (tv0:Value) (tb0 gc0:Nat):TS×Ph:=flow 0 (mcO 1) (clW 0) 0 false (an0 0) (hiredS (awST wb bk base sc cv 2) tv0 tb0 gc0)
def awPT (wb bk base:Nat) (sc cv:Value) (tv0:Value) (tb0 gc0:Nat) (cb0 cb1:Nat) (l0:Nat→Ph):PSt :=
 ⟨(awF wb bk base sc cv tv0 tb0 gc0).1,[(cb0,0),(cb1,0)],upd l0 0 (awF wb bk base sc cv tv0 tb0 gc0).2⟩
section
variable (wb bk base:Nat) (sc cv:Value) (tv0:Value) (tb0 gc0:Nat) (cb0 cb1:Nat) (l0:Nat→Ph)
set_option maxRecDepth 100000
theorem awt_runs:runs (mcO 1) 6 (awPT wb bk base sc cv tv0 tb0 gc0 cb0 cb1 l0)=true:=by kernel_rfl
theorem awt_n:(pts (mcO 1) 6 (awPT wb bk base sc cv tv0 tb0 gc0 cb0 cb1 l0)).S.n=10:=by kernel_rfl
theorem awt_ans:((pts (mcO 1) 6 (awPT wb bk base sc cv tv0 tb0 gc0 cb0 cb1 l0)).l 0).ans=[(70,7),(70,7)]:=by kernel_rfl
end
end Go.Proofs.YtfjjoohflcchnaaDoor.Gen
namespace Go.Proofs.YtfjjoohflcchnaaDoor.Gen
open Go Go.Lift Go.Conc Go.RowKit
noncomputable def B7:Code:=Tryd.f16.body.getD .skip
noncomputable def b70:Code:=seq1 B7
noncomputable def b71:Code:=seq1 (seq2 B7)
noncomputable def r72:Code:=seq1 (seq2 (seq2 B7))
noncomputable def T7:Code:=seq2 (seq2 (seq2 B7))
theorem eB7:B7=.seq b70 (.seq b71 (.seq r72 T7)):=by kernel_rfl
theorem fine70:fineCode Tryd.prog true LV b70:=fineCode_askS callV extT (by kernel_rfl)
theorem fine71:fineCode Tryd.prog true LV b71:=fineCode_askS callV extT (by kernel_rfl)
theorem fineT7:fineCode Tryd.prog true LV T7:=fineCode_askS callV extT (by kernel_rfl)
theorem b70_wp {v:World} :
 b70.wp Tryd.prog (fun e a w'=>e=.normal∧a={ tmps:=#[.bool false]++Array.replicate 25 undef,defers:=[] }∧w'.heap=v.heap∧w'.os=v.os∧w'.output=v.output)
  { tmps:=Array.replicate 26 undef,defers:=[] } v:=by
 show Code.wp Tryd.prog (seq1 (Tryd.f16.body.getD .skip)) _ _ _
 unfold Tryd.f16 seq1
 simp only [Option.getD_some,Array.replicate_succ,Array.replicate_zero,List.push_toArray,List.append_toArray,List.nil_append,List.cons_append]
 go_wp2_with fail
 try exact ⟨rfl,rfl,rfl⟩
theorem b71_wp {v:World} :
 b71.wp Tryd.prog (fun e a w'=>e=.normal∧∃ wb bk sc,a={ tmps:=#[.bool false,Pt wb 0,undef,undef,undef,Pt wb 0]++Array.replicate 20 undef,defers:=[] }∧IsNew v [] wb bk sc w')
  { tmps:=#[.bool false]++Array.replicate 25 undef,defers:=[] } v:=by
 have H7:Hid (Calls Tryd.prog 17 #[.slice none 0 0] v _):=⟨(body70 (v:=v) none 0).calls Tryd.func17 rfl⟩
 show Code.wp Tryd.prog (seq1 (seq2 (Tryd.f16.body.getD .skip))) _ _ _
 unfold Tryd.f16 seq1 seq2
 simp only [Option.getD_some,Array.replicate_succ,Array.replicate_zero,List.push_toArray,List.append_toArray,List.nil_append,List.cons_append]
 go_wp2_with (first
  |(go_at_call 17;refine H7.out.mono ?_;rintro e w1 ⟨_,rfl,wb,bk,sc,rfl,hnew⟩))
 exact ⟨bk,sc,hnew⟩
structure Done7 (M:Nat) (A:Nat→Nat) (u:World):Prop where
 row:∀ k,k<1→u.cell? ⟨M,k,none⟩=some (.slice (some ⟨A k,0,none⟩) (lnW k) (lnW k))
 a0:u.heap[A 0]? = some (.cells #[I 70,I 7,I 70,I 7] 38)
theorem same7 {v:World} {M:Nat} {A:Nat→Nat} (h:Done7 M A v):Calls Tryd.prog 58 #[.slice (some ⟨M,0,none⟩) 1 1,.slice (some ⟨v.heap.size+2,0,none⟩) 1 1] (((v.alloc (.cells #[I 70,I 7] 38)).alloc (.cells #[I 70,I 7,I 70,I 7] 38)).alloc (.cells #[.slice (some ⟨(v.heap.size+1),0,none⟩) 2 2] 31)) (fun e w'=>e=.returned (.bool true)∧w'.heap=(((v.alloc (.cells #[I 70,I 7] 38)).alloc (.cells #[I 70,I 7,I 70,I 7] 38)).alloc (.cells #[.slice (some ⟨(v.heap.size+1),0,none⟩) 2 2] 31)).heap∧w'.os=v.os∧w'.output=v.output):=by
 have old:∀ b,b<v.heap.size→(((v.alloc (.cells #[I 70,I 7] 38)).alloc (.cells #[I 70,I 7,I 70,I 7] 38)).alloc (.cells #[.slice (some ⟨(v.heap.size+1),0,none⟩) 2 2] 31)).heap[b]? = v.heap[b]?:=fun b hb=>by
  show (((v.heap.push _).push _).push _)[b]? = _
  simp only [Array.getElem?_push,Array.size_push]
  repeat rw [if_neg (by omega)]
 have n0:(((v.alloc (.cells #[I 70,I 7] 38)).alloc (.cells #[I 70,I 7,I 70,I 7] 38)).alloc (.cells #[.slice (some ⟨(v.heap.size+1),0,none⟩) 2 2] 31)).heap[v.heap.size+1]? = some (.cells #[I 70,I 7,I 70,I 7] 38):=by
  show (((v.heap.push _).push _).push _)[v.heap.size+1]? = _
  simp only [Array.getElem?_push,Array.size_push]
  repeat first|rw [if_pos trivial]|rw [if_pos (by omega)]|rw [if_neg (by omega)]
 have n2:(((v.alloc (.cells #[I 70,I 7] 38)).alloc (.cells #[I 70,I 7,I 70,I 7] 38)).alloc (.cells #[.slice (some ⟨(v.heap.size+1),0,none⟩) 2 2] 31)).heap[v.heap.size+2]? = some (.cells #[.slice (some ⟨(v.heap.size+1),0,none⟩) 2 2] 31):=by
  show (((v.heap.push _).push _).push _)[v.heap.size+2]? = _
  simp only [Array.getElem?_push,Array.size_push]
  repeat first|rw [if_pos trivial]|rw [if_pos (by omega)]|rw [if_neg (by omega)]
 have hb:=body22 (v:=(((v.alloc (.cells #[I 70,I 7] 38)).alloc (.cells #[I 70,I 7,I 70,I 7] 38)).alloc (.cells #[.slice (some ⟨(v.heap.size+1),0,none⟩) 2 2] 31))) M (v.heap.size+2) 1 1 1 (A:=A) (B:=fun k=>v.heap.size+1+k) (ca:=lnW) (cb:=lnW) (ln:=lnW) (e:=fun _ _=>70) (x:=fun _ _=>7) ⟨fun k hk=>?_,fun k hk j hj=>?_⟩ ⟨fun k hk=>?_,fun k hk j hj=>?_⟩ (by decide) (fun k hk=>by unfold lnW;decide)
 ·refine (hb.calls Tryd.func58 rfl).mono ?_
  rintro e w' ⟨r,rfl,rfl,h1,h2,h3⟩
  exact ⟨rfl,h1,h2,h3⟩
 ·have:=h.row k hk
  rw [World.cell?_of_block (w:=v) (w':=(((v.alloc (.cells #[I 70,I 7] 38)).alloc (.cells #[I 70,I 7,I 70,I 7] 38)).alloc (.cells #[.slice (some ⟨(v.heap.size+1),0,none⟩) 2 2] 31))) (old M (World.block_lt_of_cell? _ _ this))]
  exact this
 ·obtain rfl:k=0:=by omega
  have h2:(((v.alloc (.cells #[I 70,I 7] 38)).alloc (.cells #[I 70,I 7,I 70,I 7] 38)).alloc (.cells #[.slice (some ⟨(v.heap.size+1),0,none⟩) 2 2] 31)).heap[A 0]? = some (.cells #[I 70,I 7,I 70,I 7] 38):=by rw [old _ (Array.getElem?_eq_some_iff.1 h.a0).1];exact h.a0
  have:j=0∨j=1:=by simp [lnW] at hj;omega
  rcases this with rfl|rfl<;>exact ⟨cell_of h2 rfl,cell_of h2 rfl⟩
 ·obtain rfl:k=0:=by omega
  exact cell_of n2 rfl
 ·obtain rfl:k=0:=by omega
  have:j=0∨j=1:=by simp [lnW] at hj;omega
  rcases this with rfl|rfl<;>exact ⟨cell_of n0 rfl,cell_of n0 rfl⟩
theorem T7_wp {v:World} {M:Nat} {A:Nat→Nat} (h:Done7 M A v) {a:Act} (hA:Fl 26 [(2,.slice (some ⟨M,0,none⟩) 1 1),(3,I 0)] a) :
 T7.wp Tryd.prog (fun e a w'=>e=.ret∧∃ x,(results Tryd.f16 a.tmps).run Tryd.prog w'=.ok x w'∧x=.bool true∧Grows v w') a v:=by
 have g3:Grows v (((v.alloc (.cells #[I 70,I 7] 38)).alloc (.cells #[I 70,I 7,I 70,I 7] 38)).alloc (.cells #[.slice (some ⟨(v.heap.size+1),0,none⟩) 2 2] 31)):=⟨by show _≤(((v.heap.push _).push _).push _).size;simp;omega,fun b hb=>by
  show (((v.heap.push _).push _).push _)[b]? = _
  simp only [Array.getElem?_push,Array.size_push]
  repeat rw [if_neg (by omega)],rfl,rfl⟩
 have H1:Hid (Calls Tryd.prog 58 #[.slice (some ⟨M,0,none⟩) 1 1,.slice (some ⟨v.heap.size+2,0,none⟩) 1 1] (((v.alloc (.cells #[I 70,I 7] 38)).alloc (.cells #[I 70,I 7,I 70,I 7] 38)).alloc (.cells #[.slice (some ⟨(v.heap.size+1),0,none⟩) 2 2] 31)) (fun e w1=>e=.returned (.bool true)∧Hid (Grows v w1))):=⟨(same7 h).mono (by
  rintro e w1 ⟨rfl,h1,h2,h3⟩
  exact ⟨rfl,⟨by rw [h1];exact g3.size,fun b hb=>by rw [h1];exact g3.old b hb,h2,h3⟩⟩)⟩
 clear h g3
 obtain ⟨hsz,hd,hpp⟩:=hA
 obtain ⟨u,rfl,hg⟩:=litN hsz hd
 have u2:=(hg 2).symm.trans (hpp (2,.slice (some ⟨M,0,none⟩) 1 1) (by simp))
 have u3:=(hg 3).symm.trans (hpp (3,I 0) (by simp))
 clear hg hpp hsz hd
 unfold T7 B7 Tryd.f16 seq2
 simp only [Option.getD_some,lits,Nat.reduceAdd,u2,u3]
 clear u2 u3
 go_wp2_with (first
  |(go_at_call 58;refine H1.out.mono ?_;rintro e w1 ⟨rfl,H2⟩))
 exact ⟨_,results_tmp (t:=0) rfl _ _ _,rfl,H2.out⟩
structure Set7 (v:World) (wb bk:Nat) (sc:Value) (c:Nat) (u:World):Prop where
 mem:Mem zn (newS wb bk v.heap.size sc []) [] u
 opn:Open u bk
 c0:u.heap[c]? = some (.cells #[I 2,I 0,I 7,I 0,I 1,I 0,I 8,I 0] 35)
 scr:u.heap[c+1]? = some (.cells #[.slice (some ⟨c,0,none⟩) 2 2] 33)
 own:∀ b,Own (newS wb bk v.heap.size sc []) [] b∨b=bk→v.heap.size≤b∧b<c
 old:Grows v u
theorem Set7.same {v:World} {wb bk:Nat} {sc:Value} {c:Nat} {u u':World} (h:Set7 v wb bk sc c u) (e:u'.heap=u.heap) (e1:u'.os=u.os) (e2:u'.output=u.output):Set7 v wb bk sc c u':=by
 have g:Grows u u':=⟨by rw [e];exact Nat.le_refl _,fun b _=>by rw [e],e1,e2⟩
 refine ⟨(h.mem.grows g).mem,?_,by rw [e];exact h.c0,by rw [e];exact h.scr,h.own,⟨by rw [e];exact h.old.size,fun b hb=>by rw [e];exact h.old.old b hb,e1.trans h.old.os,e2.trans h.old.output⟩⟩
 obtain ⟨c,m,hh⟩:=h.opn
 exact ⟨c,m,by rw [e];exact hh⟩
theorem oawake_in {Ch:Nat→Prop} {Stop:Goroutine→World→Prop} {main:Bool} {v w:World} (cs:List Frame) {bc:Frame} {ac:Act} {ops:Array Oper} {q:Nat} {rest:List Nat} {oc:Oper} {k:List Item} (hoc:ops[q]? = some oc)
 (hvw:Rel zn v w) (hn:NoRow Ch v)
 (hk:∀ v' w' (wb bk:Nat) (sc:Value) (c:Nat) (bd:Frame) (ad:Act) (od:Array Oper) (qd:Nat) (rd:List Nat) (oe:Oper) (kd:List Item),Rel zn v' w'→NoRow Ch v'→Set7 v wb bk sc c v'→od[qd]? = some oe →
   (∀ (Ch:Nat→Prop) (Stop:Goroutine→World→Prop) (M:Nat) (A:Nat→Nat) (v w:World),Rel zn v w→NoRow Ch v→Done7 M A v→(∀ v' w',Rel zn v' w'→NoRow Ch v'→Grows v v'→GoesI Tryd.prog main (DT (ScZ zn) Ch) Stop (G (bc.at (ac.put oc.dst (.bool true)) (.inRegion ops rest :: k)) cs) w')→GoesI Tryd.prog main (DT (ScZ zn) Ch) Stop (G (bd.at (ad.put oe.dst (.tuple #[.slice (some ⟨M,0,none⟩) 1 1,I 0])) (.inRegion od rd :: kd)) (bc.at ac (.inRegion ops (q :: rest) :: k) :: cs)) w) →
   GoesI Tryd.prog main (DT (ScZ zn) Ch) Stop (G ((base 18).at { tmps:=#[Pt wb 0,I 1,.slice (some ⟨c+1,0,none⟩) 1 1]++Array.replicate 37 undef,defers:=[] } [.code yB]) (bd.at ad (.inRegion od (qd :: rd) :: kd) :: bc.at ac (.inRegion ops (q :: rest) :: k) :: cs)) w') :
 GoesI Tryd.prog main (DT (ScZ zn) Ch) Stop (G ((base 16).at { tmps:=Array.replicate 26 undef,defers:=[] } [.code B7]) (bc.at ac (.inRegion ops (q :: rest) :: k) :: cs)) w:=by
 rw [eB7]
 refine goesI_seq (dt_idle _ _) ?_
 refine goesI_plain (z:=zn) (wr:=true) (L:=LV) (I:=NoRow Ch) hE fineV noRow_keeps (fun v v' w w' es hi hr ho he=>dt_of_z v v' w w' es hi hr ho he) hvw fine70 rfl (by simp [base]) hn
  (Q:=fun a w'=>a={ tmps:=#[.bool false]++Array.replicate 25 undef,defers:=[] }∧w'.heap=v.heap∧w'.os=v.os∧w'.output=v.output) (fun τ=>b70_wp (v:=onTape v τ 0)) ?_
 rintro a0 v0 w0 ⟨rfl,e0,o0,u0⟩ hr0 hn0 -
 refine goesI_seq (dt_idle _ _) ?_
 refine goesI_plain (z:=zn) (wr:=true) (L:=LV) (I:=NoRow Ch) hE fineV noRow_keeps (fun v v' w w' es hi hr ho he=>dt_of_z v v' w w' es hi hr ho he) hr0 fine71 rfl (by simp [base]) hn0
  (Q:=fun a w'=>∃ wb bk sc,a={ tmps:=#[.bool false,Pt wb 0,undef,undef,undef,Pt wb 0]++Array.replicate 20 undef,defers:=[] }∧IsNew v0 [] wb bk sc w') (fun τ=>?_) ?_
 ·refine wp_mono (b71_wp (v:=onTape v0 τ 0)) (fun e a w' hq=>⟨hq.1,?_⟩)
  obtain ⟨_,wb,bk,sc,h1,h2⟩:=hq
  exact ⟨wb,bk,sc,h1,⟨h2.mem,h2.opn,h2.new,⟨h2.old.size,h2.old.old,h2.old.os,h2.old.output⟩⟩⟩
 rintro a1 v1 w1 ⟨wb,bk,sc,rfl,hnew⟩ hr1 hn1 -
 have hset:Set7 v wb bk sc v1.heap.size ((v1.alloc (.cells #[I 2,I 0,I 7,I 0,I 1,I 0,I 8,I 0] 35)).alloc (.cells #[.slice (some ⟨v1.heap.size,0,none⟩) 2 2] 33)):=by
  have g1:Grows v1 ((v1.alloc (.cells #[I 2,I 0,I 7,I 0,I 1,I 0,I 8,I 0] 35)).alloc (.cells #[.slice (some ⟨v1.heap.size,0,none⟩) 2 2] 33)):=⟨by show _≤((v1.heap.push _).push _).size;simp;omega,fun b hb=>by
   show ((v1.heap.push _).push _)[b]? = _
   simp only [Array.getElem?_push,Array.size_push]
   repeat rw [if_neg (by omega)],rfl,rfl⟩
  have hm1:=hnew.mem
  have hnn:=hnew.new
  rw [e0] at hm1 hnn
  refine ⟨(hm1.grows g1).mem,?_,?_,?_,fun b hb=>⟨hnn b hb,?_⟩,⟨?_,fun b hb=>?_,?_,?_⟩⟩
  ·obtain ⟨c,m,h⟩:=hnew.opn
   exact ⟨c,m,by rw [g1.old _ (Array.getElem?_eq_some_iff.1 h).1];exact h⟩
  ·show ((v1.heap.push _).push _)[v1.heap.size]? = _
   simp only [Array.getElem?_push,Array.size_push]
   repeat first|rw [if_pos trivial]|rw [if_pos (by omega)]|rw [if_neg (by omega)]
  ·show ((v1.heap.push _).push _)[v1.heap.size+1]? = _
   simp only [Array.getElem?_push,Array.size_push]
   repeat first|rw [if_pos trivial]|rw [if_pos (by omega)]|rw [if_neg (by omega)]
  ·rcases hb with hb|rfl
   ·exact hm1.lt hb
   ·obtain ⟨c,m,h⟩:=hnew.opn
    exact (Array.getElem?_eq_some_iff.1 h).1
  ·have:=hnew.old.size;have:=g1.size;rw [e0] at *;omega
  ·rw [g1.old b (by have:=hnew.old.size;rw [e0] at this;omega),hnew.old.old b (by rw [e0];exact hb),e0]
  ·exact hnew.old.os.trans o0
  ·exact hnew.old.output.trans u0
 clear hnew hr0 hn0 e0 o0 u0 hvw hn
 unfold r72 B7 Tryd.f16 seq1 seq2
 simp only [Option.getD_some,Array.replicate_succ,Array.replicate_zero,List.push_toArray,List.append_toArray,List.nil_append,List.cons_append]
 refine goesI_seq (dt_idle _ _) ?_
 refine goesI_region (dt_idle _ _) ?_
 simp only [List.size_toArray,List.length_cons,List.length_nil,Nat.reduceAdd,Nat.zero_add,List.range,List.range.loop]
 iterate 1
  (refine goesI_oper rfl rfl (by decide) (fun d K hK=>?_)
   go_simp
   refine hK _ _ ⟨dt_reads (fun e he=>?_),GoesI.at ?_ d⟩
   ·have hm:=mem_listed he
    simp [go_sem, *] at hm
    try exact ⟨_,_,hm⟩
   clear hK K)
 refine goesI_opZ (L:=LV) rfl rfl (by decide) (fineOp_ask callV extT (by kernel_rfl)) hr1 hn1 (v':=v1) (x:=.agg #[I 2,I 0,I 7,I 0]) (by go_simp) rfl (fun w2 hr2 hn2=>?_)
 refine goesI_opZ (L:=LV) rfl rfl (by decide) (fineOp_ask callV extT (by kernel_rfl)) hr2 hn2 (v':=v1) (x:=.agg #[I 1,I 0,I 8,I 0]) (by go_simp) rfl (fun w2b hr2b hn2b=>?_)
 refine goesI_opZ (L:=LV) rfl rfl (by decide) (fineOp_ask callV extT (by kernel_rfl)) hr2b hn2b (v':=(v1.alloc (.cells #[I 2,I 0,I 7,I 0,I 1,I 0,I 8,I 0] 35))) (x:=.slice (some ⟨v1.heap.size,0,none⟩) 2 2) (by go_simp) rfl (fun w3 hr3 hn3=>?_)
 refine goesI_opZ (L:=LV) rfl rfl (by decide) (fineOp_ask callV extT (by kernel_rfl)) hr3 hn3 (v':=((v1.alloc (.cells #[I 2,I 0,I 7,I 0,I 1,I 0,I 8,I 0] 35)).alloc (.cells #[.slice (some ⟨v1.heap.size,0,none⟩) 2 2] 33))) (x:=.slice (some ⟨v1.heap.size+1,0,none⟩) 1 1) (by go_simp) rfl (fun w6 hr6 hn6=>?_)
 refine goesI_into (f:=18) (fn:=Tryd.f18) (args:=#[Pt wb 0,I 1,.slice (some ⟨v1.heap.size+1,0,none⟩) 1 1]) (dt_idle _ _) rfl rfl (by decide) rfl (by simp [Act.eval,Act.put]) Tryd.func18 (by decide) rfl ?_
 refine hk _ w6 wb bk sc v1.heap.size _ _ _ _ _ _ _ hr6 hn6 hset rfl (fun Ch Stop M A vv ww hvw hn hD hg=>?_)
 clear hk hset hr1 hr2 hr2b hr3 hr6 hn1 hn2 hn2b hn3 hn6
 iterate 5
  (refine goesI_oper rfl rfl (by decide) (fun d K hK=>?_)
   go_simp
   refine hK _ _ ⟨dt_reads (fun e he=>?_),GoesI.at ?_ d⟩
   ·have hm:=mem_listed he
    simp [go_sem, *] at hm
    try exact ⟨_,_,hm⟩
   clear hK K)
 refine goesI_regionEnd (dt_idle _ _) ?_
 refine goesI_outZ (c:=T7) (f:=16) (fn:=Tryd.f16) (L:=LV) hE fineV hvw hn Tryd.func16 fineT7 rfl hoc (R:=fun r w'=>r=.bool true∧Grows vv w') (fun τ=>?_) (fun r v' w' hR hr' hn'=>?_)
 ·have hD':Done7 M A (onTape vv τ 0):=⟨hD.row,hD.a0⟩
  refine wp_mono (T7_wp (v:=onTape vv τ 0) hD' ⟨rfl,rfl,by
   intro p hp
   simp only [List.mem_cons,List.not_mem_nil,or_false] at hp
   rcases hp with rfl|rfl<;>rfl⟩) (fun e a w' hq=>⟨hq.1,?_⟩)
  obtain ⟨_,x,h1,h2,h3⟩:=hq
  exact ⟨x,h1,h2,⟨h3.size,h3.old,h3.os,h3.output⟩⟩
 ·obtain ⟨rfl,hgr⟩:=hR
  exact hg v' w' hr' hn' hgr
end Go.Proofs.YtfjjoohflcchnaaDoor.Gen
namespace Go.Proofs.YtfjjoohflcchnaaDoor.Gen
open Go Go.Lift Go.Conc Go.RowKit
open Go.ConcN (upd upd_same upd_ne)
structure Gl (w:World):Prop where
 a:∃ c t f,w.heap[1]? = some (.cells c t f)∧c[0]? = some (I 0)∧c[1]? = some (I 2)
 b:∃ c t f,w.heap[2]? = some (.cells c t f)∧c[0]? = some (I 10)∧c[1]? = some (I 20)
 c:∃ c t f,w.heap[3]? = some (.cells c t f)∧c[0]? = some (I 2)∧c[1]? = some (I 8)
theorem Gl.grows {w w':World} (h:Gl w) (g:Grows w w'):Gl w':=by
 obtain ⟨c,t,f,h1,h2⟩:=h.a
 obtain ⟨c',t',f',k1,k2⟩:=h.b
 obtain ⟨c'',t'',f'',l1,l2⟩:=h.c
 exact ⟨⟨c,t,f,by rw [g.old 1 (Array.getElem?_eq_some_iff.1 h1).1];exact h1,h2⟩,⟨c',t',f',by rw [g.old 2 (Array.getElem?_eq_some_iff.1 k1).1];exact k1,k2⟩,⟨c'',t'',f'',by rw [g.old 3 (Array.getElem?_eq_some_iff.1 l1).1];exact l1,l2⟩⟩
theorem Gl.flds {w:World} (h:Gl w):R1.Flds w:=by
 obtain ⟨c,t,f,h1,h2,h3⟩:=h.a
 obtain ⟨c',t',f',k1,k2,k3⟩:=h.b
 obtain ⟨c'',t'',f'',l1,l2,l3⟩:=h.c
 constructor<;>first|exact cell_of h1 h2|exact cell_of h1 h3|exact cell_of k1 k2|exact cell_of k1 k3|exact cell_of l1 l2|exact cell_of l1 l3
def glP (w:World):Nat→Option Obj:=fun b=>if 0<b∧b<4 then w.heap[b]? else none
theorem glP_in {w:World} {b:Nat} (h:glP w b≠none):0<b∧b<4:=by
 unfold glP at h
 split at h
 ·assumption
 ·exact absurd rfl h
theorem glP_has (w:World):Has (glP w) w:=fun b o hb=>by
 unfold glP at hb
 split at hb
 ·exact hb
 ·cases hb
theorem glP_fl {w:World} (h:Gl w) (u:World) (hu:Has (glP w) u):R1.Flds u:=by
 have e:∀ b o,0<b∧b<4→w.heap[b]? = some o→u.heap[b]? = some o:=fun b o hb ho=>hu b o (by unfold glP;rw [if_pos hb];exact ho)
 obtain ⟨c,t,f,h1,h2⟩:=h.a
 obtain ⟨c',t',f',k1,k2⟩:=h.b
 obtain ⟨c'',t'',f'',l1,l2⟩:=h.c
 exact Gl.flds ⟨⟨c,t,f,e _ _ (by decide) h1,h2⟩,⟨c',t',f',e _ _ (by decide) k1,k2⟩,⟨c'',t'',f'',e _ _ (by decide) l1,l2⟩⟩
theorem glP_row {w:World} (h:Gl w):∀ b o,glP w b=some o→∃ c e f,o=.cells c e f:=fun b o hb=>by
 have hw:=glP_has w b o hb
 have h3:=glP_in (w:=w) (b:=b) (by rw [hb];simp)
 have:b=1∨b=2∨b=3:=by omega
 rcases this with rfl|rfl|rfl
 ·obtain ⟨c,t,f,h1,_⟩:=h.a
  rw [h1] at hw;cases hw;exact ⟨_,_,_,rfl⟩
 ·obtain ⟨c,t,f,h1,_⟩:=h.b
  rw [h1] at hw;cases hw;exact ⟨_,_,_,rfl⟩
 ·obtain ⟨c,t,f,h1,_⟩:=h.c
  rw [h1] at hw;cases hw;exact ⟨_,_,_,rfl⟩
theorem Gl.lt {w:World} (h:Gl w):3<w.heap.size:=by
 obtain ⟨c,t,f,h1,_⟩:=h.c
 exact (Array.getElem?_eq_some_iff.1 h1).1
abbrev pcW (c j:Nat):Option Addr:=some ⟨c+j,0,none⟩
section
variable {wb bk base:Nat} {sc cv:Value} {cb0 cb1:Nat} {l0:Nat→Ph}
theorem hires_on {caps:Array Value} {pk:Nat→Option Obj} {N c:Nat} {S1:TS} {l1:Nat→Ph} (h:Hires (mcO 1) 0 (scrs (mcO 1) 61 caps pk N 1 [(cb0,0),(cb1,0)] (pcW c) lnW lnW (fun j=>c+j) clW) (awST wb bk base sc cv 2) l0 S1 l1) :
 ∃ tv0 tb0 gc0,(⟨S1,[(cb0,0),(cb1,0)],l1⟩:PSt)=awPT wb bk base sc cv tv0 tb0 gc0 cb0 cb1 l0:=by
 have e:(scrs (mcO 1) 61 caps pk N 1 [(cb0,0),(cb1,0)] (pcW c) lnW lnW (fun j=>c+j) clW)=[scrOf (mcO 1) 61 caps pk N 1 [cb0,cb1] (pcW c) lnW lnW (fun j=>c+j) clW 0]:=rfl
 rw [e] at h
 cases h with
 |cons tv0 tb0 gc0 h =>
  cases h
  exact ⟨tv0,tb0,gc0,rfl⟩
end
theorem asked7 {v u:World} {wb bk:Nat} {sc:Value} {c:Nat} (s:Set7 v wb bk sc c u):Asked u (newS wb bk v.heap.size sc []) 1 (c+1) 0 (pcW c) lnW lnW (fun j=>c+j) clW:=by
 have one:∀ {j},j<1→j=0:=fun h=>by omega
 refine ⟨fun j hj=>by obtain rfl:=one hj;exact ⟨rfl,by decide⟩,fun k hk=>?_,fun h=>by have:=(s.own _ (.inl h)).2;omega,fun j hj _=>⟨rfl,fun h=>by have:=(s.own _ (.inl h)).2;omega⟩,fun j hj k x hx=>?_,fun j hj x hx=>?_⟩
 ·obtain rfl:=one hk;exact cell_of s.scr rfl
 ·obtain rfl:=one hj
  match k,hx with
  |0,hx=>cases hx;exact ⟨cell_of s.c0 rfl,cell_of s.c0 rfl,cell_of s.c0 rfl,cell_of s.c0 rfl⟩
  |1,hx=>cases hx;exact ⟨cell_of s.c0 rfl,cell_of s.c0 rfl,cell_of s.c0 rfl,cell_of s.c0 rfl⟩
  |k+2,hx=>simp [clW] at hx
 ·obtain rfl:=one hj
  simp [clW] at hx
  rcases hx with rfl|rfl<;>decide
theorem K_two {K:List (Nat×Int)} (hK:K.map (·.2)=List.replicate 2 0):∃ cb0 cb1,K=[(cb0,0),(cb1,0)]:=by
 match K,hK with
 | [(a,x),(b,y)],hK =>
  simp [List.replicate] at hK
  obtain ⟨rfl,rfl⟩:=hK
  exact ⟨a,b,rfl⟩
 | [],hK=>simp at hK
 | [x],hK=>simp [List.replicate] at hK
 |x :: y :: z :: l,hK=>simp [List.replicate] at hK
theorem oawake_all {cs:List Frame} {bc:Frame} {ac:Act} {ops:Array Oper} {q0:Nat} {rest:List Nat} {oc:Oper} {k0:List Item} (hoc:ops[q0]? = some oc) {w:World} {T:Trace} {gs:Array Goroutine} {q:Nat→Nat} (sl:Option (Nat×Nat)) (A:Alone gs w T q) (hGl:Gl w)
 (hg:gs[0]? = some (G ((base 16).at { tmps:=Array.replicate 26 undef,defers:=[] } [.code B7]) (bc.at ac (.inRegion ops (q0 :: rest) :: k0) :: cs))) :
 ∃ (N':Nat) (gs':Array Goroutine) (w':World) (sl':Option (Nat×Nat)) (T':Trace) (q':Nat→Nat),
   runNT Tryd.prog N' (crowd gs w sl) T=(.next (crowd gs' w' sl'),T')∧gs'[0]? = some (G (bc.at (ac.put oc.dst (.bool true)) (.inRegion ops rest :: k0)) cs)∧Alone gs' w' T' q'∧Grows w w':=by
 have hG:GoesI Tryd.prog true (DT (ScZ zn) (fun _=>False)) (fun g w'=>∃ (wb bk:Nat) (sc:Value) (c:Nat) (bd:Frame) (ad:Act) (od:Array Oper) (qd:Nat) (rd:List Nat) (oe:Oper) (kd:List Item),Set7 w wb bk sc c w'∧od[qd]? = some oe ∧
  (∀ (Ch:Nat→Prop) (Stop:Goroutine→World→Prop) (M:Nat) (A:Nat→Nat) (v w:World),Rel zn v w→NoRow Ch v→Done7 M A v→(∀ v' w',Rel zn v' w'→NoRow Ch v'→Grows v v'→GoesI Tryd.prog true (DT (ScZ zn) Ch) Stop (G (bc.at (ac.put oc.dst (.bool true)) (.inRegion ops rest :: k0)) cs) w')→GoesI Tryd.prog true (DT (ScZ zn) Ch) Stop (G (bd.at (ad.put oe.dst (.tuple #[.slice (some ⟨M,0,none⟩) 1 1,I 0])) (.inRegion od rd :: kd)) (bc.at ac (.inRegion ops (q0 :: rest) :: k0) :: cs)) w) ∧
  g=G ((base 18).at { tmps:=#[Pt wb 0,I 1,.slice (some ⟨c+1,0,none⟩) 1 1]++Array.replicate 37 undef,defers:=[] } [.code yB]) (bd.at ad (.inRegion od (qd :: rd) :: kd) :: bc.at ac (.inRegion ops (q0 :: rest) :: k0) :: cs)) (G ((base 16).at { tmps:=Array.replicate 26 undef,defers:=[] } [.code B7]) (bc.at ac (.inRegion ops (q0 :: rest) :: k0) :: cs)) w :=
  oawake_in cs hoc (Rel.refl w) (fun c hc=>hc.elim) (fun v' w' wb bk sc c bd ad od qd rd oe kd hr hn hset ho hback=>GoesI.stop fun d=>⟨wb,bk,sc,c,bd,ad,od,qd,rd,oe,kd,hset.same hr.eq hr.os hr.output,ho,hback,rfl⟩)
 obtain ⟨N1,gs1,a1,w1,sl1,T1,q1,r1,z1,h1,⟨wb,bk,sc,c,bd,ad,od,qd,rd,oe,kd,s,hoe,hback,rfl⟩,A1⟩:=alone_goes A hg sl hG
 have l0:Nat→Ph:=fun _=>.done []
 have hGl1:=hGl.grows s.old
 have h7:=hGl.lt
 have hpf:∀ b,glP w1 b≠none→¬ Own (newS wb bk w.heap.size sc []) [] b∧b≠(newS wb bk w.heap.size sc []).bk:=fun b hb=>by
  have hb':=glP_in hb
  exact ⟨fun h=>by have:=(s.own b (.inl h)).1;omega,fun h=>by have:=(s.own b (.inr h)).1;omega⟩
 obtain ⟨N2,gs2,w2,sl2,T2,q2,caps,pk,N,cv,K,S',S1,l1,m,p',r2,z2,h2,A2,hK,hnv,hH,hT,O⟩:=oplay_all (S:=newS wb bk w.heap.size sc []) (n:=1) (sb:=c+1) (so:=0) (cap:=1) (pc:=pcW c) (ln:=lnW) (cp:=lnW) (rb:=fun j=>c+j) (cl:=clW) 1 (by decide) (by decide) (pk0:=glP w1) (glP_fl hGl1) hoe sl1 6 A1 h1 s.mem rfl rfl rfl s.opn (glP_has w1) hpf (glP_row hGl1) (asked7 s) (by decide) (fun caps pk N K=>by show 0+2*(2+0)≤1000000;decide) (by show 0≤4611686018427387904;decide) (by show ∀ x∈([]:List Int),_;simp) l0 (fun caps pk N cv K hK S1 l1 hH=>by
  obtain ⟨cb0,cb1,rfl⟩:=K_two hK
  obtain ⟨tv0,tb0,gc0,e⟩:=hires_on (wb:=wb) (bk:=bk) (base:=w.heap.size) (sc:=sc) (cv:=cv) hH
  exact ⟨6,_,Nat.le_refl _,by rw [e];exact turns_of 6 _ (awt_runs wb bk _ sc cv tv0 tb0 gc0 cb0 cb1 l0),by rw [awt_n];decide⟩)
 obtain ⟨cb0,cb1,rfl⟩:=K_two hK
 obtain ⟨tv0,tb0,gc0,e⟩:=hires_on (wb:=wb) (bk:=bk) (base:=w.heap.size) (sc:=sc) (cv:=cv) hH
 have hT':Turns (mcO 1) m (⟨S1,[(cb0,0),(cb1,0)],l1⟩:PSt) p':=hT
 rw [e] at hT'
 have hp:=turns_det hT' (turns_of 6 _ (awt_runs wb bk w.heap.size sc cv tv0 tb0 gc0 cb0 cb1 l0))
 have hans:=awt_ans wb bk w.heap.size sc cv tv0 tb0 gc0 cb0 cb1 l0
 rw [←hp] at hans
 have a0:=(O.ans 0 (by decide)).2.1 (by decide)
 rw [hans] at a0
 have hD:Done7 (N+1) (fun k=>N+4+3*k+2) w2:=⟨fun k hk=>O.rows k hk,a0⟩
 obtain ⟨N3,gs3,a3,w3,sl3,T3,q3,r3,z3,h3,⟨rfl,hg3⟩,A3⟩:=alone_goes A2 h2 sl2 (hback (fun _=>False) (fun g w'=>g=G (bc.at (ac.put oc.dst (.bool true)) (.inRegion ops rest :: k0)) cs∧Grows w2 w') (N+1) _ w2 w2 (Rel.refl w2) (fun c hc=>hc.elim) hD (fun v' w' hr hn hgr=>GoesI.stop fun d=>⟨rfl,hgr.toAt hr d⟩))
 refine ⟨N1+N2+N3,gs3,w3,sl3,T3,q3,runNT_then (runNT_then r1 r2) r3,h3,A3,⟨by have:=s.old.size;have:=O.size;have:=hg3.size;omega,fun b hb=>?_,hg3.os.trans (O.os.trans s.old.os),hg3.output.trans (O.out.trans s.old.output)⟩⟩
 have hs1:=s.old.size
 have hno:¬ (Own (newS wb bk w.heap.size sc []) [] b∨b=bk):=fun h=>by have:=(s.own b h).1;omega
 have h5:=O.old b (by omega) (fun h=>hno (.inl h)) (fun h=>hno (.inr h))
 rw [hg3.old b (by have:=O.size;omega),h5.1,s.old.old b hb]
end Go.Proofs.YtfjjoohflcchnaaDoor.Gen
namespace Go.Proofs.YtfjjoohflcchnaaDoor.Gen
open Go Go.Lift Go.Conc Go.RowKit
theorem do12 {Ch:Nat→Prop} {Stop:Goroutine→World→Prop} {main:Bool} {v w:World} {ob tb wk i b o n cap:Nat} {kd y:Int} (hi:i<n) (c0:v.cell? ⟨b,o+i*2,none⟩=some (I kd)) (c1:v.cell? ⟨b,o+i*2+1,none⟩=some (I y)) {a:Act} (hA:Fl 41 [(0,.slice (some ⟨b,o,none⟩) n cap),(4,Pt ob 0),(5,Pt tb 0),(6,Pt wk 0),(7,I (i:Nat))] a) (k:List Item) (cs:List Frame) (hvw:Rel zn v w) (hn:NoRow Ch v)
 (hk:∀ w1 (bd:Frame) (ad:Act) (od:Array Oper) (qd:Nat) (rd:List Nat) (oe:Oper) (kk:List Item),Rel zn v w1→od[qd]? = some oe →
   (∀ v2 w2 e x,Rel zn v2 w2→NoRow Ch v2→(∀ a' v3 w3,Fl 41 [(0,.slice (some ⟨b,o,none⟩) n cap),(4,Pt ob 0),(5,Pt tb 0),(6,Pt wk 0),(7,I (i:Nat)),(8,Pt v2.heap.size 0)] a'→Rel zn v3 w3→NoRow Ch v3→Grows v2 v3→v3.heap[v2.heap.size]? = some (.cells #[I e,I x] 38 (0,0))→GoesI Tryd.prog main (DT (ScZ zn) Ch) Stop (G ((base 5).at a' k) cs) w3)→GoesI Tryd.prog main (DT (ScZ zn) Ch) Stop (G (bd.at (ad.put oe.dst (.agg #[I e,I x])) (.inRegion od rd :: kk)) cs) w2)→∀ code,Tryd.f28.body=some code →
   GoesI Tryd.prog main (DT (ScZ zn) Ch) Stop (G ((base 28).at { tmps:=#[Pt ob 0,Pt tb 0,.agg #[I kd,I y]]++Array.replicate 11 undef,defers:=[] } [.code code]) (bd.at ad (.inRegion od (qd :: rd) :: kk) :: cs)) w1) :
 GoesI Tryd.prog main (DT (ScZ zn) Ch) Stop (G ((base 5).at a (.code q5_12 :: k)) cs) w:=by
 have d0:w.cell? ⟨b,o+i*2,none⟩=some (I kd):=by rw [hvw.cell?];exact c0
 have d1:w.cell? ⟨b,o+i*2+1,none⟩=some (I y):=by rw [hvw.cell?];exact c1
 have hi':(i:Int)<(n:Int):=by omega
 have hi2:¬ n≤i:=by omega
 clear c0 c1
 obtain ⟨hsz,hd,hpp⟩:=hA
 obtain ⟨u,rfl,hg⟩:=litN hsz hd
 have u0:=(hg 0).symm.trans (hpp (0,.slice (some ⟨b,o,none⟩) n cap) (by simp))
 have u4:=(hg 4).symm.trans (hpp (4,Pt ob 0) (by simp))
 have u5:=(hg 5).symm.trans (hpp (5,Pt tb 0) (by simp))
 have u6:=(hg 6).symm.trans (hpp (6,Pt wk 0) (by simp))
 have u7:=(hg 7).symm.trans (hpp (7,I (i:Nat)) (by simp))
 clear hg hpp hsz hd
 unfold q5_12 C5 Tryd.f5 seq1 seq2 blockC loopC
 simp only [Option.getD_some,lits,Nat.reduceAdd,u0,u4,u5,u6,u7]
 clear u0 u4 u5 u6 u7
 refine goesI_region (dt_idle _ _) ?_
 simp only [List.size_toArray,List.length_cons,List.length_nil,Nat.reduceAdd,Nat.zero_add,List.range,List.range.loop]
 iterate 6
  (refine goesI_oper rfl rfl (by decide) (fun d K hK=>?_)
   go_simp
   refine hK _ _ ⟨dt_reads (fun e he=>?_),GoesI.at ?_ d⟩
   ·have hm:=mem_listed he
    simp [go_sem, *] at hm
    try exact ⟨_,_,hm⟩
    try (rcases hm with rfl|rfl<;>exact ⟨_,_,rfl⟩)
   clear hK K)
 refine goesI_into (f:=28) (fn:=Tryd.f28) (args:=#[Pt ob 0,Pt tb 0,.agg #[I kd,I y]]) (dt_idle _ _) rfl rfl (by decide) rfl (by simp [Act.eval]) Tryd.func28 (by decide) rfl ?_
 refine hk _ _ _ _ _ _ _ _ (hvw.re rfl rfl rfl rfl rfl rfl) rfl (fun v2 w2 e x r2 n2 hg=>?_) _ rfl
 clear hk d0 d1 hvw hn
 have hpb:(v2.alloc (.cells #[I 0,I 0] 38)).heap[v2.heap.size]? = some (.cells #[I 0,I 0] 38 (0,0)):=Array.getElem?_push_size
 have g1:Grows v2 (v2.alloc (.cells #[I 0,I 0] 38)):=⟨by simp,fun b hb=>by show (v2.heap.push _)[b]? = _;rw [Array.getElem?_push,if_neg (by omega)],rfl,rfl⟩
 have hg:=fun a' w3 h1 r3 n3=>hg a' (ansW (v2.alloc (.cells #[I 0,I 0] 38)) v2.heap.size e x) w3 h1 r3 n3 (grows_ans g1 (Nat.le_refl _)) (ans_row hpb e x)
 refine goesI_opZ (L:=LT) rfl rfl (by decide) (fineOp_ask callT extT (by kernel_rfl)) r2 n2 (v':=v2.alloc (.cells #[I 0,I 0] 38)) (x:=Pt v2.heap.size 0) (by go_simp) rfl (fun w4 r4 n4=>?_)
 have q0:(v2.alloc (.cells #[I 0,I 0] 38)).cell? ⟨v2.heap.size,0,none⟩=some (I 0):=cell_of hpb rfl
 have q1:(v2.alloc (.cells #[I 0,I 0] 38)).cell? ⟨v2.heap.size,1,none⟩=some (I 0):=cell_of hpb rfl
 have p0:(v2.alloc (.cells #[I 0,I 0] 38)).frozen? ⟨v2.heap.size,0,none⟩=false:=by unfold World.frozen?;rw [show (v2.alloc (.cells #[I 0,I 0] 38)).heap[v2.heap.size]? = _ from hpb];rfl
 have p1:(v2.alloc (.cells #[I 0,I 0] 38)).frozen? ⟨v2.heap.size,1,none⟩=false:=by unfold World.frozen?;rw [show (v2.alloc (.cells #[I 0,I 0] 38)).heap[v2.heap.size]? = _ from hpb];rfl
 clear hpb g1
 generalize v2.alloc (.cells #[I 0,I 0] 38)=V at q0 q1 p0 p1 r4 n4 hg
 generalize v2.heap.size=N at q0 q1 p0 p1 hg ⊢
 refine goesI_doZ (L:=LT) rfl rfl (by decide) (fineOp_ask callT extT (by kernel_rfl)) r4 n4 (v':=ansW V N e x) (by unfold ansW;go_simp) rfl (fun w9 r9 n9=>?_)
 refine goesI_regionEnd (dt_idle _ _) ?_
 exact hg _ w9 ⟨rfl,rfl,by
  intro p hp
  simp only [List.mem_cons,List.not_mem_nil,or_false] at hp
  rcases hp with rfl|rfl|rfl|rfl|rfl|rfl<;>rfl⟩ r9 n9
def InA (u:World) (b o:Nat) (acts:List (Int×Int)):Prop:=∀ k kd y,acts[k]? = some (kd,y)→u.cell? ⟨b,o+k*2,none⟩=some (I kd)∧u.cell? ⟨b,o+k*2+1,none⟩=some (I y)
theorem InA.grows {u u':World} {b o:Nat} {acts:List (Int×Int)} (h:InA u b o acts) (g:Grows u u'):InA u' b o acts:=fun k kd y hk=>⟨g.cell (h k kd y hk).1,g.cell (h k kd y hk).2⟩
theorem grows_eqv {v v':World} (e:v'.heap=v.heap) (o:v'.os=v.os) (u:v'.output=v.output):Grows v v':=⟨by rw [e];exact Nat.le_refl _,fun b _=>by rw [e],o,u⟩
structure M5 (u0:World) (ob kp cw cv tb wk:Nat) (x y e z:Int) (v:World):Prop where
 fo:FO ob kp cw cv tb 7 x y v
 hwk:v.heap[wk]? = some (.cells #[I e,I z] 38 (0,0))
 bl:Grows u0 v
 lo:u0.heap.size≤cw∧u0.heap.size≤cv∧u0.heap.size≤wk
 lw:3<wk
section
variable {u0:World} {ob kp cw cv tb wk:Nat} {x y e z x' y' E Z:Int} {v v' u:World}
theorem M5.grows (h:M5 u0 ob kp cw cv tb wk x y e z v) (g:Grows v v'):M5 u0 ob kp cw cv tb wk x y e z v':=⟨h.fo.grows g,grows_at g h.hwk,gtrans h.bl g,h.lo,h.lw⟩
theorem M5.ne (h:M5 u0 ob kp cw cv tb wk x y e z v):wk≠ob∧wk≠kp∧wk≠cw∧wk≠cv∧wk≠tb:=by
 have hw:=h.hwk
 refine ⟨fun q=>?_,fun q=>?_,fun q=>?_,fun q=>?_,fun q=>?_⟩
 ·rw [q,h.fo.hob] at hw;simp at hw
 ·rw [q,h.fo.hkp] at hw;simp at hw
 ·rw [q,h.fo.hcw] at hw;simp at hw
 ·rw [q,h.fo.hcv] at hw;simp at hw
 ·rw [q,h.fo.htb] at hw;simp at hw
theorem M5.gx (h:M5 u0 ob kp cw cv tb wk x y e z v) (g:Gx cw cv v v') (f:FO ob kp cw cv tb 7 x' y' v'):M5 u0 ob kp cw cv tb wk x' y' e z v':=by
 obtain ⟨_,_,n3,n4,_⟩:=h.ne
 obtain ⟨l1,l2,l3⟩:=h.lo
 exact ⟨f,g.at h.hwk n3 n4,⟨Nat.le_trans h.bl.size g.size,fun b hb=>by rw [g.old b (Nat.lt_of_lt_of_le hb h.bl.size) (by omega) (by omega)];exact h.bl.old b hb,g.os.trans h.bl.os,g.output.trans h.bl.output⟩,h.lo,h.lw⟩
theorem M5.put (h:M5 u0 ob kp cw cv tb wk x y e z v):M5 u0 ob kp cw cv tb wk x y E Z (ansW v wk E Z):=by
 obtain ⟨n1,n2,n3,n4,n5⟩:=h.ne
 obtain ⟨l1,l2,l3⟩:=h.lo
 have hl:=h.lw
 have hc:∀ b j X,b<4→v.cell? ⟨b,j,none⟩=some X→(ansW v wk E Z).cell? ⟨b,j,none⟩=some X:=fun b j X hb hX=>by
  rw [World.cell?_of_block (w:=v) (w':=ansW v wk E Z) (ans_far _ _ _ _ _ (by show b≠wk;omega))];exact hX
 have F:=h.fo
 exact ⟨⟨ans_at F.hob n1.symm,ans_at F.hkp n2.symm,ans_at F.hcw n3.symm,ans_at F.hcv n4.symm,ans_at F.htb n5.symm,⟨hc _ _ _ (by decide) F.fl.s0,hc _ _ _ (by decide) F.fl.s1,hc _ _ _ (by decide) F.fl.c0,hc _ _ _ (by decide) F.fl.c1,hc _ _ _ (by decide) F.fl.w0,hc _ _ _ (by decide) F.fl.w1⟩,F.ne,F.lo⟩,ans_row h.hwk E Z,grows_ans h.bl l3,h.lo,h.lw⟩
end
noncomputable def L5:Code:=.seq (.seq q5_8 (.cond (.tmp 22) .skip (.exit 0))) (.seq (.block 1 K5_1) q5_9)
noncomputable def P5:Code:=.seq q5_2 (.seq (.seq q5_3 (.cond (.tmp 16) (.seq q5_4 .ret) .skip)) (.seq q5_5 (.seq q5_6 (.seq (.seq q5_7 (.block 0 (.loop L5))) T5))))
noncomputable def LB5:Code:=.seq q5_0 (.seq q5_1 P5)
section
variable {Ch:Nat→Prop} {Stop:Goroutine→World→Prop} {main:Bool} {u0:World} {ob kp cw cv tb wk b o n cap:Nat} {p:Option Addr} {acts:List (Int×Int)}
theorem loop5 (hp:0<n→p=some ⟨b,o,none⟩) (hl:acts.length=n) (hn9:(n:Int)<9223372036854775808) (hI:InA u0 b o acts) (cs:List Frame) (kk:List Item)
 (hK:∀ a' v' w',Rel zn v' w'→NoRow Ch v'→Grows u0 v'→a'.tmps.size=41→a'.defers=[]→GoesI Tryd.prog main (DT (ScZ zn) Ch) Stop (G ((base 5).at a' kk) cs) w') :
 ∀ (m i:Nat) (a:Act) (v w:World) (x y e z:Int),i+m=n→Rel zn v w→NoRow Ch v→Fl 41 [(0,.slice p n cap),(4,Pt ob 0),(5,Pt tb 0),(6,Pt wk 0),(7,I (i:Nat))] a→M5 u0 ob kp cw cv tb wk x y e z v→((i=0∧R1.stI x=0)∨(0<i∧∃ kd c,e=(cmF kd c).1∧z=(cmF kd c).2∧x=R1.wordI 2 0 e∧y=z)) →
 GoesI Tryd.prog main (DT (ScZ zn) Ch) Stop (G ((base 5).at a (.code L5 :: .inLoop L5 :: .inBlock 0 :: kk)) cs) w:=by
 intro m
 induction m with
 |zero =>
  intro i a v w x y e z hi hvw hn hA hM hS
  unfold L5
  refine goesI_seq (dt_idle _ _) ?_
  refine goesI_seq (dt_idle _ _) ?_
  refine goesI_plain (z:=zn) (wr:=true) (L:=LV) (I:=NoRow Ch) hE fineV noRow_keeps (fun v v' w w' es hi hr ho he=>dt_of_z v v' w w' es hi hr ho he) hvw fine5_8 hA.2.1 (by simp [base]) hn (Q:=fun a w'=>Fl 41 [(22,.bool (decide (i<n))),(0,.slice p n cap),(4,Pt ob 0),(5,Pt tb 0),(6,Pt wk 0),(7,I (i:Nat))] a∧w'.heap=v.heap∧w'.os=v.os∧w'.output=v.output) (fun τ=>wp_mono (p5_8 (v:=onTape v τ 0) hA) fun e a w hq=>⟨hq.1,hq.2.1,by rw [hq.2.2];exact ⟨rfl,rfl,rfl⟩⟩) ?_
  rintro a1 v1 w1 ⟨hA1,e1,q1,z1⟩ hr1 hn1 -
  refine goesI_cond (dt_idle _ _) (t:=false) (by rw [hA1.at 22 (.bool (decide (i<n))) (by simp),decide_eq_false (by omega)]) ?_
  simp only [if_false,Bool.false_eq_true]
  refine goesI_exit (dt_idle _ _) (k':=kk) (by simp [exitTo]) ?_
  exact hK a1 v1 w1 hr1 hn1 (hM.grows (grows_eqv e1 q1 z1)).bl hA1.1 hA1.2.1
 |succ m ih =>
  intro i a v w x y e z hi hvw hn hA hM hS
  have hin:i<n:=by omega
  obtain rfl:=hp (by omega)
  have hL:L5=.seq (.seq q5_8 (.cond (.tmp 22) .skip (.exit 0))) (.seq (.block 1 K5_1) q5_9):=rfl
  rw [hL]
  refine goesI_seq (dt_idle _ _) ?_
  refine goesI_seq (dt_idle _ _) ?_
  refine goesI_plain (z:=zn) (wr:=true) (L:=LV) (I:=NoRow Ch) hE fineV noRow_keeps (fun v v' w w' es hi hr ho he=>dt_of_z v v' w w' es hi hr ho he) hvw fine5_8 hA.2.1 (by simp [base]) hn (Q:=fun a w'=>Fl 41 [(22,.bool (decide (i<n))),(0,.slice (some ⟨b,o,none⟩) n cap),(4,Pt ob 0),(5,Pt tb 0),(6,Pt wk 0),(7,I (i:Nat))] a∧w'.heap=v.heap∧w'.os=v.os∧w'.output=v.output) (fun τ=>wp_mono (p5_8 (v:=onTape v τ 0) hA) fun e a w hq=>⟨hq.1,hq.2.1,by rw [hq.2.2];exact ⟨rfl,rfl,rfl⟩⟩) ?_
  rintro a1 v1 w1 ⟨hA1,e1,q1,z1⟩ hr1 hn1 -
  refine goesI_cond (dt_idle _ _) (t:=true) (by rw [hA1.at 22 (.bool (decide (i<n))) (by simp),decide_eq_true hin]) ?_
  simp only [if_true]
  refine goesI_skip (dt_idle _ _) ?_
  refine goesI_seq (dt_idle _ _) ?_
  refine goesI_block (dt_idle _ _) ?_
  rw [←hL]
  have hA1':Fl 41 [(0,.slice (some ⟨b,o,none⟩) n cap),(4,Pt ob 0),(5,Pt tb 0),(6,Pt wk 0),(7,I (i:Nat))] a1:=hA1.sub (by simp)
  have hM1:=hM.grows (grows_eqv e1 q1 z1)
  obtain ⟨⟨kd,c⟩,hact⟩:∃ q,acts[i]? = some q:=⟨_,List.getElem?_eq_getElem (by omega)⟩
  have after:∀ a2 v2 w2 an x' y' e' z',Fl 41 [(0,.slice (some ⟨b,o,none⟩) n cap),(4,Pt ob 0),(5,Pt tb 0),(6,Pt wk 0),(7,I (i:Nat)),(8,Pt an 0)] a2→Rel zn v2 w2→NoRow Ch v2→M5 u0 ob kp cw cv tb wk x' y' e' z' v2→v2.heap[an]? = some (.cells #[I e',I z'] 38 (0,0))→(∃ kd c,e'=(cmF kd c).1∧z'=(cmF kd c).2∧x'=R1.wordI 2 0 e'∧y'=z')→GoesI Tryd.prog main (DT (ScZ zn) Ch) Stop (G ((base 5).at a2 (.code (.seq q5_13 (.cond (.tmp 40) (.seq q5_14 .ret) .skip)) :: .inBlock 1 :: .code q5_9 :: .inLoop L5 :: .inBlock 0 :: kk)) cs) w2:=fun a2 v2 w2 an x' y' e' z' hA2 r2 n2 hM2 han hcm=>by
   refine goesI_seq (dt_idle _ _) ?_
   refine goesI_plain (z:=zn) (wr:=true) (L:=LV) (I:=NoRow Ch) hE fineV noRow_keeps (fun v v' w w' es hi hr ho he=>dt_of_z v v' w w' es hi hr ho he) r2 fine5_13 hA2.2.1 (by simp [base]) n2 (Q:=fun a w'=>Fl 41 [(40,.bool false),(0,.slice (some ⟨b,o,none⟩) n cap),(4,Pt ob 0),(5,Pt tb 0),(6,Pt wk 0),(7,I (i:Nat))] a∧w'.heap=v2.heap∧w'.os=v2.os∧w'.output=v2.output) (fun τ=>wp_mono (p5_13 (v:=onTape v2 τ 0) (cell_of (v:=onTape v2 τ 0) han rfl) (cell_of (v:=onTape v2 τ 0) han rfl) (cell_of (v:=onTape v2 τ 0) hM2.hwk rfl) (cell_of (v:=onTape v2 τ 0) hM2.hwk rfl) hA2) fun e a w hq=>⟨hq.1,hq.2.1,by rw [hq.2.2];exact ⟨rfl,rfl,rfl⟩⟩) ?_
   rintro a3 v3 w3 ⟨hA3,e3,q3,z3⟩ hr3 hn3 -
   refine goesI_cond (dt_idle _ _) (t:=false) (hA3.at 40 _ (by simp)) ?_
   simp only [if_false,Bool.false_eq_true]
   refine goesI_skip (dt_idle _ _) ?_
   refine goesI_inBlock (dt_idle _ _) ?_
   have hA3':Fl 41 [(0,.slice (some ⟨b,o,none⟩) n cap),(4,Pt ob 0),(5,Pt tb 0),(6,Pt wk 0),(7,I (i:Nat))] a3:=hA3.sub (by simp)
   refine goesI_plain (z:=zn) (wr:=true) (L:=LV) (I:=NoRow Ch) hE fineV noRow_keeps (fun v v' w w' es hi hr ho he=>dt_of_z v v' w w' es hi hr ho he) hr3 fine5_9 hA3'.2.1 (by simp [base]) hn3 (Q:=fun a w'=>Fl 41 [(0,.slice (some ⟨b,o,none⟩) n cap),(4,Pt ob 0),(5,Pt tb 0),(6,Pt wk 0),(7,I ((i+1:Nat):Int))] a∧w'.heap=v3.heap∧w'.os=v3.os∧w'.output=v3.output) (fun τ=>wp_mono (p5_9 (v:=onTape v3 τ 0) (by omega) hA3') fun e a w hq=>⟨hq.1,hq.2.1,by rw [hq.2.2];exact ⟨rfl,rfl,rfl⟩⟩) ?_
   rintro a4 v4 w4 ⟨hA4,e4,q4,z4⟩ hr4 hn4 -
   refine goesI_inLoop (dt_idle _ _) ?_
   exact ih (i+1) a4 v4 w4 x' y' e' z' (by omega) hr4 hn4 hA4 ((hM2.grows (grows_eqv e3 q3 z3)).grows (grows_eqv e4 q4 z4)) (.inr ⟨by omega,hcm⟩)
  have hK1:K5_1=.seq (.seq q5_10 (.cond (.tmp 26) q5_11 .skip)) (.seq q5_12 (.seq q5_13 (.cond (.tmp 40) (.seq q5_14 .ret) .skip))):=rfl
  rw [hK1]
  refine goesI_seq (dt_idle _ _) ?_
  refine goesI_seq (dt_idle _ _) ?_
  refine goesI_plain (z:=zn) (wr:=true) (L:=LV) (I:=NoRow Ch) hE fineV noRow_keeps (fun v v' w w' es hi hr ho he=>dt_of_z v v' w w' es hi hr ho he) hr1 fine5_10 hA1'.2.1 (by simp [base]) hn1 (Q:=fun a w'=>Fl 41 [(26,.bool ((i:Int)==0)),(0,.slice (some ⟨b,o,none⟩) n cap),(4,Pt ob 0),(5,Pt tb 0),(6,Pt wk 0),(7,I (i:Nat))] a∧w'.heap=v1.heap∧w'.os=v1.os∧w'.output=v1.output) (fun τ=>wp_mono (p5_10 (v:=onTape v1 τ 0) rfl hA1') fun e a w hq=>⟨hq.1,hq.2.1,by rw [hq.2.2];exact ⟨rfl,rfl,rfl⟩⟩) ?_
  rintro a2 v2 w2 ⟨hA2,e2,q2,z2⟩ hr2 hn2 -
  have hM2:=hM1.grows (grows_eqv e2 q2 z2)
  have hA2':Fl 41 [(0,.slice (some ⟨b,o,none⟩) n cap),(4,Pt ob 0),(5,Pt tb 0),(6,Pt wk 0),(7,I (i:Nat))] a2:=hA2.sub (by simp)
  have hI2:=hI.grows hM2.bl
  rcases hS with ⟨rfl,hst⟩|⟨hi0,kd0,c0,he,hz,hx,hy⟩
  ·refine goesI_cond (dt_idle _ _) (t:=true) (hA2.at 26 _ (by simp)) ?_
   simp only [if_true]
   have hc0:=hI2 0 kd c hact
   simp only [Nat.zero_mul,Nat.add_zero] at hc0
   refine goesI_plain (z:=zn) (wr:=true) (L:=LV) (I:=NoRow Ch) hE fineV noRow_keeps (fun v v' w w' es hi hr ho he=>dt_of_z v v' w w' es hi hr ho he) hr2 fine5_11 hA2'.2.1 (by simp [base]) hn2 (Q:=fun a w'=>Fl 41 [(0,.slice (some ⟨b,o,none⟩) n cap),(4,Pt ob 0),(5,Pt tb 0),(6,Pt wk 0),(7,I ((0:Nat):Int))] a∧∃ u,Grows v2 u∧w'=ansW u wk (cmF kd c).1 (cmF kd c).2) (fun τ=>wp_mono (p5_11 (v:=onTape v2 τ 0) hin (show (onTape v2 τ 0).cell? _=_ from hc0.1) hc0.2 hM2.hwk hA2') fun e a w hq=>⟨hq.1,hq.2.1,hq.2.2.choose,gtape hq.2.2.choose_spec.1,hq.2.2.choose_spec.2.2⟩) ?_
   rintro a3 v3 w3 ⟨hA3,u,hgu,rfl⟩ hr3 hn3 -
   have hM3:M5 u0 ob kp cw cv tb wk x y (cmF kd c).1 (cmF kd c).2 (ansW u wk (cmF kd c).1 (cmF kd c).2):=(hM2.grows hgu).put
   have hc3:=(hI.grows hM3.bl) 0 kd c hact
   refine goesI_seq (dt_idle _ _) ?_
   refine do12 hin hc3.1 hc3.2 hA3 _ cs hr3 hn3 (fun w4 bd ad od qd rd oe kq r4 hoe hgo code hc=>?_)
   refine fdo_new hM3.fo hst (by decide) _ hoe r4 hn3 (fun v5 w5 r5 n5 g5 f5=>?_) code hc
   refine hgo v5 w5 _ _ r5 n5 (fun a6 v6 w6 hA6 r6 n6 g6 han=>?_)
   exact after a6 v6 w6 _ _ _ _ _ hA6 r6 n6 ((hM3.gx g5 f5).grows g6) han ⟨kd,c,rfl,rfl,rfl,rfl⟩
  ·have hb:((i:Int)==0)=false:=by simp;omega
   refine goesI_cond (dt_idle _ _) (t:=false) (by rw [hA2.at 26 (.bool ((i:Int)==0)) (by simp),hb]) ?_
   simp only [if_false,Bool.false_eq_true]
   refine goesI_skip (dt_idle _ _) ?_
   have hc3:=hI2 i kd c hact
   refine goesI_seq (dt_idle _ _) ?_
   refine do12 hin hc3.1 hc3.2 hA2' _ cs hr2 hn2 (fun w4 bd ad od qd rd oe kq r4 hoe hgo code hc=>?_)
   have hsm:=cmF_small kd0 c0
   rw [←he] at hsm
   have h2:R1.stI x=2:=by rw [hx];exact R1.st_word (by decide) (by decide)
   have hco:R1.codI x=e:=by rw [hx];exact R1.cod_word (by decide) (by decide) (by decide) (by decide) hsm.1.1 hsm.1.2
   refine fdo_done hM2.fo h2 _ hoe r4 hn2 (fun v5 w5 r5 n5 g5=>?_) code hc
   rw [hco,hy]
   refine hgo v5 w5 _ _ r5 n5 (fun a6 v6 w6 hA6 r6 n6 g6 han=>?_)
   exact after a6 v6 w6 _ _ _ _ _ hA6 r6 n6 ((hM2.grows g5).grows g6) han ⟨kd0,c0,he,hz,hx,hy⟩
end
def InR (x:Int):Prop:=-9223372036854775808≤x∧x<9223372036854775808
def Cl.ok (c:Cl):Prop:=InR c.cb∧InR c.cc
structure InI (W:World) (p:Option Addr) (b o:Nat) (xs:List Int):Prop where
 at_:0<xs.length→p=some ⟨b,o,none⟩
 cell:∀ k x,xs[k]? = some x→W.cell? ⟨b,o+k,none⟩=some (I x)
 inr:∀ x∈xs,InR x
 len:xs.length≤17592186043904
theorem InI.grows {W W':World} {p:Option Addr} {b o:Nat} {xs:List Int} (h:InI W p b o xs) (g:Grows W W'):InI W' p b o xs :=
 ⟨h.at_,fun k x hk=>g.cell (h.cell k x hk),h.inr,h.len⟩
structure InS (W:World) (p:Option Addr) (b o n:Nat) (pc:Nat→Option Addr) (ln cp rb:Nat→Nat) (cl:Nat→List Cl):Prop where
 at_:0<n→p=some ⟨b,o,none⟩
 row:∀ k,k<n→W.cell? ⟨b,o+k,none⟩=some (.slice (pc k) (ln k) (cp k))
 len:∀ j,j<n→(cl j).length=ln j
 pq:∀ j,j<n→0<ln j→pc j=some ⟨rb j,roOf (pc j),none⟩
 call:∀ j,j<n→∀ (k:Nat) (c:Cl),(cl j)[k]? = some c→W.cell? ⟨rb j,roOf (pc j)+k*4,none⟩=some (I c.po)∧W.cell? ⟨rb j,roOf (pc j)+k*4+1,none⟩=some (I c.ca)∧W.cell? ⟨rb j,roOf (pc j)+k*4+2,none⟩=some (I c.cb)∧W.cell? ⟨rb j,roOf (pc j)+k*4+3,none⟩=some (I c.cc)
 ok:∀ j,j<n→∀ c∈cl j,InR c.ca∧c.ok
 n:n≤17592186043904
theorem InS.grows {W W':World} {p:Option Addr} {b o n:Nat} {pc:Nat→Option Addr} {ln cp rb:Nat→Nat} {cl:Nat→List Cl} (h:InS W p b o n pc ln cp rb cl) (g:Grows W W'):InS W' p b o n pc ln cp rb cl :=
 ⟨h.at_,fun k hk=>g.cell (h.row k hk),h.len,h.pq,fun j hj k c hc=>by
  have:=h.call j hj k c hc
  exact ⟨g.cell this.1,g.cell this.2.1,g.cell this.2.2.1,g.cell this.2.2.2⟩,h.ok,h.n⟩
section
variable (mc:Mc) (fid:FuncId) (caps:Array Value) (pk:Nat→Option Obj) (N n:Nat) (K:List (Nat×Int)) (pc:Nat→Option Addr) (ln cp rb:Nat→Nat) (cl:Nat→List Cl)
end
theorem alone_ends {gs:Array Goroutine} {w:World} {T:Trace} {q:Nat→Nat} (A:Alone gs w T q) {a:Goroutine} (hg:gs[0]? = some a) (sl:Option (Nat×Nat)) {Post:Value→World→Prop} (hE:∀ B,∀ d,AtEnd Tryd.prog (fun _=>False) B Post a (w.at d)) :
 ∃ N last o w' t',runNT Tryd.prog (N+1) (crowd gs w sl) T=(.ended o w',t')∧runN Tryd.prog N (crowd gs w sl)=.next last∧step Tryd.prog last=.ended o w'∧Go.Conc.Good Tryd.prog Post last o w' t':=by
 obtain ⟨B,hB,hP⟩:=A.past
 refine beside_ends (D:=fun _ _ es=>es=#[]) (Shun:=fun _=>False) (B:=B) (n:=0) (fun _ _ es h e he=>by subst h;simp at he) hg A.left hP ?_
 rintro w1 ⟨d,rfl⟩
 exact hE B d
end Go.Proofs.YtfjjoohflcchnaaDoor.Gen
