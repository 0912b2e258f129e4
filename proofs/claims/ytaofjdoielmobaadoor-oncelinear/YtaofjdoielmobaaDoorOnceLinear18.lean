/- Of the proof of OnceLinear. Part 18 of 27. (Joined, by program, and written short, of: SamA, GPts, OnAw1, OnAw2, OnAw3.) -/
import Derived.Test.YtaofjdoielmobaaDoorOnceLinear09
import Derived.Test.YtaofjdoielmobaaDoorOnceLinear10
import Derived.Test.YtaofjdoielmobaaDoorOnceLinear15
import Derived.Test.YtaofjdoielmobaaDoorOnceLinear17
import Derived.BigQuiet
import Derived.KernelRfl
set_option linter.unusedSimpArgs false
set_option linter.unusedVariables false
set_option maxHeartbeats 4000000
set_option maxRecDepth 100000
namespace Go.Proofs.YtaofjdoielmobaaDoor.Gen
open Go Go.Lift Go.Conc Go.RowKit
structure Rws (M:Nat) (n:Nat) (A cp ln:Nat->Nat) (e x:Nat->Nat->Int) (v:World):Prop where
 row:∀ k,k<n->v.cell? ⟨M,k,none⟩=some (.slice (some ⟨A k,0,none⟩) (ln k) (cp k))
 ans:∀ k,k<n->∀ j,j<ln k->v.cell? ⟨A k,j*2,none⟩=some (I (e k j))∧v.cell? ⟨A k,j*2+1,none⟩=some (I (x k j))
theorem Rws.same {M n:Nat}{A cp ln:Nat->Nat}{e x:Nat->Nat->Int}{v v':World}(h:Rws M n A cp ln e x v) (hh:v'.heap=v.heap):Rws M n A cp ln e x v':=by
 have hc:∀ a,v'.cell? a=v.cell? a:=fun a=>World.cell?_of_block (w:=v) (w':=v') (by rw[hh])
 exact ⟨fun k hk=>by rw[hc];exact h.row k hk,fun k hk j hj=>by rw[hc,hc];exact h.ans k hk j hj⟩
def Sam (v u:World):Prop:=u.heap=v.heap∧u.os=v.os∧u.output=v.output
theorem body22 {v:World}(M M' n c1 c2:Nat) {A B ca cb ln:Nat->Nat}{e x:Nat->Nat->Int}(h1:Rws M n A ca ln e x v) (h2:Rws M' n B cb ln e x v) (hn:n≤1000000) (hln:∀ k,k<n->ln k≤1000000) :
 Body Tryd.f22 #[.slice (some ⟨M,0,none⟩) n c1,.slice (some ⟨M',0,none⟩) n c2] v (fun r v'=>r=.bool true∧v'.heap=v.heap∧v'.os=v.os∧v'.output=v.output):=by
 intro code hb
 obtain rfl:=Option.some.inj hb
 clear hb
 have H1:Hid (∀ u,Sam v u->Rws M n A ca ln e x u∧Rws M' n B cb ln e x u):=⟨fun u hu=>⟨h1.same hu.1,h2.same hu.1⟩⟩
 have HL:Hid (∀ k,k<n->ln k≤1000000):=⟨hln⟩
 clear h1 h2 hln
 simp only[Tryd.ntmps22,List.size_toArray,List.length_cons,List.length_nil,Nat.reduceAdd,Nat.reduceSub,Array.replicate_succ,Array.replicate_zero,List.push_toArray,List.append_toArray,List.nil_append,List.cons_append]
 go_wp2_with fail
 go_loopw [5] (fun i u=>∃ k:Nat,k≤n∧i=.int .i64 k∧Hid (Sam v u)) (fun i _=>n - (intOf i).toNat)
 case atStart=>exact ⟨0,Nat.zero_le _,rfl,⟨rfl,rfl,rfl⟩⟩
 case round =>
  obtain ⟨k,hk,rfl,hs⟩:=hrel
  by_cases hlt:k<n
  ·obtain ⟨r1,r2⟩:=H1.out wr hs.out
   have a1:=r1.row k hlt
   have a2:=r2.row k hlt
   have hl:=HL.out k hlt
   clear r1 r2
   have hlt':(k:Int)<(n:Int):=by omega
   have hnl:¬ n≤k:=by omega
   obtain ⟨wo,hwo⟩:∃ wo,wo=wr:=⟨wr,rfl⟩
   rw[←hwo] at hs a1 a2 ⊢
   clear hwo
   go_wp2_with fail
   go_quiet (fail)
   go_wp2_with fail
   go_loopw [6] (fun i u=>∃ j:Nat,j≤ln k∧i=.int .i64 j∧Hid (Sam v u)) (fun i _=>ln k - (intOf i).toNat)
   case atStart=>exact ⟨0,Nat.zero_le _,rfl,hs.out.1,hs.out.2.1,hs.out.2.2⟩
   case round =>
    obtain ⟨j,hj,rfl,hs2⟩:=hrel
    obtain ⟨r1,r2⟩:=H1.out wr hs2.out
    have b1:=r1.row k hlt
    have b2:=r2.row k hlt
    by_cases hjl:j<ln k
    ·have c1':=r1.ans k hlt j hjl
     have c2':=r2.ans k hlt j hjl
     obtain ⟨x1,x2⟩:=c1'
     obtain ⟨y1,y2⟩:=c2'
     clear r1 r2 a1 a2
     have hjl':(j:Int)<(ln k:Int):=by omega
     have hnj:¬ ln k≤j:=by omega
     go_wp2_with fail
     go_quiet (fail)
     go_wp2_with fail
     go_roundw
     case rel=>exact ⟨j+1,by omega,by go_num,hs2.out.1,hs2.out.2.1,hs2.out.2.2⟩
     case measure=>simp[intOf];omega
    ·have hjj:j=ln k:=by omega
     subst hjj
     clear r1 r2 a1 a2
     go_wp2_with fail
     go_roundw
     case rel=>exact ⟨k+1,by omega,by go_num,hs2.out.1,hs2.out.2.1,hs2.out.2.2⟩
     case measure=>simp[intOf];omega
  ·have hkk:k=n:=by omega
   subst hkk
   go_wp2_with fail
   go_ret
   exact ⟨_,rfl,rfl,hs.out.1,hs.out.2.1,hs.out.2.2⟩
variable {mc:Mc}
theorem turns_det:∀ {m m':Nat}{p p1 p2:PSt},Turns mc m p p1->Turns mc m' p p2->p1=p2
 |_,_,_,_,_,.stop h,.stop h'=>rfl
 |_,_,_,_,_,.stop h,.step h' _=>by rw[h] at h';cases h'
 |_,_,_,_,_,.step h _,.stop h'=>by rw[h] at h';cases h'
 |_,_,_,_,_,.step h t,.step h' t'=>by
  rw[h] at h'
  cases h'
  exact turns_det t t'
def pt (mc:Mc) (p:PSt):PSt:=(D5 mc p).getD p
def pts (mc:Mc):Nat->PSt->PSt
 |0,p=>p
 |n+1,p=>pts mc n (pt mc p)
def runs (mc:Mc):Nat->PSt->Bool
 |0,p=>(D5 mc p).isNone
 |n+1,p=>(D5 mc p).isSome&&runs mc n (pt mc p)
theorem turns_of:∀ (n:Nat) (p:PSt),runs mc n p=true->Turns mc n p (pts mc n p)
 |0,p,h=>by
  refine .stop ?_
  cases hp:D5 mc p with
  |none=>rfl
  |some x=>unfold runs at h;rw[hp] at h;cases h
 |n+1,p,h=>by
  unfold runs at h
  rw[Bool.and_eq_true] at h
  refine .step ?_ (turns_of n (pt mc p) h.2)
  unfold pt
  cases hp:D5 mc p with
  |none=>rw[hp] at h;cases h.1
  |some x=>rfl
end Go.Proofs.YtaofjdoielmobaaDoor.Gen
namespace Go.Proofs.YtaofjdoielmobaaDoor.Gen
open Go Go.Lift Go.Conc Go.RowKit
open Go.ConcN (upd upd_same upd_ne)
def clW (j:Nat):List Cl:=[⟨2,0,7,0⟩,⟨1,0,8,0⟩]
def lnW (j:Nat):Nat:=2
def an0 (j:Nat):List (Int×Int):=List.replicate (lnW j) (0,0)
def awST (wb bk base:Nat) (sc cv:Value) (k:Nat):TS:=nv { Gp (newS wb bk base sc []) cv k with ran:=true }
def awF (wb bk base:Nat) (sc cv:Value) (tv0:Value) (tb0 gc0:Nat):TS×Ph:=flow 0 (mcO 1) (clW 0) 0 false (an0 0) (Ax (awST wb bk base sc cv 2) tv0 tb0 gc0)
def awPT (wb bk base:Nat) (sc cv:Value) (tv0:Value) (tb0 gc0:Nat) (cb0 cb1:Nat) (l0:Nat->Ph):PSt :=
 ⟨(awF wb bk base sc cv tv0 tb0 gc0).1,[(cb0,0),(cb1,0)],upd l0 0 (awF wb bk base sc cv tv0 tb0 gc0).2⟩
section
variable (wb bk base:Nat) (sc cv:Value) (tv0:Value) (tb0 gc0:Nat) (cb0 cb1:Nat) (l0:Nat->Ph)
set_option maxRecDepth 100000
theorem awt_runs:runs (mcO 1) 6 (awPT wb bk base sc cv tv0 tb0 gc0 cb0 cb1 l0)=true:=by kernel_rfl
theorem awt_n:(pts (mcO 1) 6 (awPT wb bk base sc cv tv0 tb0 gc0 cb0 cb1 l0)).S.n=10:=by kernel_rfl
theorem awt_ans:((pts (mcO 1) 6 (awPT wb bk base sc cv tv0 tb0 gc0 cb0 cb1 l0)).l 0).ans=[(70,7),(70,7)]:=by kernel_rfl
end
end Go.Proofs.YtaofjdoielmobaaDoor.Gen
namespace Go.Proofs.YtaofjdoielmobaaDoor.Gen
open Go Go.Lift Go.Conc Go.RowKit
noncomputable def B7:Code:=Tryd.f7.body.getD .skip
noncomputable def b70:Code:=seq1 B7
noncomputable def b71:Code:=seq1 (seq2 B7)
noncomputable def r72:Code:=seq1 (seq2 (seq2 B7))
noncomputable def T7:Code:=seq2 (seq2 (seq2 B7))
theorem eB7:B7=.seq b70 (.seq b71 (.seq r72 T7)):=by kernel_rfl
theorem fine70:As Tryd.prog true LV b70:=Br Bw extT (by kernel_rfl)
theorem fine71:As Tryd.prog true LV b71:=Br Bw extT (by kernel_rfl)
theorem fineT7:As Tryd.prog true LV T7:=Br Bw extT (by kernel_rfl)
theorem b70_wp {v:World} :
 b70.wp Tryd.prog (fun e a w'=>e=.normal∧a={ tmps:=#[.bool false]++Array.replicate 25 undef,defers:=[] }∧w'.heap=v.heap∧w'.os=v.os∧w'.output=v.output)
  { tmps:=Array.replicate 26 undef,defers:=[] } v:=by
 show Code.wp Tryd.prog (seq1 (Tryd.f7.body.getD .skip)) _ _ _
 unfold Tryd.f7 seq1
 simp only[Option.getD_some,Array.replicate_succ,Array.replicate_zero,List.push_toArray,List.append_toArray,List.nil_append,List.cons_append]
 go_wp2_with fail
 try exact ⟨rfl,rfl,rfl⟩
theorem b71_wp {v:World} :
 b71.wp Tryd.prog (fun e a w'=>e=.normal∧∃ wb bk sc,a={ tmps:=#[.bool false,Pt wb 0,undef,undef,undef,Pt wb 0]++Array.replicate 20 undef,defers:=[] }∧IsNew v [] wb bk sc w')
  { tmps:=#[.bool false]++Array.replicate 25 undef,defers:=[] } v:=by
 have H7:Hid (Calls Tryd.prog 8 #[.slice none 0 0] v _):=⟨(body70 (v:=v) none 0).calls Tryd.func8 rfl⟩
 show Code.wp Tryd.prog (seq1 (seq2 (Tryd.f7.body.getD .skip))) _ _ _
 unfold Tryd.f7 seq1 seq2
 simp only[Option.getD_some,Array.replicate_succ,Array.replicate_zero,List.push_toArray,List.append_toArray,List.nil_append,List.cons_append]
 go_wp2_with (first
  |(go_at_call 8;refine H7.out.mono ?_;rintro e w1 ⟨_,rfl,wb,bk,sc,rfl,hnew⟩))
 exact ⟨bk,sc,hnew⟩
structure Done7 (M:Nat) (A:Nat->Nat) (u:World):Prop where
 row:∀ k,k<1->u.cell? ⟨M,k,none⟩=some (.slice (some ⟨A k,0,none⟩) (lnW k) (lnW k))
 a0:u.heap[A 0]? = some (.cells #[I 70,I 7,I 70,I 7] 38)
theorem same7 {v:World}{M:Nat}{A:Nat->Nat}(h:Done7 M A v):Calls Tryd.prog 22 #[.slice (some ⟨M,0,none⟩) 1 1,.slice (some ⟨v.heap.size+2,0,none⟩) 1 1] (((v.alloc (.cells #[I 70,I 7] 38)).alloc (.cells #[I 70,I 7,I 70,I 7] 38)).alloc (.cells #[.slice (some ⟨(v.heap.size+1),0,none⟩) 2 2] 31)) (fun e w'=>e=.returned (.bool true)∧w'.heap=(((v.alloc (.cells #[I 70,I 7] 38)).alloc (.cells #[I 70,I 7,I 70,I 7] 38)).alloc (.cells #[.slice (some ⟨(v.heap.size+1),0,none⟩) 2 2] 31)).heap∧w'.os=v.os∧w'.output=v.output):=by
 have old:∀ b,b<v.heap.size->(((v.alloc (.cells #[I 70,I 7] 38)).alloc (.cells #[I 70,I 7,I 70,I 7] 38)).alloc (.cells #[.slice (some ⟨(v.heap.size+1),0,none⟩) 2 2] 31)).heap[b]? = v.heap[b]?:=fun b hb=>by
  show (((v.heap.push _).push _).push _)[b]? = _
  simp only[Array.getElem?_push,Array.size_push]
  repeat rw[if_neg (by omega)]
 have n0:(((v.alloc (.cells #[I 70,I 7] 38)).alloc (.cells #[I 70,I 7,I 70,I 7] 38)).alloc (.cells #[.slice (some ⟨(v.heap.size+1),0,none⟩) 2 2] 31)).heap[v.heap.size+1]? = some (.cells #[I 70,I 7,I 70,I 7] 38):=by
  show (((v.heap.push _).push _).push _)[v.heap.size+1]? = _
  simp only[Array.getElem?_push,Array.size_push]
  repeat first|rw[if_pos trivial]|rw[if_pos (by omega)]|rw[if_neg (by omega)]
 have n2:(((v.alloc (.cells #[I 70,I 7] 38)).alloc (.cells #[I 70,I 7,I 70,I 7] 38)).alloc (.cells #[.slice (some ⟨(v.heap.size+1),0,none⟩) 2 2] 31)).heap[v.heap.size+2]? = some (.cells #[.slice (some ⟨(v.heap.size+1),0,none⟩) 2 2] 31):=by
  show (((v.heap.push _).push _).push _)[v.heap.size+2]? = _
  simp only[Array.getElem?_push,Array.size_push]
  repeat first|rw[if_pos trivial]|rw[if_pos (by omega)]|rw[if_neg (by omega)]
 have hb:=body22 (v:=(((v.alloc (.cells #[I 70,I 7] 38)).alloc (.cells #[I 70,I 7,I 70,I 7] 38)).alloc (.cells #[.slice (some ⟨(v.heap.size+1),0,none⟩) 2 2] 31))) M (v.heap.size+2) 1 1 1 (A:=A) (B:=fun k=>v.heap.size+1+k) (ca:=lnW) (cb:=lnW) (ln:=lnW) (e:=fun _ _=>70) (x:=fun _ _=>7) ⟨fun k hk=>?_,fun k hk j hj=>?_⟩ ⟨fun k hk=>?_,fun k hk j hj=>?_⟩ (by decide) (fun k hk=>by unfold lnW;decide)
 ·refine (hb.calls Tryd.func22 rfl).mono ?_
  rintro e w' ⟨r,rfl,rfl,h1,h2,h3⟩
  exact ⟨rfl,h1,h2,h3⟩
 ·have:=h.row k hk
  rw[World.cell?_of_block (w:=v) (w':=(((v.alloc (.cells #[I 70,I 7] 38)).alloc (.cells #[I 70,I 7,I 70,I 7] 38)).alloc (.cells #[.slice (some ⟨(v.heap.size+1),0,none⟩) 2 2] 31))) (old M (World.block_lt_of_cell? _ _ this))]
  exact this
 ·obtain rfl:k=0:=by omega
  have h2:(((v.alloc (.cells #[I 70,I 7] 38)).alloc (.cells #[I 70,I 7,I 70,I 7] 38)).alloc (.cells #[.slice (some ⟨(v.heap.size+1),0,none⟩) 2 2] 31)).heap[A 0]? = some (.cells #[I 70,I 7,I 70,I 7] 38):=by rw[old _ (Array.getElem?_eq_some_iff.1 h.a0).1];exact h.a0
  have:j=0∨j=1:=by simp[lnW] at hj;omega
  rcases this with rfl|rfl<;>exact ⟨cell_of h2 rfl,cell_of h2 rfl⟩
 ·obtain rfl:k=0:=by omega
  exact cell_of n2 rfl
 ·obtain rfl:k=0:=by omega
  have:j=0∨j=1:=by simp[lnW] at hj;omega
  rcases this with rfl|rfl<;>exact ⟨cell_of n0 rfl,cell_of n0 rfl⟩
theorem T7_wp {v:World}{M:Nat}{A:Nat->Nat}(h:Done7 M A v) {a:Act}(hA:Fl 26 [(2,.slice (some ⟨M,0,none⟩) 1 1),(3,I 0)] a) :
 T7.wp Tryd.prog (fun e a w'=>e=.ret∧∃ x,(results Tryd.f7 a.tmps).run Tryd.prog w'=.ok x w'∧x=.bool true∧Grows v w') a v:=by
 have g3:Grows v (((v.alloc (.cells #[I 70,I 7] 38)).alloc (.cells #[I 70,I 7,I 70,I 7] 38)).alloc (.cells #[.slice (some ⟨(v.heap.size+1),0,none⟩) 2 2] 31)):=⟨by show _≤(((v.heap.push _).push _).push _).size;simp;omega,fun b hb=>by
  show (((v.heap.push _).push _).push _)[b]? = _
  simp only[Array.getElem?_push,Array.size_push]
  repeat rw[if_neg (by omega)],rfl,rfl⟩
 have H1:Hid (Calls Tryd.prog 22 #[.slice (some ⟨M,0,none⟩) 1 1,.slice (some ⟨v.heap.size+2,0,none⟩) 1 1] (((v.alloc (.cells #[I 70,I 7] 38)).alloc (.cells #[I 70,I 7,I 70,I 7] 38)).alloc (.cells #[.slice (some ⟨(v.heap.size+1),0,none⟩) 2 2] 31)) (fun e w1=>e=.returned (.bool true)∧Hid (Grows v w1))):=⟨(same7 h).mono (by
  rintro e w1 ⟨rfl,h1,h2,h3⟩
  exact ⟨rfl,⟨by rw[h1];exact g3.size,fun b hb=>by rw[h1];exact g3.old b hb,h2,h3⟩⟩)⟩
 clear h g3
 obtain ⟨hsz,hd,hpp⟩:=hA
 obtain ⟨u,rfl,hg⟩:=litN hsz hd
 have u2:=(hg 2).symm.trans (hpp (2,.slice (some ⟨M,0,none⟩) 1 1) (by simp))
 have u3:=(hg 3).symm.trans (hpp (3,I 0) (by simp))
 clear hg hpp hsz hd
 unfold T7 B7 Tryd.f7 seq2
 simp only[Option.getD_some,lits,Nat.reduceAdd,u2,u3]
 clear u2 u3
 go_wp2_with (first
  |(go_at_call 22;refine H1.out.mono ?_;rintro e w1 ⟨rfl,H2⟩))
 exact ⟨_,results_tmp (t:=0) rfl _ _ _,rfl,H2.out⟩
structure Set7 (v:World) (wb bk:Nat) (sc:Value) (c:Nat) (u:World):Prop where
 mem:Mem zn (newS wb bk v.heap.size sc []) [] u
 opn:Open u bk
 c0:u.heap[c]? = some (.cells #[I 2,I 0,I 7,I 0,I 1,I 0,I 8,I 0] 35)
 scr:u.heap[c+1]? = some (.cells #[.slice (some ⟨c,0,none⟩) 2 2] 33)
 own:∀ b,Own (newS wb bk v.heap.size sc []) [] b∨b=bk->v.heap.size≤b∧b<c
 old:Grows v u
theorem Set7.same {v:World}{wb bk:Nat}{sc:Value}{c:Nat}{u u':World}(h:Set7 v wb bk sc c u) (e:u'.heap=u.heap) (e1:u'.os=u.os) (e2:u'.output=u.output):Set7 v wb bk sc c u':=by
 have g:Grows u u':=⟨by rw[e];exact Nat.le_refl _,fun b _=>by rw[e],e1,e2⟩
 refine ⟨(h.mem.grows g).mem,?_,by rw[e];exact h.c0,by rw[e];exact h.scr,h.own,⟨by rw[e];exact h.old.size,fun b hb=>by rw[e];exact h.old.old b hb,e1.trans h.old.os,e2.trans h.old.output⟩⟩
 obtain ⟨c,m,hh⟩:=h.opn
 exact ⟨c,m,by rw[e];exact hh⟩
theorem oawake_in {Ch:Nat->Prop}{Stop:Goroutine->World->Prop}{main:Bool}{v w:World}(cs:List Frame) {bc:Frame}{ac:Act}{ops:Array Oper}{q:Nat}{rest:List Nat}{oc:Oper}{k:List Item}(hoc:ops[q]? = some oc)
 (hvw:Rel zn v w) (hn:Ah Ch v)
 (hk:∀ v' w' (wb bk:Nat) (sc:Value) (c:Nat) (bd:Frame) (ad:Act) (od:Array Oper) (qd:Nat) (rd:List Nat) (oe:Oper) (kd:List Item),Rel zn v' w'->Ah Ch v'->Set7 v wb bk sc c v'->od[qd]? = some oe ->
   (∀ (Ch:Nat->Prop) (Stop:Goroutine->World->Prop) (M:Nat) (A:Nat->Nat) (v w:World),Rel zn v w->Ah Ch v->Done7 M A v->(∀ v' w',Rel zn v' w'->Ah Ch v'->Grows v v'->GoesI Tryd.prog main (DT (ScZ zn) Ch) Stop (G (bc.at (ac.put oc.dst (.bool true)) (.inRegion ops rest :: k)) cs) w')->GoesI Tryd.prog main (DT (ScZ zn) Ch) Stop (G (bd.at (ad.put oe.dst (.tuple #[.slice (some ⟨M,0,none⟩) 1 1,I 0])) (.inRegion od rd :: kd)) (bc.at ac (.inRegion ops (q :: rest) :: k) :: cs)) w) ->
   GoesI Tryd.prog main (DT (ScZ zn) Ch) Stop (G ((base 9).at { tmps:=#[Pt wb 0,I 1,.slice (some ⟨c+1,0,none⟩) 1 1]++Array.replicate 37 undef,defers:=[] } [.code yB]) (bd.at ad (.inRegion od (qd :: rd) :: kd) :: bc.at ac (.inRegion ops (q :: rest) :: k) :: cs)) w') :
 GoesI Tryd.prog main (DT (ScZ zn) Ch) Stop (G ((base 7).at { tmps:=Array.replicate 26 undef,defers:=[] } [.code B7]) (bc.at ac (.inRegion ops (q :: rest) :: k) :: cs)) w:=by
 rw[eB7]
 refine Ac (Aa _ _) ?_
 refine Am (z:=zn) (wr:=true) (L:=LV) (I:=Ah Ch) hE Gy Al (fun v v' w w' es hi hr ho he=>Az v v' w w' es hi hr ho he) hvw fine70 rfl (by simp[base]) hn
  (Q:=fun a w'=>a={ tmps:=#[.bool false]++Array.replicate 25 undef,defers:=[] }∧w'.heap=v.heap∧w'.os=v.os∧w'.output=v.output) (fun τ=>b70_wp (v:=Ap v τ 0)) ?_
 rintro a0 v0 w0 ⟨rfl,e0,o0,u0⟩ hr0 hn0 -
 refine Ac (Aa _ _) ?_
 refine Am (z:=zn) (wr:=true) (L:=LV) (I:=Ah Ch) hE Gy Al (fun v v' w w' es hi hr ho he=>Az v v' w w' es hi hr ho he) hr0 fine71 rfl (by simp[base]) hn0
  (Q:=fun a w'=>∃ wb bk sc,a={ tmps:=#[.bool false,Pt wb 0,undef,undef,undef,Pt wb 0]++Array.replicate 20 undef,defers:=[] }∧IsNew v0 [] wb bk sc w') (fun τ=>?_) ?_
 ·refine wp_mono (b71_wp (v:=Ap v0 τ 0)) (fun e a w' hq=>⟨hq.1,?_⟩)
  obtain ⟨_,wb,bk,sc,h1,h2⟩:=hq
  exact ⟨wb,bk,sc,h1,⟨h2.mem,h2.opn,h2.new,⟨h2.old.size,h2.old.old,h2.old.os,h2.old.output⟩⟩⟩
 rintro a1 v1 w1 ⟨wb,bk,sc,rfl,hnew⟩ hr1 hn1 -
 have hset:Set7 v wb bk sc v1.heap.size ((v1.alloc (.cells #[I 2,I 0,I 7,I 0,I 1,I 0,I 8,I 0] 35)).alloc (.cells #[.slice (some ⟨v1.heap.size,0,none⟩) 2 2] 33)):=by
  have g1:Grows v1 ((v1.alloc (.cells #[I 2,I 0,I 7,I 0,I 1,I 0,I 8,I 0] 35)).alloc (.cells #[.slice (some ⟨v1.heap.size,0,none⟩) 2 2] 33)):=⟨by show _≤((v1.heap.push _).push _).size;simp;omega,fun b hb=>by
   show ((v1.heap.push _).push _)[b]? = _
   simp only[Array.getElem?_push,Array.size_push]
   repeat rw[if_neg (by omega)],rfl,rfl⟩
  have hm1:=hnew.mem
  have hnn:=hnew.new
  rw[e0] at hm1 hnn
  refine ⟨(hm1.grows g1).mem,?_,?_,?_,fun b hb=>⟨hnn b hb,?_⟩,⟨?_,fun b hb=>?_,?_,?_⟩⟩
  ·obtain ⟨c,m,h⟩:=hnew.opn
   exact ⟨c,m,by rw[g1.old _ (Array.getElem?_eq_some_iff.1 h).1];exact h⟩
  ·show ((v1.heap.push _).push _)[v1.heap.size]? = _
   simp only[Array.getElem?_push,Array.size_push]
   repeat first|rw[if_pos trivial]|rw[if_pos (by omega)]|rw[if_neg (by omega)]
  ·show ((v1.heap.push _).push _)[v1.heap.size+1]? = _
   simp only[Array.getElem?_push,Array.size_push]
   repeat first|rw[if_pos trivial]|rw[if_pos (by omega)]|rw[if_neg (by omega)]
  ·rcases hb with hb|rfl
   ·exact hm1.lt hb
   ·obtain ⟨c,m,h⟩:=hnew.opn
    exact (Array.getElem?_eq_some_iff.1 h).1
  ·have:=hnew.old.size;have:=g1.size;rw[e0] at *;omega
  ·rw[g1.old b (by have:=hnew.old.size;rw[e0] at this;omega),hnew.old.old b (by rw[e0];exact hb),e0]
  ·exact hnew.old.os.trans o0
  ·exact hnew.old.output.trans u0
 clear hnew hr0 hn0 e0 o0 u0 hvw hn
 unfold r72 B7 Tryd.f7 seq1 seq2
 simp only[Option.getD_some,Array.replicate_succ,Array.replicate_zero,List.push_toArray,List.append_toArray,List.nil_append,List.cons_append]
 refine Ac (Aa _ _) ?_
 refine Ae (Aa _ _) ?_
 simp only[List.size_toArray,List.length_cons,List.length_nil,Nat.reduceAdd,Nat.zero_add,List.range,List.range.loop]
 iterate 1
  (refine Af rfl rfl (by decide) (fun d K hK=>?_)
   go_simp
   refine hK _ _ ⟨Ak (fun e he=>?_),GoesI.at ?_ d⟩
   ·have hm:=mem_listed he
    simp[go_sem, *] at hm
    try exact ⟨_,_,hm⟩
   clear hK K)
 refine Cg (L:=LV) rfl rfl (by decide) (A7 Bw extT (by kernel_rfl)) hr1 hn1 (v':=v1) (x:=.agg #[I 2,I 0,I 7,I 0]) (by go_simp) rfl (fun w2 hr2 hn2=>?_)
 refine Cg (L:=LV) rfl rfl (by decide) (A7 Bw extT (by kernel_rfl)) hr2 hn2 (v':=v1) (x:=.agg #[I 1,I 0,I 8,I 0]) (by go_simp) rfl (fun w2b hr2b hn2b=>?_)
 refine Cg (L:=LV) rfl rfl (by decide) (A7 Bw extT (by kernel_rfl)) hr2b hn2b (v':=(v1.alloc (.cells #[I 2,I 0,I 7,I 0,I 1,I 0,I 8,I 0] 35))) (x:=.slice (some ⟨v1.heap.size,0,none⟩) 2 2) (by go_simp) rfl (fun w3 hr3 hn3=>?_)
 refine Cg (L:=LV) rfl rfl (by decide) (A7 Bw extT (by kernel_rfl)) hr3 hn3 (v':=((v1.alloc (.cells #[I 2,I 0,I 7,I 0,I 1,I 0,I 8,I 0] 35)).alloc (.cells #[.slice (some ⟨v1.heap.size,0,none⟩) 2 2] 33))) (x:=.slice (some ⟨v1.heap.size+1,0,none⟩) 1 1) (by go_simp) rfl (fun w6 hr6 hn6=>?_)
 refine Bj (f:=9) (fn:=Tryd.f9) (args:=#[Pt wb 0,I 1,.slice (some ⟨v1.heap.size+1,0,none⟩) 1 1]) (Aa _ _) rfl rfl (by decide) rfl (by simp[Act.eval,Act.put]) Tryd.func9 (by decide) rfl ?_
 refine hk _ w6 wb bk sc v1.heap.size _ _ _ _ _ _ _ hr6 hn6 hset rfl (fun Ch Stop M A vv ww hvw hn hD hg=>?_)
 clear hk hset hr1 hr2 hr2b hr3 hr6 hn1 hn2 hn2b hn3 hn6
 iterate 5
  (refine Af rfl rfl (by decide) (fun d K hK=>?_)
   go_simp
   refine hK _ _ ⟨Ak (fun e he=>?_),GoesI.at ?_ d⟩
   ·have hm:=mem_listed he
    simp[go_sem, *] at hm
    try exact ⟨_,_,hm⟩
   clear hK K)
 refine Ab (Aa _ _) ?_
 refine Fy (c:=T7) (f:=7) (fn:=Tryd.f7) (L:=LV) hE Gy hvw hn Tryd.func7 fineT7 rfl hoc (R:=fun r w'=>r=.bool true∧Grows vv w') (fun τ=>?_) (fun r v' w' hR hr' hn'=>?_)
 ·have hD':Done7 M A (Ap vv τ 0):=⟨hD.row,hD.a0⟩
  refine wp_mono (T7_wp (v:=Ap vv τ 0) hD' ⟨rfl,rfl,by
   intro p hp
   simp only[List.mem_cons,List.not_mem_nil,or_false] at hp
   rcases hp with rfl|rfl<;>rfl⟩) (fun e a w' hq=>⟨hq.1,?_⟩)
  obtain ⟨_,x,h1,h2,h3⟩:=hq
  exact ⟨x,h1,h2,⟨h3.size,h3.old,h3.os,h3.output⟩⟩
 ·obtain ⟨rfl,hgr⟩:=hR
  exact hg v' w' hr' hn' hgr
end Go.Proofs.YtaofjdoielmobaaDoor.Gen
namespace Go.Proofs.YtaofjdoielmobaaDoor.Gen
open Go Go.Lift Go.Conc Go.RowKit
open Go.ConcN (upd upd_same upd_ne)
structure Gl (w:World):Prop where
 a:∃ c t f,w.heap[0]? = some (.cells c t f)∧c[0]? = some (I 0)∧c[1]? = some (I 2)
 b:∃ c t f,w.heap[1]? = some (.cells c t f)∧c[0]? = some (I 10)∧c[1]? = some (I 20)
 c:∃ c t f,w.heap[2]? = some (.cells c t f)∧c[0]? = some (I 2)∧c[1]? = some (I 8)
theorem Gl.grows {w w':World}(h:Gl w) (g:Grows w w'):Gl w':=by
 obtain ⟨c,t,f,h1,h2⟩:=h.a
 obtain ⟨c',t',f',k1,k2⟩:=h.b
 obtain ⟨c'',t'',f'',l1,l2⟩:=h.c
 exact ⟨⟨c,t,f,by rw[g.old 0 (Array.getElem?_eq_some_iff.1 h1).1];exact h1,h2⟩,⟨c',t',f',by rw[g.old 1 (Array.getElem?_eq_some_iff.1 k1).1];exact k1,k2⟩,⟨c'',t'',f'',by rw[g.old 2 (Array.getElem?_eq_some_iff.1 l1).1];exact l1,l2⟩⟩
theorem Gl.flds {w:World}(h:Gl w):R1.Flds w:=by
 obtain ⟨c,t,f,h1,h2,h3⟩:=h.a
 obtain ⟨c',t',f',k1,k2,k3⟩:=h.b
 obtain ⟨c'',t'',f'',l1,l2,l3⟩:=h.c
 constructor<;>first|exact cell_of h1 h2|exact cell_of h1 h3|exact cell_of k1 k2|exact cell_of k1 k3|exact cell_of l1 l2|exact cell_of l1 l3
def glP (w:World):Nat->Option Obj:=fun b=>if b<3 then w.heap[b]? else none
theorem glP_in {w:World}{b:Nat}(h:glP w b≠none):b<3:=by
 unfold glP at h
 split at h
 ·assumption
 ·exact absurd rfl h
theorem glP_has (w:World):Has (glP w) w:=fun b o hb=>by
 unfold glP at hb
 split at hb
 ·exact hb
 ·cases hb
theorem glP_fl {w:World}(h:Gl w) (u:World) (hu:Has (glP w) u):R1.Flds u:=by
 have e:∀ b o,b<3->w.heap[b]? = some o->u.heap[b]? = some o:=fun b o hb ho=>hu b o (by unfold glP;rw[if_pos hb];exact ho)
 obtain ⟨c,t,f,h1,h2⟩:=h.a
 obtain ⟨c',t',f',k1,k2⟩:=h.b
 obtain ⟨c'',t'',f'',l1,l2⟩:=h.c
 exact Gl.flds ⟨⟨c,t,f,e _ _ (by decide) h1,h2⟩,⟨c',t',f',e _ _ (by decide) k1,k2⟩,⟨c'',t'',f'',e _ _ (by decide) l1,l2⟩⟩
theorem glP_row {w:World}(h:Gl w):∀ b o,glP w b=some o->∃ c e f,o=.cells c e f:=fun b o hb=>by
 have hw:=glP_has w b o hb
 have h3:=glP_in (w:=w) (b:=b) (by rw[hb];simp)
 have:b=0∨b=1∨b=2:=by omega
 rcases this with rfl|rfl|rfl
 ·obtain ⟨c,t,f,h1,_⟩:=h.a
  rw[h1] at hw;cases hw;exact ⟨_,_,_,rfl⟩
 ·obtain ⟨c,t,f,h1,_⟩:=h.b
  rw[h1] at hw;cases hw;exact ⟨_,_,_,rfl⟩
 ·obtain ⟨c,t,f,h1,_⟩:=h.c
  rw[h1] at hw;cases hw;exact ⟨_,_,_,rfl⟩
theorem Gl.lt {w:World}(h:Gl w):2<w.heap.size:=by
 obtain ⟨c,t,f,h1,_⟩:=h.c
 exact (Array.getElem?_eq_some_iff.1 h1).1
abbrev pcW (c j:Nat):Option Addr:=some ⟨c+j,0,none⟩
section
variable {wb bk base:Nat}{sc cv:Value}{cb0 cb1:Nat}{l0:Nat->Ph}
theorem hires_on {caps:Array Value}{pk:Nat->Option Obj}{N c:Nat}{S1:TS}{l1:Nat->Ph}(h:Hires (mcO 1) 0 (scrs (mcO 1) 25 caps pk N 1 [(cb0,0),(cb1,0)] (pcW c) lnW lnW (fun j=>c+j) clW) (awST wb bk base sc cv 2) l0 S1 l1) :
 ∃ tv0 tb0 gc0,(⟨S1,[(cb0,0),(cb1,0)],l1⟩:PSt)=awPT wb bk base sc cv tv0 tb0 gc0 cb0 cb1 l0:=by
 have e:(scrs (mcO 1) 25 caps pk N 1 [(cb0,0),(cb1,0)] (pcW c) lnW lnW (fun j=>c+j) clW)=[scrOf (mcO 1) 25 caps pk N 1 [cb0,cb1] (pcW c) lnW lnW (fun j=>c+j) clW 0]:=rfl
 rw[e] at h
 cases h with
 |cons tv0 tb0 gc0 h =>
  cases h
  exact ⟨tv0,tb0,gc0,rfl⟩
end
theorem asked7 {v u:World}{wb bk:Nat}{sc:Value}{c:Nat}(s:Set7 v wb bk sc c u):Asked u (newS wb bk v.heap.size sc []) 1 (c+1) 0 (pcW c) lnW lnW (fun j=>c+j) clW:=by
 have one:∀ {j},j<1->j=0:=fun h=>by omega
 refine ⟨fun j hj=>by obtain rfl:=one hj;exact ⟨rfl,by decide⟩,fun k hk=>?_,fun h=>by have:=(s.own _ (.inl h)).2;omega,fun j hj _=>⟨rfl,fun h=>by have:=(s.own _ (.inl h)).2;omega⟩,fun j hj k x hx=>?_,fun j hj x hx=>?_⟩
 ·obtain rfl:=one hk;exact cell_of s.scr rfl
 ·obtain rfl:=one hj
  match k,hx with
  |0,hx=>cases hx;exact ⟨cell_of s.c0 rfl,cell_of s.c0 rfl,cell_of s.c0 rfl,cell_of s.c0 rfl⟩
  |1,hx=>cases hx;exact ⟨cell_of s.c0 rfl,cell_of s.c0 rfl,cell_of s.c0 rfl,cell_of s.c0 rfl⟩
  |k+2,hx=>simp[clW] at hx
 ·obtain rfl:=one hj
  simp[clW] at hx
  rcases hx with rfl|rfl<;>decide
theorem K_two {K:List (Nat×Int)}(hK:K.map (·.2)=List.replicate 2 0):∃ cb0 cb1,K=[(cb0,0),(cb1,0)]:=by
 match K,hK with
 | [(a,x),(b,y)],hK =>
  simp[List.replicate] at hK
  obtain ⟨rfl,rfl⟩:=hK
  exact ⟨a,b,rfl⟩
 | [],hK=>simp at hK
 | [x],hK=>simp[List.replicate] at hK
 |x :: y :: z :: l,hK=>simp[List.replicate] at hK
theorem oawake_all {cs:List Frame}{bc:Frame}{ac:Act}{ops:Array Oper}{q0:Nat}{rest:List Nat}{oc:Oper}{k0:List Item}(hoc:ops[q0]? = some oc) {w:World}{T:Trace}{gs:Array Goroutine}{q:Nat->Nat}(sl:Option (Nat×Nat)) (A:Alone gs w T q) (hGl:Gl w)
 (hg:gs[0]? = some (G ((base 7).at { tmps:=Array.replicate 26 undef,defers:=[] } [.code B7]) (bc.at ac (.inRegion ops (q0 :: rest) :: k0) :: cs))) :
 ∃ (N':Nat) (gs':Array Goroutine) (w':World) (sl':Option (Nat×Nat)) (T':Trace) (q':Nat->Nat),
   runNT Tryd.prog N' (crowd gs w sl) T=(.next (crowd gs' w' sl'),T')∧gs'[0]? = some (G (bc.at (ac.put oc.dst (.bool true)) (.inRegion ops rest :: k0)) cs)∧Alone gs' w' T' q'∧Grows w w':=by
 have hG:GoesI Tryd.prog true (DT (ScZ zn) (fun _=>False)) (fun g w'=>∃ (wb bk:Nat) (sc:Value) (c:Nat) (bd:Frame) (ad:Act) (od:Array Oper) (qd:Nat) (rd:List Nat) (oe:Oper) (kd:List Item),Set7 w wb bk sc c w'∧od[qd]? = some oe ∧
  (∀ (Ch:Nat->Prop) (Stop:Goroutine->World->Prop) (M:Nat) (A:Nat->Nat) (v w:World),Rel zn v w->Ah Ch v->Done7 M A v->(∀ v' w',Rel zn v' w'->Ah Ch v'->Grows v v'->GoesI Tryd.prog true (DT (ScZ zn) Ch) Stop (G (bc.at (ac.put oc.dst (.bool true)) (.inRegion ops rest :: k0)) cs) w')->GoesI Tryd.prog true (DT (ScZ zn) Ch) Stop (G (bd.at (ad.put oe.dst (.tuple #[.slice (some ⟨M,0,none⟩) 1 1,I 0])) (.inRegion od rd :: kd)) (bc.at ac (.inRegion ops (q0 :: rest) :: k0) :: cs)) w) ∧
  g=G ((base 9).at { tmps:=#[Pt wb 0,I 1,.slice (some ⟨c+1,0,none⟩) 1 1]++Array.replicate 37 undef,defers:=[] } [.code yB]) (bd.at ad (.inRegion od (qd :: rd) :: kd) :: bc.at ac (.inRegion ops (q0 :: rest) :: k0) :: cs)) (G ((base 7).at { tmps:=Array.replicate 26 undef,defers:=[] } [.code B7]) (bc.at ac (.inRegion ops (q0 :: rest) :: k0) :: cs)) w :=
  oawake_in cs hoc (Rel.refl w) (fun c hc=>hc.elim) (fun v' w' wb bk sc c bd ad od qd rd oe kd hr hn hset ho hback=>GoesI.stop fun d=>⟨wb,bk,sc,c,bd,ad,od,qd,rd,oe,kd,hset.same hr.eq hr.os hr.output,ho,hback,rfl⟩)
 obtain ⟨N1,gs1,a1,w1,sl1,T1,q1,r1,z1,h1,⟨wb,bk,sc,c,bd,ad,od,qd,rd,oe,kd,s,hoe,hback,rfl⟩,A1⟩:=Dj A hg sl hG
 have l0:Nat->Ph:=fun _=>.done []
 have hGl1:=hGl.grows s.old
 have h7:=hGl.lt
 have hpf:∀ b,glP w1 b≠none->¬ Own (newS wb bk w.heap.size sc []) [] b∧b≠(newS wb bk w.heap.size sc []).bk:=fun b hb=>by
  have hb':=glP_in hb
  exact ⟨fun h=>by have:=(s.own b (.inl h)).1;omega,fun h=>by have:=(s.own b (.inr h)).1;omega⟩
 obtain ⟨N2,gs2,w2,sl2,T2,q2,caps,pk,N,cv,K,S',S1,l1,m,p',r2,z2,h2,A2,hK,hnv,hH,hT,O⟩:=oplay_all (S:=newS wb bk w.heap.size sc []) (n:=1) (sb:=c+1) (so:=0) (cap:=1) (pc:=pcW c) (ln:=lnW) (cp:=lnW) (rb:=fun j=>c+j) (cl:=clW) 1 (by decide) (by decide) (pk0:=glP w1) (glP_fl hGl1) hoe sl1 6 A1 h1 s.mem rfl rfl rfl s.opn (glP_has w1) hpf (glP_row hGl1) (asked7 s) (by decide) (fun caps pk N K=>by show 0+2*(2+0)≤1000000;decide) (by show 0≤4611686018427387904;decide) (by show ∀ x∈([]:List Int),_;simp) l0 (fun caps pk N cv K hK S1 l1 hH=>by
  obtain ⟨cb0,cb1,rfl⟩:=K_two hK
  obtain ⟨tv0,tb0,gc0,e⟩:=hires_on (wb:=wb) (bk:=bk) (base:=w.heap.size) (sc:=sc) (cv:=cv) hH
  exact ⟨6,_,Nat.le_refl _,by rw[e];exact turns_of 6 _ (awt_runs wb bk _ sc cv tv0 tb0 gc0 cb0 cb1 l0),by rw[awt_n];decide⟩)
 obtain ⟨cb0,cb1,rfl⟩:=K_two hK
 obtain ⟨tv0,tb0,gc0,e⟩:=hires_on (wb:=wb) (bk:=bk) (base:=w.heap.size) (sc:=sc) (cv:=cv) hH
 have hT':Turns (mcO 1) m (⟨S1,[(cb0,0),(cb1,0)],l1⟩:PSt) p':=hT
 rw[e] at hT'
 have hp:=turns_det hT' (turns_of 6 _ (awt_runs wb bk w.heap.size sc cv tv0 tb0 gc0 cb0 cb1 l0))
 have hans:=awt_ans wb bk w.heap.size sc cv tv0 tb0 gc0 cb0 cb1 l0
 rw[←hp] at hans
 have a0:=(O.ans 0 (by decide)).2.1 (by decide)
 rw[hans] at a0
 have hD:Done7 (N+1) (fun k=>N+4+3*k+2) w2:=⟨fun k hk=>O.rows k hk,a0⟩
 obtain ⟨N3,gs3,a3,w3,sl3,T3,q3,r3,z3,h3,⟨rfl,hg3⟩,A3⟩:=Dj A2 h2 sl2 (hback (fun _=>False) (fun g w'=>g=G (bc.at (ac.put oc.dst (.bool true)) (.inRegion ops rest :: k0)) cs∧Grows w2 w') (N+1) _ w2 w2 (Rel.refl w2) (fun c hc=>hc.elim) hD (fun v' w' hr hn hgr=>GoesI.stop fun d=>⟨rfl,hgr.toAt hr d⟩))
 refine ⟨N1+N2+N3,gs3,w3,sl3,T3,q3,runNT_then (runNT_then r1 r2) r3,h3,A3,⟨by have:=s.old.size;have:=O.size;have:=hg3.size;omega,fun b hb=>?_,hg3.os.trans (O.os.trans s.old.os),hg3.output.trans (O.out.trans s.old.output)⟩⟩
 have hs1:=s.old.size
 have hno:¬ (Own (newS wb bk w.heap.size sc []) [] b∨b=bk):=fun h=>by have:=(s.own b h).1;omega
 have h5:=O.old b (by omega) (fun h=>hno (.inl h)) (fun h=>hno (.inr h))
 rw[hg3.old b (by have:=O.size;omega),h5.1,s.old.old b hb]
end Go.Proofs.YtaofjdoielmobaaDoor.Gen
