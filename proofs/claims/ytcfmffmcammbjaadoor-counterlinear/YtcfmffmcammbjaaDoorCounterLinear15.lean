/- Of the proof of CounterLinear. Part 15 of 26. (Joined, by program, and written short, of: CtAw2, CtAw3.) -/
import Derived.Test.YtcfmffmcammbjaaDoorCounterLinear10
import Derived.Test.YtcfmffmcammbjaaDoorCounterLinear14
set_option linter.unusedSimpArgs false
set_option linter.unusedVariables false
set_option maxHeartbeats 4000000
set_option maxRecDepth 100000
namespace Go.Proofs.YtcfmffmcammbjaaDoor.Gen
open Go Go.Lift Go.Conc Go.RowKit
noncomputable def B51:Code:=Tryd.f51.body.getD .skip
noncomputable def b510:Code:=seq1 B51
noncomputable def b511:Code:=seq1 (seq2 B51)
noncomputable def r512:Code:=seq1 (seq2 (seq2 B51))
noncomputable def T51:Code:=seq2 (seq2 (seq2 B51))
theorem eB51:B51=.seq b510 (.seq b511 (.seq r512 T51)):=by kernel_rfl
theorem fine510:Av Tryd.prog true LV b510:=Bu A7 extT (by kernel_rfl)
theorem fine511:Av Tryd.prog true LV b511:=Bu A7 extT (by kernel_rfl)
theorem fineT51:Av Tryd.prog true LV T51:=Bu A7 extT (by kernel_rfl)
theorem b510_wp {v:World} :
 b510.wp Tryd.prog (fun e a w'=>e=.normal∧a={ tmps:=#[.bool false]++Array.replicate 27 undef,defers:=[] }∧w'.heap=v.heap∧w'.os=v.os∧w'.output=v.output)
  { tmps:=Array.replicate 28 undef,defers:=[] } v:=by
 show Code.wp Tryd.prog (seq1 (Tryd.f51.body.getD .skip)) _ _ _
 unfold Tryd.f51 seq1
 simp only[Option.getD_some,Array.replicate_succ,Array.replicate_zero,List.push_toArray,List.append_toArray,List.nil_append,List.cons_append]
 go_wp2_with fail
 try exact ⟨rfl,rfl,rfl⟩
theorem b511_wp {v:World} :
 b511.wp Tryd.prog (fun e a w'=>e=.normal∧∃ wb bk sc,a={ tmps:=#[.bool false,Pt wb 0,undef,undef,Pt wb 0]++Array.replicate 23 undef,defers:=[] }∧IsNew v [] wb bk sc w')
  { tmps:=#[.bool false]++Array.replicate 27 undef,defers:=[] } v:=by
 have H7:Hid (Calls Tryd.prog 17 #[.slice none 0 0] v _):=⟨(body70 (v:=v) none 0).calls Tryd.func17 rfl⟩
 show Code.wp Tryd.prog (seq1 (seq2 (Tryd.f51.body.getD .skip))) _ _ _
 unfold Tryd.f51 seq1 seq2
 simp only[Option.getD_some,Array.replicate_succ,Array.replicate_zero,List.push_toArray,List.append_toArray,List.nil_append,List.cons_append]
 go_wp2_with (first
  |(go_at_call 17;refine H7.out.mono ?_;rintro e w1 ⟨_,rfl,wb,bk,sc,rfl,hnew⟩))
 exact ⟨bk,sc,hnew⟩
structure Done51 (M:Nat) (A:Nat->Nat) (u:World):Prop where
 row:∀ k,k<2->u.cell? ⟨M,k,none⟩=some (.slice (some ⟨A k,0,none⟩) (lnW k) (lnW k))
 a0:u.heap[A 0]? = some (.cells #[I 0,I 0,I 0,I (-2)] 38)
 a1:u.heap[A 1]? = some (.cells #[I 0,I 0] 38)
def exW (k j:Nat):Int:=if k=0∧j=1 then -2 else 0
theorem same51 {v:World}{M:Nat}{A:Nat->Nat}(h:Done51 M A v):Calls Tryd.prog 58 #[.slice (some ⟨M,0,none⟩) 2 2,.slice (some ⟨v.heap.size+2,0,none⟩) 2 2] (((v.alloc (.cells #[I 0,I 0,I 0,I (-2)] 38)).alloc (.cells #[I 0,I 0] 38)).alloc (.cells #[.slice (some ⟨v.heap.size,0,none⟩) 2 2,.slice (some ⟨v.heap.size+1,0,none⟩) 1 1] 31)) (fun e w'=>e=.returned (.bool true)∧w'.heap=(((v.alloc (.cells #[I 0,I 0,I 0,I (-2)] 38)).alloc (.cells #[I 0,I 0] 38)).alloc (.cells #[.slice (some ⟨v.heap.size,0,none⟩) 2 2,.slice (some ⟨v.heap.size+1,0,none⟩) 1 1] 31)).heap∧w'.os=v.os∧w'.output=v.output):=by
 have old:∀ b,b<v.heap.size->(((v.alloc (.cells #[I 0,I 0,I 0,I (-2)] 38)).alloc (.cells #[I 0,I 0] 38)).alloc (.cells #[.slice (some ⟨v.heap.size,0,none⟩) 2 2,.slice (some ⟨v.heap.size+1,0,none⟩) 1 1] 31)).heap[b]? = v.heap[b]?:=fun b hb=>by
  show (((v.heap.push _).push _).push _)[b]? = _
  simp only[Array.getElem?_push,Array.size_push]
  repeat rw[if_neg (by omega)]
 have n0:(((v.alloc (.cells #[I 0,I 0,I 0,I (-2)] 38)).alloc (.cells #[I 0,I 0] 38)).alloc (.cells #[.slice (some ⟨v.heap.size,0,none⟩) 2 2,.slice (some ⟨v.heap.size+1,0,none⟩) 1 1] 31)).heap[v.heap.size]? = some (.cells #[I 0,I 0,I 0,I (-2)] 38):=by
  show (((v.heap.push _).push _).push _)[v.heap.size]? = _
  simp only[Array.getElem?_push,Array.size_push]
  repeat first|rw[if_pos trivial]|rw[if_pos (by omega)]|rw[if_neg (by omega)]
 have n1:(((v.alloc (.cells #[I 0,I 0,I 0,I (-2)] 38)).alloc (.cells #[I 0,I 0] 38)).alloc (.cells #[.slice (some ⟨v.heap.size,0,none⟩) 2 2,.slice (some ⟨v.heap.size+1,0,none⟩) 1 1] 31)).heap[v.heap.size+1]? = some (.cells #[I 0,I 0] 38):=by
  show (((v.heap.push _).push _).push _)[v.heap.size+1]? = _
  simp only[Array.getElem?_push,Array.size_push]
  repeat first|rw[if_pos trivial]|rw[if_pos (by omega)]|rw[if_neg (by omega)]
 have n2:(((v.alloc (.cells #[I 0,I 0,I 0,I (-2)] 38)).alloc (.cells #[I 0,I 0] 38)).alloc (.cells #[.slice (some ⟨v.heap.size,0,none⟩) 2 2,.slice (some ⟨v.heap.size+1,0,none⟩) 1 1] 31)).heap[v.heap.size+2]? = some (.cells #[.slice (some ⟨v.heap.size,0,none⟩) 2 2,.slice (some ⟨v.heap.size+1,0,none⟩) 1 1] 31):=by
  show (((v.heap.push _).push _).push _)[v.heap.size+2]? = _
  simp only[Array.getElem?_push,Array.size_push]
  repeat first|rw[if_pos trivial]|rw[if_pos (by omega)]|rw[if_neg (by omega)]
 have hb:=body58 (v:=(((v.alloc (.cells #[I 0,I 0,I 0,I (-2)] 38)).alloc (.cells #[I 0,I 0] 38)).alloc (.cells #[.slice (some ⟨v.heap.size,0,none⟩) 2 2,.slice (some ⟨v.heap.size+1,0,none⟩) 1 1] 31))) M (v.heap.size+2) 2 2 2 (A:=A) (B:=fun k=>v.heap.size+k) (ca:=lnW) (cb:=lnW) (ln:=lnW) (e:=fun _ _=>0) (x:=exW) ⟨fun k hk=>?_,fun k hk j hj=>?_⟩ ⟨fun k hk=>?_,fun k hk j hj=>?_⟩ (by decide) (fun k hk=>by unfold lnW;split<;>decide)
 ·refine (hb.calls Tryd.func58 rfl).mono ?_
  rintro e w' ⟨r,rfl,rfl,h1,h2,h3⟩
  exact ⟨rfl,h1,h2,h3⟩
 ·have:=h.row k hk
  rw[World.cell?_of_block (w:=v) (w':=(((v.alloc (.cells #[I 0,I 0,I 0,I (-2)] 38)).alloc (.cells #[I 0,I 0] 38)).alloc (.cells #[.slice (some ⟨v.heap.size,0,none⟩) 2 2,.slice (some ⟨v.heap.size+1,0,none⟩) 1 1] 31))) (old M (World.block_lt_of_cell? _ _ this))]
  exact this
 ·have:k=0∨k=1:=by omega
  rcases this with rfl|rfl
  ·have h2:(((v.alloc (.cells #[I 0,I 0,I 0,I (-2)] 38)).alloc (.cells #[I 0,I 0] 38)).alloc (.cells #[.slice (some ⟨v.heap.size,0,none⟩) 2 2,.slice (some ⟨v.heap.size+1,0,none⟩) 1 1] 31)).heap[A 0]? = some (.cells #[I 0,I 0,I 0,I (-2)] 38):=by rw[old _ (Array.getElem?_eq_some_iff.1 h.a0).1];exact h.a0
   have:j=0∨j=1:=by simp[lnW] at hj;omega
   rcases this with rfl|rfl<;>exact ⟨cell_of h2 rfl,cell_of h2 rfl⟩
  ·have h2:(((v.alloc (.cells #[I 0,I 0,I 0,I (-2)] 38)).alloc (.cells #[I 0,I 0] 38)).alloc (.cells #[.slice (some ⟨v.heap.size,0,none⟩) 2 2,.slice (some ⟨v.heap.size+1,0,none⟩) 1 1] 31)).heap[A 1]? = some (.cells #[I 0,I 0] 38):=by rw[old _ (Array.getElem?_eq_some_iff.1 h.a1).1];exact h.a1
   obtain rfl:j=0:=by simp[lnW] at hj;omega
   exact ⟨cell_of h2 rfl,cell_of h2 rfl⟩
 ·have:k=0∨k=1:=by omega
  rcases this with rfl|rfl<;>exact cell_of n2 rfl
 ·have:k=0∨k=1:=by omega
  rcases this with rfl|rfl
  ·have:j=0∨j=1:=by simp[lnW] at hj;omega
   rcases this with rfl|rfl<;>exact ⟨cell_of n0 rfl,cell_of n0 rfl⟩
  ·obtain rfl:j=0:=by simp[lnW] at hj;omega
   exact ⟨cell_of n1 rfl,cell_of n1 rfl⟩
theorem T51_wp {v:World}{M:Nat}{A:Nat->Nat}(h:Done51 M A v) {a:Act}(hA:Fl 28 [(2,.slice (some ⟨M,0,none⟩) 2 2),(3,I 0)] a) :
 T51.wp Tryd.prog (fun e a w'=>e=.ret∧∃ x,(results Tryd.f51 a.tmps).run Tryd.prog w'=.ok x w'∧x=.bool true∧Grows v w') a v:=by
 have g3:Grows v (((v.alloc (.cells #[I 0,I 0,I 0,I (-2)] 38)).alloc (.cells #[I 0,I 0] 38)).alloc (.cells #[.slice (some ⟨v.heap.size,0,none⟩) 2 2,.slice (some ⟨v.heap.size+1,0,none⟩) 1 1] 31)):=⟨by show _≤(((v.heap.push _).push _).push _).size;simp;omega,fun b hb=>by
  show (((v.heap.push _).push _).push _)[b]? = _
  simp only[Array.getElem?_push,Array.size_push]
  repeat rw[if_neg (by omega)],rfl,rfl⟩
 have H1:Hid (Calls Tryd.prog 58 #[.slice (some ⟨M,0,none⟩) 2 2,.slice (some ⟨v.heap.size+2,0,none⟩) 2 2] (((v.alloc (.cells #[I 0,I 0,I 0,I (-2)] 38)).alloc (.cells #[I 0,I 0] 38)).alloc (.cells #[.slice (some ⟨v.heap.size,0,none⟩) 2 2,.slice (some ⟨v.heap.size+1,0,none⟩) 1 1] 31)) (fun e w1=>e=.returned (.bool true)∧Hid (Grows v w1))):=⟨(same51 h).mono (by
  rintro e w1 ⟨rfl,h1,h2,h3⟩
  exact ⟨rfl,⟨by rw[h1];exact g3.size,fun b hb=>by rw[h1];exact g3.old b hb,h2,h3⟩⟩)⟩
 clear h g3
 obtain ⟨hsz,hd,hpp⟩:=hA
 obtain ⟨u,rfl,hg⟩:=litN hsz hd
 have u2:=(hg 2).symm.trans (hpp (2,.slice (some ⟨M,0,none⟩) 2 2) (by simp))
 have u3:=(hg 3).symm.trans (hpp (3,I 0) (by simp))
 clear hg hpp hsz hd
 unfold T51 B51 Tryd.f51 seq2
 simp only[Option.getD_some,lits,Nat.reduceAdd,u2,u3]
 clear u2 u3
 go_wp2_with (first
  |(go_at_call 58;refine H1.out.mono ?_;rintro e w1 ⟨rfl,H2⟩))
 exact ⟨_,results_tmp (t:=0) rfl _ _ _,rfl,H2.out⟩
structure Set51 (v:World) (wb bk:Nat) (sc:Value) (c:Nat) (u:World):Prop where
 mem:Mem zn (newS wb bk v.heap.size sc []) [] u
 opn:Open u bk
 c0:u.heap[c]? = some (.cells #[I 1,I 5,I 0,I 0,I 2,I 0,I 0,I 0] 35)
 c1:u.heap[c+1]? = some (.cells #[I 1,I (-7),I 0,I 0] 35)
 scr:u.heap[c+2]? = some (.cells #[.slice (some ⟨c,0,none⟩) 2 2,.slice (some ⟨c+1,0,none⟩) 1 1] 33)
 own:∀ b,Own (newS wb bk v.heap.size sc []) [] b∨b=bk->v.heap.size≤b∧b<c
 old:Grows v u
theorem Set51.same {v:World}{wb bk:Nat}{sc:Value}{c:Nat}{u u':World}(h:Set51 v wb bk sc c u) (e:u'.heap=u.heap) (e1:u'.os=u.os) (e2:u'.output=u.output):Set51 v wb bk sc c u':=by
 have g:Grows u u':=⟨by rw[e];exact Nat.le_refl _,fun b _=>by rw[e],e1,e2⟩
 refine ⟨(h.mem.grows g).mem,?_,by rw[e];exact h.c0,by rw[e];exact h.c1,by rw[e];exact h.scr,h.own,⟨by rw[e];exact h.old.size,fun b hb=>by rw[e];exact h.old.old b hb,e1.trans h.old.os,e2.trans h.old.output⟩⟩
 obtain ⟨c,m,hh⟩:=h.opn
 exact ⟨c,m,by rw[e];exact hh⟩
theorem cawake_in {Ch:Nat->Prop}{Stop:Goroutine->World->Prop}{main:Bool}{v w:World}(cs:List Frame) {bc:Frame}{ac:Act}{ops:Array Oper}{q:Nat}{rest:List Nat}{oc:Oper}{k:List Item}(hoc:ops[q]? = some oc)
 (hvw:Rel zn v w) (hn:Ak Ch v)
 (hk:∀ v' w' (wb bk:Nat) (sc:Value) (c:Nat) (bd:Frame) (ad:Act) (od:Array Oper) (qd:Nat) (rd:List Nat) (oe:Oper) (kd:List Item),Rel zn v' w'->Ak Ch v'->Set51 v wb bk sc c v'->od[qd]? = some oe ->
   (∀ (Ch:Nat->Prop) (Stop:Goroutine->World->Prop) (M:Nat) (A:Nat->Nat) (v w:World),Rel zn v w->Ak Ch v->Done51 M A v->(∀ v' w',Rel zn v' w'->Ak Ch v'->Grows v v'->GoesI Tryd.prog main (DT (ScZ zn) Ch) Stop (G (bc.at (ac.put oc.dst (.bool true)) (.inRegion ops rest :: k)) cs) w')->GoesI Tryd.prog main (DT (ScZ zn) Ch) Stop (G (bd.at (ad.put oe.dst (.tuple #[.slice (some ⟨M,0,none⟩) 2 2,I 0])) (.inRegion od rd :: kd)) (bc.at ac (.inRegion ops (q :: rest) :: k) :: cs)) w) ->
   GoesI Tryd.prog main (DT (ScZ zn) Ch) Stop (G ((base 52).at { tmps:=#[Pt wb 0,I 2,.slice (some ⟨c+2,0,none⟩) 2 2]++Array.replicate 25 undef,defers:=[] } [.code B52]) (bd.at ad (.inRegion od (qd :: rd) :: kd) :: bc.at ac (.inRegion ops (q :: rest) :: k) :: cs)) w') :
 GoesI Tryd.prog main (DT (ScZ zn) Ch) Stop (G ((base 51).at { tmps:=Array.replicate 28 undef,defers:=[] } [.code B51]) (bc.at ac (.inRegion ops (q :: rest) :: k) :: cs)) w:=by
 rw[eB51]
 refine Ad (Aa _ _) ?_
 refine Ax (z:=zn) (wr:=true) (L:=LV) (I:=Ak Ch) hE Gc Ap (fun v v' w w' es hi hr ho he=>Be v v' w w' es hi hr ho he) hvw fine510 rfl (by simp[base]) hn
  (Q:=fun a w'=>a={ tmps:=#[.bool false]++Array.replicate 27 undef,defers:=[] }∧w'.heap=v.heap∧w'.os=v.os∧w'.output=v.output) (fun τ=>b510_wp (v:=Ao v τ 0)) ?_
 rintro a0 v0 w0 ⟨rfl,e0,o0,u0⟩ hr0 hn0 -
 refine Ad (Aa _ _) ?_
 refine Ax (z:=zn) (wr:=true) (L:=LV) (I:=Ak Ch) hE Gc Ap (fun v v' w w' es hi hr ho he=>Be v v' w w' es hi hr ho he) hr0 fine511 rfl (by simp[base]) hn0
  (Q:=fun a w'=>∃ wb bk sc,a={ tmps:=#[.bool false,Pt wb 0,undef,undef,Pt wb 0]++Array.replicate 23 undef,defers:=[] }∧IsNew v0 [] wb bk sc w') (fun τ=>?_) ?_
 ·refine wp_mono (b511_wp (v:=Ao v0 τ 0)) (fun e a w' hq=>⟨hq.1,?_⟩)
  obtain ⟨_,wb,bk,sc,h1,h2⟩:=hq
  exact ⟨wb,bk,sc,h1,⟨h2.mem,h2.opn,h2.new,⟨h2.old.size,h2.old.old,h2.old.os,h2.old.output⟩⟩⟩
 rintro a1 v1 w1 ⟨wb,bk,sc,rfl,hnew⟩ hr1 hn1 -
 have hset:Set51 v wb bk sc v1.heap.size (((v1.alloc (.cells #[I 1,I 5,I 0,I 0,I 2,I 0,I 0,I 0] 35)).alloc (.cells #[I 1,I (-7),I 0,I 0] 35)).alloc (.cells #[.slice (some ⟨v1.heap.size,0,none⟩) 2 2,.slice (some ⟨v1.heap.size+1,0,none⟩) 1 1] 33)):=by
  have g1:Grows v1 (((v1.alloc (.cells #[I 1,I 5,I 0,I 0,I 2,I 0,I 0,I 0] 35)).alloc (.cells #[I 1,I (-7),I 0,I 0] 35)).alloc (.cells #[.slice (some ⟨v1.heap.size,0,none⟩) 2 2,.slice (some ⟨v1.heap.size+1,0,none⟩) 1 1] 33)):=⟨by show _≤(((v1.heap.push _).push _).push _).size;simp;omega,fun b hb=>by
   show (((v1.heap.push _).push _).push _)[b]? = _
   simp only[Array.getElem?_push,Array.size_push]
   repeat rw[if_neg (by omega)],rfl,rfl⟩
  have hm1:=hnew.mem
  have hnn:=hnew.new
  rw[e0] at hm1 hnn
  refine ⟨(hm1.grows g1).mem,?_,?_,?_,?_,fun b hb=>⟨hnn b hb,?_⟩,⟨?_,fun b hb=>?_,?_,?_⟩⟩
  ·obtain ⟨c,m,h⟩:=hnew.opn
   exact ⟨c,m,by rw[g1.old _ (Array.getElem?_eq_some_iff.1 h).1];exact h⟩
  ·show (((v1.heap.push _).push _).push _)[v1.heap.size]? = _
   simp only[Array.getElem?_push,Array.size_push]
   repeat first|rw[if_pos trivial]|rw[if_pos (by omega)]|rw[if_neg (by omega)]
  ·show (((v1.heap.push _).push _).push _)[v1.heap.size+1]? = _
   simp only[Array.getElem?_push,Array.size_push]
   repeat first|rw[if_pos trivial]|rw[if_pos (by omega)]|rw[if_neg (by omega)]
  ·show (((v1.heap.push _).push _).push _)[v1.heap.size+2]? = _
   simp only[Array.getElem?_push,Array.size_push]
   repeat first|rw[if_pos trivial]|rw[if_pos (by omega)]|rw[if_neg (by omega)]
  ·rcases hb with hb|rfl
   ·exact hm1.lt hb
   ·obtain ⟨c,m,h⟩:=hnew.opn
    exact (Array.getElem?_eq_some_iff.1 h).1
  ·have:=hnew.old.size;have:=g1.size;rw[e0] at *;omega
  ·rw[g1.old b (by have:=hnew.old.size;rw[e0] at this;omega),hnew.old.old b (by rw[e0];exact hb),e0]
  ·exact hnew.old.os.trans o0
  ·exact hnew.old.output.trans u0
 clear hnew hr0 hn0 e0 o0 u0 hvw hn
 unfold r512 B51 Tryd.f51 seq1 seq2
 simp only[Option.getD_some,Array.replicate_succ,Array.replicate_zero,List.push_toArray,List.append_toArray,List.nil_append,List.cons_append]
 refine Ad (Aa _ _) ?_
 refine Ag (Aa _ _) ?_
 simp only[List.size_toArray,List.length_cons,List.length_nil,Nat.reduceAdd,Nat.zero_add,List.range,List.range.loop]
 iterate 1
  (refine Ah rfl rfl (by decide) (fun d K hK=>?_)
   go_simp
   refine hK _ _ ⟨Aj (fun e he=>?_),GoesI.at ?_ d⟩
   ·have hm:=mem_listed he
    simp[go_sem, *] at hm
    try exact ⟨_,_,hm⟩
   clear hK K)
 refine B8 (L:=LV) rfl rfl (by decide) (Ba A7 extT (by kernel_rfl)) hr1 hn1 (v':=v1) (x:=.agg #[I 1,I 5,I 0,I 0]) (by go_simp) rfl (fun w2 hr2 hn2=>?_)
 refine B8 (L:=LV) rfl rfl (by decide) (Ba A7 extT (by kernel_rfl)) hr2 hn2 (v':=v1) (x:=.agg #[I 2,I 0,I 0,I 0]) (by go_simp) rfl (fun w2b hr2b hn2b=>?_)
 refine B8 (L:=LV) rfl rfl (by decide) (Ba A7 extT (by kernel_rfl)) hr2b hn2b (v':=(v1.alloc (.cells #[I 1,I 5,I 0,I 0,I 2,I 0,I 0,I 0] 35))) (x:=.slice (some ⟨v1.heap.size,0,none⟩) 2 2) (by go_simp) rfl (fun w3 hr3 hn3=>?_)
 refine B8 (L:=LV) rfl rfl (by decide) (Ba A7 extT (by kernel_rfl)) hr3 hn3 (v':=(v1.alloc (.cells #[I 1,I 5,I 0,I 0,I 2,I 0,I 0,I 0] 35))) (x:=.agg #[I 1,I (-7),I 0,I 0]) (by go_simp) rfl (fun w4 hr4 hn4=>?_)
 refine B8 (L:=LV) rfl rfl (by decide) (Ba A7 extT (by kernel_rfl)) hr4 hn4 (v':=((v1.alloc (.cells #[I 1,I 5,I 0,I 0,I 2,I 0,I 0,I 0] 35)).alloc (.cells #[I 1,I (-7),I 0,I 0] 35))) (x:=.slice (some ⟨v1.heap.size+1,0,none⟩) 1 1) (by go_simp) rfl (fun w5 hr5 hn5=>?_)
 refine B8 (L:=LV) rfl rfl (by decide) (Ba A7 extT (by kernel_rfl)) hr5 hn5 (v':=(((v1.alloc (.cells #[I 1,I 5,I 0,I 0,I 2,I 0,I 0,I 0] 35)).alloc (.cells #[I 1,I (-7),I 0,I 0] 35)).alloc (.cells #[.slice (some ⟨v1.heap.size,0,none⟩) 2 2,.slice (some ⟨v1.heap.size+1,0,none⟩) 1 1] 33))) (x:=.slice (some ⟨v1.heap.size+2,0,none⟩) 2 2) (by go_simp) rfl (fun w6 hr6 hn6=>?_)
 refine Bo (f:=52) (fn:=Tryd.f52) (args:=#[Pt wb 0,I 2,.slice (some ⟨v1.heap.size+2,0,none⟩) 2 2]) (Aa _ _) rfl rfl (by decide) rfl (by simp[Act.eval,Act.put]) Tryd.func52 (by decide) rfl ?_
 refine hk _ w6 wb bk sc v1.heap.size _ _ _ _ _ _ _ hr6 hn6 hset rfl (fun Ch Stop M A vv ww hvw hn hD hg=>?_)
 clear hk hset hr1 hr2 hr2b hr3 hr4 hr5 hr6 hn1 hn2 hn2b hn3 hn4 hn5 hn6
 iterate 5
  (refine Ah rfl rfl (by decide) (fun d K hK=>?_)
   go_simp
   refine hK _ _ ⟨Aj (fun e he=>?_),GoesI.at ?_ d⟩
   ·have hm:=mem_listed he
    simp[go_sem, *] at hm
    try exact ⟨_,_,hm⟩
   clear hK K)
 refine Ac (Aa _ _) ?_
 refine Fh (c:=T51) (f:=51) (fn:=Tryd.f51) (L:=LV) hE Gc hvw hn Tryd.func51 fineT51 rfl hoc (R:=fun r w'=>r=.bool true∧Grows vv w') (fun τ=>?_) (fun r v' w' hR hr' hn'=>?_)
 ·have hD':Done51 M A (Ao vv τ 0):=⟨hD.row,hD.a0,hD.a1⟩
  refine wp_mono (T51_wp (v:=Ao vv τ 0) hD' ⟨rfl,rfl,by
   intro p hp
   simp only[List.mem_cons,List.not_mem_nil,or_false] at hp
   rcases hp with rfl|rfl<;>rfl⟩) (fun e a w' hq=>⟨hq.1,?_⟩)
  obtain ⟨_,x,h1,h2,h3⟩:=hq
  exact ⟨x,h1,h2,⟨h3.size,h3.old,h3.os,h3.output⟩⟩
 ·obtain ⟨rfl,hgr⟩:=hR
  exact hg v' w' hr' hn' hgr
end Go.Proofs.YtcfmffmcammbjaaDoor.Gen
namespace Go.Proofs.YtcfmffmcammbjaaDoor.Gen
open Go Go.Lift Go.Conc Go.RowKit
open Go.ConcN (upd upd_same upd_ne)
structure Gl (w:World):Prop where
 a:∃ c t f,w.heap[6]? = some (.cells c t f)∧c[0]? = some (I 0)∧c[1]? = some (I 32)
 b:∃ c t f,w.heap[7]? = some (.cells c t f)∧c[0]? = some (I 32)∧c[1]? = some (I 30)
theorem Gl.grows {w w':World}(h:Gl w) (g:Grows w w'):Gl w':=by
 obtain ⟨c,t,f,h1,h2⟩:=h.a
 obtain ⟨c',t',f',k1,k2⟩:=h.b
 exact ⟨⟨c,t,f,by rw[g.old 6 (Array.getElem?_eq_some_iff.1 h1).1];exact h1,h2⟩,⟨c',t',f',by rw[g.old 7 (Array.getElem?_eq_some_iff.1 k1).1];exact k1,k2⟩⟩
def glP (w:World):Nat->Option Obj:=fun b=>if b=6∨b=7 then w.heap[b]? else none
theorem glP_in {w:World}{b:Nat}(h:glP w b≠none):b=6∨b=7:=by
 unfold glP at h
 split at h
 ·assumption
 ·exact absurd rfl h
theorem glP_gf {w:World}(h:Gl w):GF (glP w):=by
 obtain ⟨c,t,f,h1,h2⟩:=h.a
 obtain ⟨c',t',f',k1,k2⟩:=h.b
 exact ⟨⟨c,t,f,by unfold glP;rw[if_pos (.inl rfl)];exact h1,h2⟩,⟨c',t',f',by unfold glP;rw[if_pos (.inr rfl)];exact k1,k2⟩⟩
theorem glP_has (w:World):Has (glP w) w:=fun b o hb=>by
 unfold glP at hb
 split at hb
 ·exact hb
 ·cases hb
theorem glP_row {w:World}(h:Gl w):∀ b o,glP w b=some o->∃ c e f,o=.cells c e f:=fun b o hb=>by
 have hw:=glP_has w b o hb
 rcases glP_in (by rw[hb];simp) with rfl|rfl
 ·obtain ⟨c,t,f,h1,_⟩:=h.a
  rw[h1] at hw;cases hw;exact ⟨_,_,_,rfl⟩
 ·obtain ⟨c,t,f,h1,_⟩:=h.b
  rw[h1] at hw;cases hw;exact ⟨_,_,_,rfl⟩
theorem Gl.lt {w:World}(h:Gl w):7<w.heap.size:=by
 obtain ⟨c,t,f,h1,_⟩:=h.b
 exact (Array.getElem?_eq_some_iff.1 h1).1
abbrev pcW (c j:Nat):Option Addr:=some ⟨c+j,0,none⟩
section
variable {wb bk base:Nat}{sc cv:Value}{cb0 cb1:Nat}{l0:Nat->Ph}
theorem hires_ctr {caps:Array Value}{pk:Nat->Option Obj}{N c:Nat}{S1:TS}{l1:Nat->Ph}(h:Hires (mcC 2) 0 (scrs (mcC 2) 86 caps pk N 2 [(cb0,0),(cb1,0)] (pcW c) lnW lnW (fun j=>c+j) clW) (awST wb bk base sc cv 2) l0 S1 l1) :
 ∃ tv0 tb0 gc0 tv1 tb1 gc1,(⟨S1,[(cb0,0),(cb1,0)],l1⟩:PSt)=awPT wb bk base sc cv tv0 tb0 gc0 tv1 tb1 gc1 cb0 cb1 l0:=by
 have e:(scrs (mcC 2) 86 caps pk N 2 [(cb0,0),(cb1,0)] (pcW c) lnW lnW (fun j=>c+j) clW)=[Hv (mcC 2) 86 caps pk N 2 [cb0,cb1] (pcW c) lnW lnW (fun j=>c+j) clW 0,Hv (mcC 2) 86 caps pk N 2 [cb0,cb1] (pcW c) lnW lnW (fun j=>c+j) clW 1]:=rfl
 rw[e] at h
 cases h with
 |cons tv0 tb0 gc0 h =>
  cases h with
  |cons tv1 tb1 gc1 h =>
   cases h
   exact ⟨tv0,tb0,gc0,tv1,tb1,gc1,rfl⟩
end
theorem asked51 {v u:World}{wb bk:Nat}{sc:Value}{c:Nat}(s:Set51 v wb bk sc c u):Asked u (newS wb bk v.heap.size sc []) 2 (c+2) 0 (pcW c) lnW lnW (fun j=>c+j) clW:=by
 have two:∀ {j},j<2->j=0∨j=1:=fun h=>by omega
 refine ⟨fun j hj=>by rcases two hj with rfl|rfl<;>exact ⟨rfl,by decide⟩,fun k hk=>?_,fun h=>by have:=(s.own _ (.inl h)).2;omega,fun j hj _=>⟨rfl,fun h=>by have:=(s.own _ (.inl h)).2;omega⟩,fun j hj k x hx=>?_,fun j hj x hx=>?_⟩
 ·rcases two hk with rfl|rfl<;>exact cell_of s.scr rfl
 ·rcases two hj with rfl|rfl
  ·match k,hx with
   |0,hx=>cases hx;exact ⟨cell_of s.c0 rfl,cell_of s.c0 rfl,cell_of s.c0 rfl,cell_of s.c0 rfl⟩
   |1,hx=>cases hx;exact ⟨cell_of s.c0 rfl,cell_of s.c0 rfl,cell_of s.c0 rfl,cell_of s.c0 rfl⟩
   |k+2,hx=>simp[clW] at hx
  ·match k,hx with
   |0,hx=>cases hx;exact ⟨cell_of s.c1 rfl,cell_of s.c1 rfl,cell_of s.c1 rfl,cell_of s.c1 rfl⟩
   |k+1,hx=>simp[clW] at hx
 ·rcases two hj with rfl|rfl
  ·simp[clW] at hx
   rcases hx with rfl|rfl<;>decide
  ·simp[clW] at hx
   subst hx
   decide
theorem K_two {K:List (Nat×Int)}(hK:K.map (·.2)=List.replicate 2 0):∃ cb0 cb1,K=[(cb0,0),(cb1,0)]:=by
 match K,hK with
 | [(a,x),(b,y)],hK =>
  simp[List.replicate] at hK
  obtain ⟨rfl,rfl⟩:=hK
  exact ⟨a,b,rfl⟩
 | [],hK=>simp at hK
 | [x],hK=>simp[List.replicate] at hK
 |x :: y :: z :: l,hK=>simp[List.replicate] at hK
theorem cawake_all {cs:List Frame}{bc:Frame}{ac:Act}{ops:Array Oper}{q0:Nat}{rest:List Nat}{oc:Oper}{k0:List Item}(hoc:ops[q0]? = some oc) {w:World}{T:Trace}{gs:Array Goroutine}{q:Nat->Nat}(sl:Option (Nat×Nat)) (A:Alone gs w T q) (hGl:Gl w)
 (hg:gs[0]? = some (G ((base 51).at { tmps:=Array.replicate 28 undef,defers:=[] } [.code B51]) (bc.at ac (.inRegion ops (q0 :: rest) :: k0) :: cs))) :
 ∃ (N':Nat) (gs':Array Goroutine) (w':World) (sl':Option (Nat×Nat)) (T':Trace) (q':Nat->Nat),
   runNT Tryd.prog N' (crowd gs w sl) T=(.next (crowd gs' w' sl'),T')∧gs'[0]? = some (G (bc.at (ac.put oc.dst (.bool true)) (.inRegion ops rest :: k0)) cs)∧Alone gs' w' T' q'∧Grows w w':=by
 have hG:GoesI Tryd.prog true (DT (ScZ zn) (fun _=>False)) (fun g w'=>∃ (wb bk:Nat) (sc:Value) (c:Nat) (bd:Frame) (ad:Act) (od:Array Oper) (qd:Nat) (rd:List Nat) (oe:Oper) (kd:List Item),Set51 w wb bk sc c w'∧od[qd]? = some oe ∧
  (∀ (Ch:Nat->Prop) (Stop:Goroutine->World->Prop) (M:Nat) (A:Nat->Nat) (v w:World),Rel zn v w->Ak Ch v->Done51 M A v->(∀ v' w',Rel zn v' w'->Ak Ch v'->Grows v v'->GoesI Tryd.prog true (DT (ScZ zn) Ch) Stop (G (bc.at (ac.put oc.dst (.bool true)) (.inRegion ops rest :: k0)) cs) w')->GoesI Tryd.prog true (DT (ScZ zn) Ch) Stop (G (bd.at (ad.put oe.dst (.tuple #[.slice (some ⟨M,0,none⟩) 2 2,I 0])) (.inRegion od rd :: kd)) (bc.at ac (.inRegion ops (q0 :: rest) :: k0) :: cs)) w) ∧
  g=G ((base 52).at { tmps:=#[Pt wb 0,I 2,.slice (some ⟨c+2,0,none⟩) 2 2]++Array.replicate 25 undef,defers:=[] } [.code B52]) (bd.at ad (.inRegion od (qd :: rd) :: kd) :: bc.at ac (.inRegion ops (q0 :: rest) :: k0) :: cs)) (G ((base 51).at { tmps:=Array.replicate 28 undef,defers:=[] } [.code B51]) (bc.at ac (.inRegion ops (q0 :: rest) :: k0) :: cs)) w :=
  cawake_in cs hoc (Rel.refl w) (fun c hc=>hc.elim) (fun v' w' wb bk sc c bd ad od qd rd oe kd hr hn hset ho hback=>GoesI.stop fun d=>⟨wb,bk,sc,c,bd,ad,od,qd,rd,oe,kd,hset.same hr.eq hr.os hr.output,ho,hback,rfl⟩)
 obtain ⟨N1,gs1,a1,w1,sl1,T1,q1,r1,z1,h1,⟨wb,bk,sc,c,bd,ad,od,qd,rd,oe,kd,s,hoe,hback,rfl⟩,A1⟩:=Cy A hg sl hG
 have l0:Nat->Ph:=fun _=>.done []
 have hGl1:=hGl.grows s.old
 have h7:=hGl.lt
 have hpf:∀ b,glP w1 b≠none->¬ Own (newS wb bk w.heap.size sc []) [] b∧b≠(newS wb bk w.heap.size sc []).bk:=fun b hb=>by
  have hb':=glP_in hb
  exact ⟨fun h=>by have:=(s.own b (.inl h)).1;omega,fun h=>by have:=(s.own b (.inr h)).1;omega⟩
 obtain ⟨N2,gs2,w2,sl2,T2,q2,caps,pk,N,cv,K,S',S1,l1,m,p',r2,z2,h2,A2,hK,hnv,hH,hT,O⟩:=cplay_all 2 (by decide) (by decide) (S:=newS wb bk w.heap.size sc []) (n:=2) (sb:=c+2) (so:=0) (cap:=2) (pc:=pcW c) (ln:=lnW) (cp:=lnW) (rb:=fun j=>c+j) (cl:=clW) hoe sl1 8 A1 h1 s.mem rfl rfl rfl s.opn (glP_gf hGl1) (glP_has w1) hpf (glP_row hGl1) (asked51 s) (by decide) (fun caps pk N K=>by show 0+2*(2+(1+0))≤1000000;decide) (by show 0≤4611686018427387904;decide) (by show ∀ x∈([]:List Int),_;simp) l0 (fun caps pk N cv K hK S1 l1 hH=>by
  obtain ⟨cb0,cb1,rfl⟩:=K_two hK
  obtain ⟨tv0,tb0,gc0,tv1,tb1,gc1,e⟩:=hires_ctr (wb:=wb) (bk:=bk) (base:=w.heap.size) (sc:=sc) (cv:=cv) hH
  exact ⟨8,_,Nat.le_refl _,by rw[e];exact turns_of 8 _ (awt_runs wb bk _ sc cv tv0 tb0 gc0 tv1 tb1 gc1 cb0 cb1 l0),by rw[awt_n];decide⟩)
 obtain ⟨cb0,cb1,rfl⟩:=K_two hK
 obtain ⟨tv0,tb0,gc0,tv1,tb1,gc1,e⟩:=hires_ctr (wb:=wb) (bk:=bk) (base:=w.heap.size) (sc:=sc) (cv:=cv) hH
 have hT':Turns (mcC 2) m (⟨S1,[(cb0,0),(cb1,0)],l1⟩:PSt) p':=hT
 rw[e] at hT'
 have hp:=turns_det hT' (turns_of 8 _ (awt_runs wb bk w.heap.size sc cv tv0 tb0 gc0 tv1 tb1 gc1 cb0 cb1 l0))
 have hans:=awt_ans wb bk w.heap.size sc cv tv0 tb0 gc0 tv1 tb1 gc1 cb0 cb1 l0
 rw[←hp] at hans
 have a0:=(O.ans 0 (by decide)).2.1 (by decide)
 have a1:=(O.ans 1 (by decide)).2.1 (by decide)
 rw[hans.1] at a0
 rw[hans.2] at a1
 have hD:Done51 (N+1) (fun k=>N+4+3*k+2) w2:=⟨fun k hk=>O.rows k hk,a0,a1⟩
 obtain ⟨N3,gs3,a3,w3,sl3,T3,q3,r3,z3,h3,⟨rfl,hg3⟩,A3⟩:=Cy A2 h2 sl2 (hback (fun _=>False) (fun g w'=>g=G (bc.at (ac.put oc.dst (.bool true)) (.inRegion ops rest :: k0)) cs∧Grows w2 w') (N+1) _ w2 w2 (Rel.refl w2) (fun c hc=>hc.elim) hD (fun v' w' hr hn hgr=>GoesI.stop fun d=>⟨rfl,hgr.toAt hr d⟩))
 refine ⟨N1+N2+N3,gs3,w3,sl3,T3,q3,runNT_then (runNT_then r1 r2) r3,h3,A3,⟨by have:=s.old.size;have:=O.size;have:=hg3.size;omega,fun b hb=>?_,hg3.os.trans (O.os.trans s.old.os),hg3.output.trans (O.out.trans s.old.output)⟩⟩
 have hs1:=s.old.size
 have hno:¬ (Own (newS wb bk w.heap.size sc []) [] b∨b=bk):=fun h=>by have:=(s.own b h).1;omega
 have h5:=O.old b (by omega) (fun h=>hno (.inl h)) (fun h=>hno (.inr h))
 rw[hg3.old b (by have:=O.size;omega),h5.1,s.old.old b hb]
end Go.Proofs.YtcfmffmcammbjaaDoor.Gen
