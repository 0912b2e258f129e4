/- CounterAlone, whatever the shards, the numbers and the ids: a counter of no world, added to by free threads; behind each Add its Sum is the sum of the shards' amounts, each within 32 bits with a sign. No conditions. Part 21 of 21. (Joined, by program, and written short, of: CtAw2, CtAw3, La15e, GIns, GOpens, GRowL, La15Row, La15Card.) -/
import Derived.Test.YtfjjoohflcchnaaDoorCounterAlone13
import Derived.Test.YtfjjoohflcchnaaDoorCounterAlone19
import Derived.Test.YtfjjoohflcchnaaDoorCounterAlone20
import Derived.Conc.LeavingOf
import Derived.ProofKit
import Derived.OpenShut
import Derived.ChangeOld
import Derived.SizedLaws
import Derived.Lib.SmallJoins
import Derived.Deep.SlicePairs
import Derived.Test.YtfjjoohflcchnaaDoorRows
import Derived.LaidLaws
import Derived.LaidHandle
import Derived.Lay
import Derived.Test.YtfjjoohflcchnaaDoorTie
import Derived.Test.YtfjjoohflcchnaaDoorCards
import Derived.SevenTiedAt
set_option linter.unusedSimpArgs false
set_option linter.unusedVariables false
set_option maxHeartbeats 4000000
set_option maxRecDepth 100000
namespace Go.Proofs.YtfjjoohflcchnaaDoor.Gen
open Go Go.Lift Go.Conc Go.RowKit
noncomputable def B51:Code:=Tryd.f51.body.getD .skip
noncomputable def b510:Code:=seq1 B51
noncomputable def b511:Code:=seq1 (seq2 B51)
noncomputable def r512:Code:=seq1 (seq2 (seq2 B51))
noncomputable def T51:Code:=seq2 (seq2 (seq2 B51))
theorem eB51:B51=.seq b510 (.seq b511 (.seq r512 T51)):=by kernel_rfl
theorem fine510:fineCode Tryd.prog true LV b510:=fineCode_askS callV extT (by kernel_rfl)
theorem fine511:fineCode Tryd.prog true LV b511:=fineCode_askS callV extT (by kernel_rfl)
theorem fineT51:fineCode Tryd.prog true LV T51:=fineCode_askS callV extT (by kernel_rfl)
theorem b510_wp {v:World} :
 b510.wp Tryd.prog (fun e a w'=>e=.normal∧a={ tmps:=#[.bool false]++Array.replicate 27 undef,defers:=[] }∧w'.heap=v.heap∧w'.os=v.os∧w'.output=v.output)
  { tmps:=Array.replicate 28 undef,defers:=[] } v:=by
 show Code.wp Tryd.prog (seq1 (Tryd.f51.body.getD .skip)) _ _ _
 unfold Tryd.f51 seq1
 simp only [Option.getD_some,Array.replicate_succ,Array.replicate_zero,List.push_toArray,List.append_toArray,List.nil_append,List.cons_append]
 go_wp2_with fail
 try exact ⟨rfl,rfl,rfl⟩
theorem b511_wp {v:World} :
 b511.wp Tryd.prog (fun e a w'=>e=.normal∧∃ wb bk sc,a={ tmps:=#[.bool false,Pt wb 0,undef,undef,Pt wb 0]++Array.replicate 23 undef,defers:=[] }∧IsNew v [] wb bk sc w')
  { tmps:=#[.bool false]++Array.replicate 27 undef,defers:=[] } v:=by
 have H7:Hid (Calls Tryd.prog 17 #[.slice none 0 0] v _):=⟨(body70 (v:=v) none 0).calls Tryd.func17 rfl⟩
 show Code.wp Tryd.prog (seq1 (seq2 (Tryd.f51.body.getD .skip))) _ _ _
 unfold Tryd.f51 seq1 seq2
 simp only [Option.getD_some,Array.replicate_succ,Array.replicate_zero,List.push_toArray,List.append_toArray,List.nil_append,List.cons_append]
 go_wp2_with (first
  |(go_at_call 17;refine H7.out.mono ?_;rintro e w1 ⟨_,rfl,wb,bk,sc,rfl,hnew⟩))
 exact ⟨bk,sc,hnew⟩
structure Done51 (M:Nat) (A:Nat→Nat) (u:World):Prop where
 row:∀ k,k<2→u.cell? ⟨M,k,none⟩=some (.slice (some ⟨A k,0,none⟩) (lnW k) (lnW k))
 a0:u.heap[A 0]? = some (.cells #[I 0,I 0,I 0,I (-2)] 38)
 a1:u.heap[A 1]? = some (.cells #[I 0,I 0] 38)
def exW (k j:Nat):Int:=if k=0∧j=1 then -2 else 0
theorem same51 {v:World} {M:Nat} {A:Nat→Nat} (h:Done51 M A v):Calls Tryd.prog 58 #[.slice (some ⟨M,0,none⟩) 2 2,.slice (some ⟨v.heap.size+2,0,none⟩) 2 2] (((v.alloc (.cells #[I 0,I 0,I 0,I (-2)] 38)).alloc (.cells #[I 0,I 0] 38)).alloc (.cells #[.slice (some ⟨v.heap.size,0,none⟩) 2 2,.slice (some ⟨v.heap.size+1,0,none⟩) 1 1] 31)) (fun e w'=>e=.returned (.bool true)∧w'.heap=(((v.alloc (.cells #[I 0,I 0,I 0,I (-2)] 38)).alloc (.cells #[I 0,I 0] 38)).alloc (.cells #[.slice (some ⟨v.heap.size,0,none⟩) 2 2,.slice (some ⟨v.heap.size+1,0,none⟩) 1 1] 31)).heap∧w'.os=v.os∧w'.output=v.output):=by
 have old:∀ b,b<v.heap.size→(((v.alloc (.cells #[I 0,I 0,I 0,I (-2)] 38)).alloc (.cells #[I 0,I 0] 38)).alloc (.cells #[.slice (some ⟨v.heap.size,0,none⟩) 2 2,.slice (some ⟨v.heap.size+1,0,none⟩) 1 1] 31)).heap[b]? = v.heap[b]?:=fun b hb=>by
  show (((v.heap.push _).push _).push _)[b]? = _
  simp only [Array.getElem?_push,Array.size_push]
  repeat rw [if_neg (by omega)]
 have n0:(((v.alloc (.cells #[I 0,I 0,I 0,I (-2)] 38)).alloc (.cells #[I 0,I 0] 38)).alloc (.cells #[.slice (some ⟨v.heap.size,0,none⟩) 2 2,.slice (some ⟨v.heap.size+1,0,none⟩) 1 1] 31)).heap[v.heap.size]? = some (.cells #[I 0,I 0,I 0,I (-2)] 38):=by
  show (((v.heap.push _).push _).push _)[v.heap.size]? = _
  simp only [Array.getElem?_push,Array.size_push]
  repeat first|rw [if_pos trivial]|rw [if_pos (by omega)]|rw [if_neg (by omega)]
 have n1:(((v.alloc (.cells #[I 0,I 0,I 0,I (-2)] 38)).alloc (.cells #[I 0,I 0] 38)).alloc (.cells #[.slice (some ⟨v.heap.size,0,none⟩) 2 2,.slice (some ⟨v.heap.size+1,0,none⟩) 1 1] 31)).heap[v.heap.size+1]? = some (.cells #[I 0,I 0] 38):=by
  show (((v.heap.push _).push _).push _)[v.heap.size+1]? = _
  simp only [Array.getElem?_push,Array.size_push]
  repeat first|rw [if_pos trivial]|rw [if_pos (by omega)]|rw [if_neg (by omega)]
 have n2:(((v.alloc (.cells #[I 0,I 0,I 0,I (-2)] 38)).alloc (.cells #[I 0,I 0] 38)).alloc (.cells #[.slice (some ⟨v.heap.size,0,none⟩) 2 2,.slice (some ⟨v.heap.size+1,0,none⟩) 1 1] 31)).heap[v.heap.size+2]? = some (.cells #[.slice (some ⟨v.heap.size,0,none⟩) 2 2,.slice (some ⟨v.heap.size+1,0,none⟩) 1 1] 31):=by
  show (((v.heap.push _).push _).push _)[v.heap.size+2]? = _
  simp only [Array.getElem?_push,Array.size_push]
  repeat first|rw [if_pos trivial]|rw [if_pos (by omega)]|rw [if_neg (by omega)]
 have hb:=body58 (v:=(((v.alloc (.cells #[I 0,I 0,I 0,I (-2)] 38)).alloc (.cells #[I 0,I 0] 38)).alloc (.cells #[.slice (some ⟨v.heap.size,0,none⟩) 2 2,.slice (some ⟨v.heap.size+1,0,none⟩) 1 1] 31))) M (v.heap.size+2) 2 2 2 (A:=A) (B:=fun k=>v.heap.size+k) (ca:=lnW) (cb:=lnW) (ln:=lnW) (e:=fun _ _=>0) (x:=exW) ⟨fun k hk=>?_,fun k hk j hj=>?_⟩ ⟨fun k hk=>?_,fun k hk j hj=>?_⟩ (by decide) (fun k hk=>by unfold lnW;split<;>decide)
 ·refine (hb.calls Tryd.func58 rfl).mono ?_
  rintro e w' ⟨r,rfl,rfl,h1,h2,h3⟩
  exact ⟨rfl,h1,h2,h3⟩
 ·have:=h.row k hk
  rw [World.cell?_of_block (w:=v) (w':=(((v.alloc (.cells #[I 0,I 0,I 0,I (-2)] 38)).alloc (.cells #[I 0,I 0] 38)).alloc (.cells #[.slice (some ⟨v.heap.size,0,none⟩) 2 2,.slice (some ⟨v.heap.size+1,0,none⟩) 1 1] 31))) (old M (World.block_lt_of_cell? _ _ this))]
  exact this
 ·have:k=0∨k=1:=by omega
  rcases this with rfl|rfl
  ·have h2:(((v.alloc (.cells #[I 0,I 0,I 0,I (-2)] 38)).alloc (.cells #[I 0,I 0] 38)).alloc (.cells #[.slice (some ⟨v.heap.size,0,none⟩) 2 2,.slice (some ⟨v.heap.size+1,0,none⟩) 1 1] 31)).heap[A 0]? = some (.cells #[I 0,I 0,I 0,I (-2)] 38):=by rw [old _ (Array.getElem?_eq_some_iff.1 h.a0).1];exact h.a0
   have:j=0∨j=1:=by simp [lnW] at hj;omega
   rcases this with rfl|rfl<;>exact ⟨cell_of h2 rfl,cell_of h2 rfl⟩
  ·have h2:(((v.alloc (.cells #[I 0,I 0,I 0,I (-2)] 38)).alloc (.cells #[I 0,I 0] 38)).alloc (.cells #[.slice (some ⟨v.heap.size,0,none⟩) 2 2,.slice (some ⟨v.heap.size+1,0,none⟩) 1 1] 31)).heap[A 1]? = some (.cells #[I 0,I 0] 38):=by rw [old _ (Array.getElem?_eq_some_iff.1 h.a1).1];exact h.a1
   obtain rfl:j=0:=by simp [lnW] at hj;omega
   exact ⟨cell_of h2 rfl,cell_of h2 rfl⟩
 ·have:k=0∨k=1:=by omega
  rcases this with rfl|rfl<;>exact cell_of n2 rfl
 ·have:k=0∨k=1:=by omega
  rcases this with rfl|rfl
  ·have:j=0∨j=1:=by simp [lnW] at hj;omega
   rcases this with rfl|rfl<;>exact ⟨cell_of n0 rfl,cell_of n0 rfl⟩
  ·obtain rfl:j=0:=by simp [lnW] at hj;omega
   exact ⟨cell_of n1 rfl,cell_of n1 rfl⟩
theorem T51_wp {v:World} {M:Nat} {A:Nat→Nat} (h:Done51 M A v) {a:Act} (hA:Fl 28 [(2,.slice (some ⟨M,0,none⟩) 2 2),(3,I 0)] a) :
 T51.wp Tryd.prog (fun e a w'=>e=.ret∧∃ x,(results Tryd.f51 a.tmps).run Tryd.prog w'=.ok x w'∧x=.bool true∧Grows v w') a v:=by
 have g3:Grows v (((v.alloc (.cells #[I 0,I 0,I 0,I (-2)] 38)).alloc (.cells #[I 0,I 0] 38)).alloc (.cells #[.slice (some ⟨v.heap.size,0,none⟩) 2 2,.slice (some ⟨v.heap.size+1,0,none⟩) 1 1] 31)):=⟨by show _≤(((v.heap.push _).push _).push _).size;simp;omega,fun b hb=>by
  show (((v.heap.push _).push _).push _)[b]? = _
  simp only [Array.getElem?_push,Array.size_push]
  repeat rw [if_neg (by omega)],rfl,rfl⟩
 have H1:Hid (Calls Tryd.prog 58 #[.slice (some ⟨M,0,none⟩) 2 2,.slice (some ⟨v.heap.size+2,0,none⟩) 2 2] (((v.alloc (.cells #[I 0,I 0,I 0,I (-2)] 38)).alloc (.cells #[I 0,I 0] 38)).alloc (.cells #[.slice (some ⟨v.heap.size,0,none⟩) 2 2,.slice (some ⟨v.heap.size+1,0,none⟩) 1 1] 31)) (fun e w1=>e=.returned (.bool true)∧Hid (Grows v w1))):=⟨(same51 h).mono (by
  rintro e w1 ⟨rfl,h1,h2,h3⟩
  exact ⟨rfl,⟨by rw [h1];exact g3.size,fun b hb=>by rw [h1];exact g3.old b hb,h2,h3⟩⟩)⟩
 clear h g3
 obtain ⟨hsz,hd,hpp⟩:=hA
 obtain ⟨u,rfl,hg⟩:=litN hsz hd
 have u2:=(hg 2).symm.trans (hpp (2,.slice (some ⟨M,0,none⟩) 2 2) (by simp))
 have u3:=(hg 3).symm.trans (hpp (3,I 0) (by simp))
 clear hg hpp hsz hd
 unfold T51 B51 Tryd.f51 seq2
 simp only [Option.getD_some,lits,Nat.reduceAdd,u2,u3]
 clear u2 u3
 go_wp2_with (first
  |(go_at_call 58;refine H1.out.mono ?_;rintro e w1 ⟨rfl,H2⟩))
 exact ⟨_,results_tmp (t:=0) rfl _ _ _,rfl,H2.out⟩
structure Set51 (v:World) (wb bk:Nat) (sc:Value) (c:Nat) (u:World):Prop where
 mem:Mem zn (newS wb bk v.heap.size sc []) [] u
 opn:Open u bk
 c0:u.heap[c]? = some (.cells #[I 1,I 5,I 0,I 0,I 2,I 0,I 0,I 0] 35)
 c1:u.heap[c+1]? = some (.cells #[I 1,I (-7),I 0,I 0] 35)
 scr:u.heap[c+2]? = some (.cells #[.slice (some ⟨c,0,none⟩) 2 2,.slice (some ⟨c+1,0,none⟩) 1 1] 33)
 own:∀ b,Own (newS wb bk v.heap.size sc []) [] b∨b=bk→v.heap.size≤b∧b<c
 old:Grows v u
theorem Set51.same {v:World} {wb bk:Nat} {sc:Value} {c:Nat} {u u':World} (h:Set51 v wb bk sc c u) (e:u'.heap=u.heap) (e1:u'.os=u.os) (e2:u'.output=u.output):Set51 v wb bk sc c u':=by
 have g:Grows u u':=⟨by rw [e];exact Nat.le_refl _,fun b _=>by rw [e],e1,e2⟩
 refine ⟨(h.mem.grows g).mem,?_,by rw [e];exact h.c0,by rw [e];exact h.c1,by rw [e];exact h.scr,h.own,⟨by rw [e];exact h.old.size,fun b hb=>by rw [e];exact h.old.old b hb,e1.trans h.old.os,e2.trans h.old.output⟩⟩
 obtain ⟨c,m,hh⟩:=h.opn
 exact ⟨c,m,by rw [e];exact hh⟩
theorem cawake_in {Ch:Nat→Prop} {Stop:Goroutine→World→Prop} {main:Bool} {v w:World} (cs:List Frame) {bc:Frame} {ac:Act} {ops:Array Oper} {q:Nat} {rest:List Nat} {oc:Oper} {k:List Item} (hoc:ops[q]? = some oc)
 (hvw:Rel zn v w) (hn:NoRow Ch v)
 (hk:∀ v' w' (wb bk:Nat) (sc:Value) (c:Nat) (bd:Frame) (ad:Act) (od:Array Oper) (qd:Nat) (rd:List Nat) (oe:Oper) (kd:List Item),Rel zn v' w'→NoRow Ch v'→Set51 v wb bk sc c v'→od[qd]? = some oe →
   (∀ (Ch:Nat→Prop) (Stop:Goroutine→World→Prop) (M:Nat) (A:Nat→Nat) (v w:World),Rel zn v w→NoRow Ch v→Done51 M A v→(∀ v' w',Rel zn v' w'→NoRow Ch v'→Grows v v'→GoesI Tryd.prog main (DT (ScZ zn) Ch) Stop (G (bc.at (ac.put oc.dst (.bool true)) (.inRegion ops rest :: k)) cs) w')→GoesI Tryd.prog main (DT (ScZ zn) Ch) Stop (G (bd.at (ad.put oe.dst (.tuple #[.slice (some ⟨M,0,none⟩) 2 2,I 0])) (.inRegion od rd :: kd)) (bc.at ac (.inRegion ops (q :: rest) :: k) :: cs)) w) →
   GoesI Tryd.prog main (DT (ScZ zn) Ch) Stop (G ((base 52).at { tmps:=#[Pt wb 0,I 2,.slice (some ⟨c+2,0,none⟩) 2 2]++Array.replicate 25 undef,defers:=[] } [.code B52]) (bd.at ad (.inRegion od (qd :: rd) :: kd) :: bc.at ac (.inRegion ops (q :: rest) :: k) :: cs)) w') :
 GoesI Tryd.prog main (DT (ScZ zn) Ch) Stop (G ((base 51).at { tmps:=Array.replicate 28 undef,defers:=[] } [.code B51]) (bc.at ac (.inRegion ops (q :: rest) :: k) :: cs)) w:=by
 rw [eB51]
 refine goesI_seq (dt_idle _ _) ?_
 refine goesI_plain (z:=zn) (wr:=true) (L:=LV) (I:=NoRow Ch) hE fineV noRow_keeps (fun v v' w w' es hi hr ho he=>dt_of_z v v' w w' es hi hr ho he) hvw fine510 rfl (by simp [base]) hn
  (Q:=fun a w'=>a={ tmps:=#[.bool false]++Array.replicate 27 undef,defers:=[] }∧w'.heap=v.heap∧w'.os=v.os∧w'.output=v.output) (fun τ=>b510_wp (v:=onTape v τ 0)) ?_
 rintro a0 v0 w0 ⟨rfl,e0,o0,u0⟩ hr0 hn0 -
 refine goesI_seq (dt_idle _ _) ?_
 refine goesI_plain (z:=zn) (wr:=true) (L:=LV) (I:=NoRow Ch) hE fineV noRow_keeps (fun v v' w w' es hi hr ho he=>dt_of_z v v' w w' es hi hr ho he) hr0 fine511 rfl (by simp [base]) hn0
  (Q:=fun a w'=>∃ wb bk sc,a={ tmps:=#[.bool false,Pt wb 0,undef,undef,Pt wb 0]++Array.replicate 23 undef,defers:=[] }∧IsNew v0 [] wb bk sc w') (fun τ=>?_) ?_
 ·refine wp_mono (b511_wp (v:=onTape v0 τ 0)) (fun e a w' hq=>⟨hq.1,?_⟩)
  obtain ⟨_,wb,bk,sc,h1,h2⟩:=hq
  exact ⟨wb,bk,sc,h1,⟨h2.mem,h2.opn,h2.new,⟨h2.old.size,h2.old.old,h2.old.os,h2.old.output⟩⟩⟩
 rintro a1 v1 w1 ⟨wb,bk,sc,rfl,hnew⟩ hr1 hn1 -
 have hset:Set51 v wb bk sc v1.heap.size (((v1.alloc (.cells #[I 1,I 5,I 0,I 0,I 2,I 0,I 0,I 0] 35)).alloc (.cells #[I 1,I (-7),I 0,I 0] 35)).alloc (.cells #[.slice (some ⟨v1.heap.size,0,none⟩) 2 2,.slice (some ⟨v1.heap.size+1,0,none⟩) 1 1] 33)):=by
  have g1:Grows v1 (((v1.alloc (.cells #[I 1,I 5,I 0,I 0,I 2,I 0,I 0,I 0] 35)).alloc (.cells #[I 1,I (-7),I 0,I 0] 35)).alloc (.cells #[.slice (some ⟨v1.heap.size,0,none⟩) 2 2,.slice (some ⟨v1.heap.size+1,0,none⟩) 1 1] 33)):=⟨by show _≤(((v1.heap.push _).push _).push _).size;simp;omega,fun b hb=>by
   show (((v1.heap.push _).push _).push _)[b]? = _
   simp only [Array.getElem?_push,Array.size_push]
   repeat rw [if_neg (by omega)],rfl,rfl⟩
  have hm1:=hnew.mem
  have hnn:=hnew.new
  rw [e0] at hm1 hnn
  refine ⟨(hm1.grows g1).mem,?_,?_,?_,?_,fun b hb=>⟨hnn b hb,?_⟩,⟨?_,fun b hb=>?_,?_,?_⟩⟩
  ·obtain ⟨c,m,h⟩:=hnew.opn
   exact ⟨c,m,by rw [g1.old _ (Array.getElem?_eq_some_iff.1 h).1];exact h⟩
  ·show (((v1.heap.push _).push _).push _)[v1.heap.size]? = _
   simp only [Array.getElem?_push,Array.size_push]
   repeat first|rw [if_pos trivial]|rw [if_pos (by omega)]|rw [if_neg (by omega)]
  ·show (((v1.heap.push _).push _).push _)[v1.heap.size+1]? = _
   simp only [Array.getElem?_push,Array.size_push]
   repeat first|rw [if_pos trivial]|rw [if_pos (by omega)]|rw [if_neg (by omega)]
  ·show (((v1.heap.push _).push _).push _)[v1.heap.size+2]? = _
   simp only [Array.getElem?_push,Array.size_push]
   repeat first|rw [if_pos trivial]|rw [if_pos (by omega)]|rw [if_neg (by omega)]
  ·rcases hb with hb|rfl
   ·exact hm1.lt hb
   ·obtain ⟨c,m,h⟩:=hnew.opn
    exact (Array.getElem?_eq_some_iff.1 h).1
  ·have:=hnew.old.size;have:=g1.size;rw [e0] at *;omega
  ·rw [g1.old b (by have:=hnew.old.size;rw [e0] at this;omega),hnew.old.old b (by rw [e0];exact hb),e0]
  ·exact hnew.old.os.trans o0
  ·exact hnew.old.output.trans u0
 clear hnew hr0 hn0 e0 o0 u0 hvw hn
 unfold r512 B51 Tryd.f51 seq1 seq2
 simp only [Option.getD_some,Array.replicate_succ,Array.replicate_zero,List.push_toArray,List.append_toArray,List.nil_append,List.cons_append]
 refine goesI_seq (dt_idle _ _) ?_
 refine goesI_region (dt_idle _ _) ?_
 simp only [List.size_toArray,List.length_cons,List.length_nil,Nat.reduceAdd,Nat.zero_add,List.range,List.range.loop]
 iterate 1
  (refine goesI_oper rfl rfl (by decide) (fun d K hK=>?_)
   go_simp
   refine hK _ _ ⟨dt_reads (fun e he=>?_),GoesI.at ?_ d⟩
   ·have hm:=mem_listed he
    simp [go_sem, *] at hm
    try exact ⟨_,_,hm⟩
   clear hK K)
 refine goesI_opZ (L:=LV) rfl rfl (by decide) (fineOp_ask callV extT (by kernel_rfl)) hr1 hn1 (v':=v1) (x:=.agg #[I 1,I 5,I 0,I 0]) (by go_simp) rfl (fun w2 hr2 hn2=>?_)
 refine goesI_opZ (L:=LV) rfl rfl (by decide) (fineOp_ask callV extT (by kernel_rfl)) hr2 hn2 (v':=v1) (x:=.agg #[I 2,I 0,I 0,I 0]) (by go_simp) rfl (fun w2b hr2b hn2b=>?_)
 refine goesI_opZ (L:=LV) rfl rfl (by decide) (fineOp_ask callV extT (by kernel_rfl)) hr2b hn2b (v':=(v1.alloc (.cells #[I 1,I 5,I 0,I 0,I 2,I 0,I 0,I 0] 35))) (x:=.slice (some ⟨v1.heap.size,0,none⟩) 2 2) (by go_simp) rfl (fun w3 hr3 hn3=>?_)
 refine goesI_opZ (L:=LV) rfl rfl (by decide) (fineOp_ask callV extT (by kernel_rfl)) hr3 hn3 (v':=(v1.alloc (.cells #[I 1,I 5,I 0,I 0,I 2,I 0,I 0,I 0] 35))) (x:=.agg #[I 1,I (-7),I 0,I 0]) (by go_simp) rfl (fun w4 hr4 hn4=>?_)
 refine goesI_opZ (L:=LV) rfl rfl (by decide) (fineOp_ask callV extT (by kernel_rfl)) hr4 hn4 (v':=((v1.alloc (.cells #[I 1,I 5,I 0,I 0,I 2,I 0,I 0,I 0] 35)).alloc (.cells #[I 1,I (-7),I 0,I 0] 35))) (x:=.slice (some ⟨v1.heap.size+1,0,none⟩) 1 1) (by go_simp) rfl (fun w5 hr5 hn5=>?_)
 refine goesI_opZ (L:=LV) rfl rfl (by decide) (fineOp_ask callV extT (by kernel_rfl)) hr5 hn5 (v':=(((v1.alloc (.cells #[I 1,I 5,I 0,I 0,I 2,I 0,I 0,I 0] 35)).alloc (.cells #[I 1,I (-7),I 0,I 0] 35)).alloc (.cells #[.slice (some ⟨v1.heap.size,0,none⟩) 2 2,.slice (some ⟨v1.heap.size+1,0,none⟩) 1 1] 33))) (x:=.slice (some ⟨v1.heap.size+2,0,none⟩) 2 2) (by go_simp) rfl (fun w6 hr6 hn6=>?_)
 refine goesI_into (f:=52) (fn:=Tryd.f52) (args:=#[Pt wb 0,I 2,.slice (some ⟨v1.heap.size+2,0,none⟩) 2 2]) (dt_idle _ _) rfl rfl (by decide) rfl (by simp [Act.eval,Act.put]) Tryd.func52 (by decide) rfl ?_
 refine hk _ w6 wb bk sc v1.heap.size _ _ _ _ _ _ _ hr6 hn6 hset rfl (fun Ch Stop M A vv ww hvw hn hD hg=>?_)
 clear hk hset hr1 hr2 hr2b hr3 hr4 hr5 hr6 hn1 hn2 hn2b hn3 hn4 hn5 hn6
 iterate 5
  (refine goesI_oper rfl rfl (by decide) (fun d K hK=>?_)
   go_simp
   refine hK _ _ ⟨dt_reads (fun e he=>?_),GoesI.at ?_ d⟩
   ·have hm:=mem_listed he
    simp [go_sem, *] at hm
    try exact ⟨_,_,hm⟩
   clear hK K)
 refine goesI_regionEnd (dt_idle _ _) ?_
 refine goesI_outZ (c:=T51) (f:=51) (fn:=Tryd.f51) (L:=LV) hE fineV hvw hn Tryd.func51 fineT51 rfl hoc (R:=fun r w'=>r=.bool true∧Grows vv w') (fun τ=>?_) (fun r v' w' hR hr' hn'=>?_)
 ·have hD':Done51 M A (onTape vv τ 0):=⟨hD.row,hD.a0,hD.a1⟩
  refine wp_mono (T51_wp (v:=onTape vv τ 0) hD' ⟨rfl,rfl,by
   intro p hp
   simp only [List.mem_cons,List.not_mem_nil,or_false] at hp
   rcases hp with rfl|rfl<;>rfl⟩) (fun e a w' hq=>⟨hq.1,?_⟩)
  obtain ⟨_,x,h1,h2,h3⟩:=hq
  exact ⟨x,h1,h2,⟨h3.size,h3.old,h3.os,h3.output⟩⟩
 ·obtain ⟨rfl,hgr⟩:=hR
  exact hg v' w' hr' hn' hgr
end Go.Proofs.YtfjjoohflcchnaaDoor.Gen
namespace Go.Proofs.YtfjjoohflcchnaaDoor.Gen
open Go Go.Lift Go.Conc Go.RowKit
open Go.ConcN (upd upd_same upd_ne)
structure Gl (w:World):Prop where
 a:∃ c t f,w.heap[6]? = some (.cells c t f)∧c[0]? = some (I 0)∧c[1]? = some (I 32)
 b:∃ c t f,w.heap[7]? = some (.cells c t f)∧c[0]? = some (I 32)∧c[1]? = some (I 30)
theorem Gl.grows {w w':World} (h:Gl w) (g:Grows w w'):Gl w':=by
 obtain ⟨c,t,f,h1,h2⟩:=h.a
 obtain ⟨c',t',f',k1,k2⟩:=h.b
 exact ⟨⟨c,t,f,by rw [g.old 6 (Array.getElem?_eq_some_iff.1 h1).1];exact h1,h2⟩,⟨c',t',f',by rw [g.old 7 (Array.getElem?_eq_some_iff.1 k1).1];exact k1,k2⟩⟩
def glP (w:World):Nat→Option Obj:=fun b=>if b=6∨b=7 then w.heap[b]? else none
theorem glP_in {w:World} {b:Nat} (h:glP w b≠none):b=6∨b=7:=by
 unfold glP at h
 split at h
 ·assumption
 ·exact absurd rfl h
theorem glP_gf {w:World} (h:Gl w):GF (glP w):=by
 obtain ⟨c,t,f,h1,h2⟩:=h.a
 obtain ⟨c',t',f',k1,k2⟩:=h.b
 exact ⟨⟨c,t,f,by unfold glP;rw [if_pos (.inl rfl)];exact h1,h2⟩,⟨c',t',f',by unfold glP;rw [if_pos (.inr rfl)];exact k1,k2⟩⟩
theorem glP_has (w:World):Has (glP w) w:=fun b o hb=>by
 unfold glP at hb
 split at hb
 ·exact hb
 ·cases hb
theorem glP_row {w:World} (h:Gl w):∀ b o,glP w b=some o→∃ c e f,o=.cells c e f:=fun b o hb=>by
 have hw:=glP_has w b o hb
 rcases glP_in (by rw [hb];simp) with rfl|rfl
 ·obtain ⟨c,t,f,h1,_⟩:=h.a
  rw [h1] at hw;cases hw;exact ⟨_,_,_,rfl⟩
 ·obtain ⟨c,t,f,h1,_⟩:=h.b
  rw [h1] at hw;cases hw;exact ⟨_,_,_,rfl⟩
theorem Gl.lt {w:World} (h:Gl w):7<w.heap.size:=by
 obtain ⟨c,t,f,h1,_⟩:=h.b
 exact (Array.getElem?_eq_some_iff.1 h1).1
abbrev pcW (c j:Nat):Option Addr:=some ⟨c+j,0,none⟩
section
variable {wb bk base:Nat} {sc cv:Value} {cb0 cb1:Nat} {l0:Nat→Ph}
theorem hires_ctr {caps:Array Value} {pk:Nat→Option Obj} {N c:Nat} {S1:TS} {l1:Nat→Ph} (h:Hires (mcC 2) 0 (scrs (mcC 2) 86 caps pk N 2 [(cb0,0),(cb1,0)] (pcW c) lnW lnW (fun j=>c+j) clW) (awST wb bk base sc cv 2) l0 S1 l1) :
 ∃ tv0 tb0 gc0 tv1 tb1 gc1,(⟨S1,[(cb0,0),(cb1,0)],l1⟩:PSt)=awPT wb bk base sc cv tv0 tb0 gc0 tv1 tb1 gc1 cb0 cb1 l0:=by
 have e:(scrs (mcC 2) 86 caps pk N 2 [(cb0,0),(cb1,0)] (pcW c) lnW lnW (fun j=>c+j) clW)=[scrOf (mcC 2) 86 caps pk N 2 [cb0,cb1] (pcW c) lnW lnW (fun j=>c+j) clW 0,scrOf (mcC 2) 86 caps pk N 2 [cb0,cb1] (pcW c) lnW lnW (fun j=>c+j) clW 1]:=rfl
 rw [e] at h
 cases h with
 |cons tv0 tb0 gc0 h =>
  cases h with
  |cons tv1 tb1 gc1 h =>
   cases h
   exact ⟨tv0,tb0,gc0,tv1,tb1,gc1,rfl⟩
end
theorem asked51 {v u:World} {wb bk:Nat} {sc:Value} {c:Nat} (s:Set51 v wb bk sc c u):Asked u (newS wb bk v.heap.size sc []) 2 (c+2) 0 (pcW c) lnW lnW (fun j=>c+j) clW:=by
 have two:∀ {j},j<2→j=0∨j=1:=fun h=>by omega
 refine ⟨fun j hj=>by rcases two hj with rfl|rfl<;>exact ⟨rfl,by decide⟩,fun k hk=>?_,fun h=>by have:=(s.own _ (.inl h)).2;omega,fun j hj _=>⟨rfl,fun h=>by have:=(s.own _ (.inl h)).2;omega⟩,fun j hj k x hx=>?_,fun j hj x hx=>?_⟩
 ·rcases two hk with rfl|rfl<;>exact cell_of s.scr rfl
 ·rcases two hj with rfl|rfl
  ·match k,hx with
   |0,hx=>cases hx;exact ⟨cell_of s.c0 rfl,cell_of s.c0 rfl,cell_of s.c0 rfl,cell_of s.c0 rfl⟩
   |1,hx=>cases hx;exact ⟨cell_of s.c0 rfl,cell_of s.c0 rfl,cell_of s.c0 rfl,cell_of s.c0 rfl⟩
   |k+2,hx=>simp [clW] at hx
  ·match k,hx with
   |0,hx=>cases hx;exact ⟨cell_of s.c1 rfl,cell_of s.c1 rfl,cell_of s.c1 rfl,cell_of s.c1 rfl⟩
   |k+1,hx=>simp [clW] at hx
 ·rcases two hj with rfl|rfl
  ·simp [clW] at hx
   rcases hx with rfl|rfl<;>decide
  ·simp [clW] at hx
   subst hx
   decide
theorem K_two {K:List (Nat×Int)} (hK:K.map (·.2)=List.replicate 2 0):∃ cb0 cb1,K=[(cb0,0),(cb1,0)]:=by
 match K,hK with
 | [(a,x),(b,y)],hK =>
  simp [List.replicate] at hK
  obtain ⟨rfl,rfl⟩:=hK
  exact ⟨a,b,rfl⟩
 | [],hK=>simp at hK
 | [x],hK=>simp [List.replicate] at hK
 |x :: y :: z :: l,hK=>simp [List.replicate] at hK
theorem cawake_all {cs:List Frame} {bc:Frame} {ac:Act} {ops:Array Oper} {q0:Nat} {rest:List Nat} {oc:Oper} {k0:List Item} (hoc:ops[q0]? = some oc) {w:World} {T:Trace} {gs:Array Goroutine} {q:Nat→Nat} (sl:Option (Nat×Nat)) (A:Alone gs w T q) (hGl:Gl w)
 (hg:gs[0]? = some (G ((base 51).at { tmps:=Array.replicate 28 undef,defers:=[] } [.code B51]) (bc.at ac (.inRegion ops (q0 :: rest) :: k0) :: cs))) :
 ∃ (N':Nat) (gs':Array Goroutine) (w':World) (sl':Option (Nat×Nat)) (T':Trace) (q':Nat→Nat),
   runNT Tryd.prog N' (crowd gs w sl) T=(.next (crowd gs' w' sl'),T')∧gs'[0]? = some (G (bc.at (ac.put oc.dst (.bool true)) (.inRegion ops rest :: k0)) cs)∧Alone gs' w' T' q'∧Grows w w':=by
 have hG:GoesI Tryd.prog true (DT (ScZ zn) (fun _=>False)) (fun g w'=>∃ (wb bk:Nat) (sc:Value) (c:Nat) (bd:Frame) (ad:Act) (od:Array Oper) (qd:Nat) (rd:List Nat) (oe:Oper) (kd:List Item),Set51 w wb bk sc c w'∧od[qd]? = some oe ∧
  (∀ (Ch:Nat→Prop) (Stop:Goroutine→World→Prop) (M:Nat) (A:Nat→Nat) (v w:World),Rel zn v w→NoRow Ch v→Done51 M A v→(∀ v' w',Rel zn v' w'→NoRow Ch v'→Grows v v'→GoesI Tryd.prog true (DT (ScZ zn) Ch) Stop (G (bc.at (ac.put oc.dst (.bool true)) (.inRegion ops rest :: k0)) cs) w')→GoesI Tryd.prog true (DT (ScZ zn) Ch) Stop (G (bd.at (ad.put oe.dst (.tuple #[.slice (some ⟨M,0,none⟩) 2 2,I 0])) (.inRegion od rd :: kd)) (bc.at ac (.inRegion ops (q0 :: rest) :: k0) :: cs)) w) ∧
  g=G ((base 52).at { tmps:=#[Pt wb 0,I 2,.slice (some ⟨c+2,0,none⟩) 2 2]++Array.replicate 25 undef,defers:=[] } [.code B52]) (bd.at ad (.inRegion od (qd :: rd) :: kd) :: bc.at ac (.inRegion ops (q0 :: rest) :: k0) :: cs)) (G ((base 51).at { tmps:=Array.replicate 28 undef,defers:=[] } [.code B51]) (bc.at ac (.inRegion ops (q0 :: rest) :: k0) :: cs)) w :=
  cawake_in cs hoc (Rel.refl w) (fun c hc=>hc.elim) (fun v' w' wb bk sc c bd ad od qd rd oe kd hr hn hset ho hback=>GoesI.stop fun d=>⟨wb,bk,sc,c,bd,ad,od,qd,rd,oe,kd,hset.same hr.eq hr.os hr.output,ho,hback,rfl⟩)
 obtain ⟨N1,gs1,a1,w1,sl1,T1,q1,r1,z1,h1,⟨wb,bk,sc,c,bd,ad,od,qd,rd,oe,kd,s,hoe,hback,rfl⟩,A1⟩:=alone_goes A hg sl hG
 have l0:Nat→Ph:=fun _=>.done []
 have hGl1:=hGl.grows s.old
 have h7:=hGl.lt
 have hpf:∀ b,glP w1 b≠none→¬ Own (newS wb bk w.heap.size sc []) [] b∧b≠(newS wb bk w.heap.size sc []).bk:=fun b hb=>by
  have hb':=glP_in hb
  exact ⟨fun h=>by have:=(s.own b (.inl h)).1;omega,fun h=>by have:=(s.own b (.inr h)).1;omega⟩
 obtain ⟨N2,gs2,w2,sl2,T2,q2,caps,pk,N,cv,K,S',S1,l1,m,p',r2,z2,h2,A2,hK,hnv,hH,hT,O⟩:=cplay_all 2 (by decide) (by decide) (S:=newS wb bk w.heap.size sc []) (n:=2) (sb:=c+2) (so:=0) (cap:=2) (pc:=pcW c) (ln:=lnW) (cp:=lnW) (rb:=fun j=>c+j) (cl:=clW) hoe sl1 8 A1 h1 s.mem rfl rfl rfl s.opn (glP_gf hGl1) (glP_has w1) hpf (glP_row hGl1) (asked51 s) (by decide) (fun caps pk N K=>by show 0+2*(2+(1+0))≤1000000;decide) (by show 0≤4611686018427387904;decide) (by show ∀ x∈([]:List Int),_;simp) l0 (fun caps pk N cv K hK S1 l1 hH=>by
  obtain ⟨cb0,cb1,rfl⟩:=K_two hK
  obtain ⟨tv0,tb0,gc0,tv1,tb1,gc1,e⟩:=hires_ctr (wb:=wb) (bk:=bk) (base:=w.heap.size) (sc:=sc) (cv:=cv) hH
  exact ⟨8,_,Nat.le_refl _,by rw [e];exact turns_of 8 _ (awt_runs wb bk _ sc cv tv0 tb0 gc0 tv1 tb1 gc1 cb0 cb1 l0),by rw [awt_n];decide⟩)
 obtain ⟨cb0,cb1,rfl⟩:=K_two hK
 obtain ⟨tv0,tb0,gc0,tv1,tb1,gc1,e⟩:=hires_ctr (wb:=wb) (bk:=bk) (base:=w.heap.size) (sc:=sc) (cv:=cv) hH
 have hT':Turns (mcC 2) m (⟨S1,[(cb0,0),(cb1,0)],l1⟩:PSt) p':=hT
 rw [e] at hT'
 have hp:=turns_det hT' (turns_of 8 _ (awt_runs wb bk w.heap.size sc cv tv0 tb0 gc0 tv1 tb1 gc1 cb0 cb1 l0))
 have hans:=awt_ans wb bk w.heap.size sc cv tv0 tb0 gc0 tv1 tb1 gc1 cb0 cb1 l0
 rw [←hp] at hans
 have a0:=(O.ans 0 (by decide)).2.1 (by decide)
 have a1:=(O.ans 1 (by decide)).2.1 (by decide)
 rw [hans.1] at a0
 rw [hans.2] at a1
 have hD:Done51 (N+1) (fun k=>N+4+3*k+2) w2:=⟨fun k hk=>O.rows k hk,a0,a1⟩
 obtain ⟨N3,gs3,a3,w3,sl3,T3,q3,r3,z3,h3,⟨rfl,hg3⟩,A3⟩:=alone_goes A2 h2 sl2 (hback (fun _=>False) (fun g w'=>g=G (bc.at (ac.put oc.dst (.bool true)) (.inRegion ops rest :: k0)) cs∧Grows w2 w') (N+1) _ w2 w2 (Rel.refl w2) (fun c hc=>hc.elim) hD (fun v' w' hr hn hgr=>GoesI.stop fun d=>⟨rfl,hgr.toAt hr d⟩))
 refine ⟨N1+N2+N3,gs3,w3,sl3,T3,q3,runNT_then (runNT_then r1 r2) r3,h3,A3,⟨by have:=s.old.size;have:=O.size;have:=hg3.size;omega,fun b hb=>?_,hg3.os.trans (O.os.trans s.old.os),hg3.output.trans (O.out.trans s.old.output)⟩⟩
 have hs1:=s.old.size
 have hno:¬ (Own (newS wb bk w.heap.size sc []) [] b∨b=bk):=fun h=>by have:=(s.own b h).1;omega
 have h5:=O.old b (by omega) (fun h=>hno (.inl h)) (fun h=>hno (.inr h))
 rw [hg3.old b (by have:=O.size;omega),h5.1,s.old.old b hb]
end Go.Proofs.YtfjjoohflcchnaaDoor.Gen
namespace Go.Proofs.YtfjjoohflcchnaaDoor.Gen
open Go Go.Lift Go.Conc Go.RowKit
section
variable {Ch:Nat→Prop} {Stop:Goroutine→World→Prop} {main:Bool} {u0:World} {c sb s ab:Nat} {kb:List Nat} {b1 o1 n1 cap1 b2 o2 n2 cap2:Nat} {p1 p2:Option Addr} {ad wh:List Int}
theorem loop15 (hF:R1.Flds u0) (hp1:0<n1→p1=some ⟨b1,o1,none⟩) (hl1:ad.length=n1) (hn9:(n1:Int)<9223372036854775808) (hI1:InN u0 b1 o1 ad) (hp2:0<n2→p2=some ⟨b2,o2,none⟩) (hl2:wh.length=n2) (hI2:InN u0 b2 o2 wh) (cs:List Frame) (kk:List Item)
 (hK:∀ a' v' w',Rel zn v' w'→NoRow Ch v'→Bl u0.heap.size u0 v'→a'.tmps.size=90→a'.defers=[]→GoesI Tryd.prog main (DT (ScZ zn) Ch) Stop (G ((base 15).at a' kk) cs) w') :
 ∀ (m i:Nat) (a:Act) (v w:World) (xs:List Int),i+m=n1→Rel zn v w→NoRow Ch v→Fl 90 [(1,.slice p1 n1 cap1),(2,.slice p2 n2 cap2),(8,Pt c 0),(9,I (s:Int)),(10,.slice (some ⟨ab,0,none⟩) s s),(11,I (i:Int))] a→M15 u0 c sb s ab kb xs v →
 GoesI Tryd.prog main (DT (ScZ zn) Ch) Stop (G ((base 15).at a (.code L15 :: .inLoop L15 :: .inBlock 0 :: kk)) cs) w:=by
 intro m
 induction m with
 |zero =>
  intro i a v w xs hi hvw hn hA hM
  rw [eL15]
  refine goesI_seq (dt_idle _ _) ?_
  refine goesI_seq (dt_idle _ _) ?_
  refine goesI_plain (z:=zn) (wr:=true) (L:=LV) (I:=NoRow Ch) hE fineV noRow_keeps (fun v v' w w' es hi hr ho he=>dt_of_z v v' w w' es hi hr ho he) hvw fine_p8 hA.2.1 (by simp [base]) hn (Q:=fun a w'=>Fl 90 [(1,.slice p1 n1 cap1),(2,.slice p2 n2 cap2),(8,Pt c 0),(9,I (s:Int)),(10,.slice (some ⟨ab,0,none⟩) s s),(11,I (i:Int)),(34,.bool (decide ((i:Int)<(n1:Int))))] a∧w'.heap=v.heap∧w'.os=v.os∧w'.output=v.output) (fun τ=>p8_wp (v:=onTape v τ 0) rfl hA) ?_
  rintro a1 v1 w1 ⟨hA1,e1,q1,z1⟩ hr1 hn1 -
  refine goesI_cond (dt_idle _ _) (t:=false) (by rw [hA1.at 34 (.bool (decide ((i:Int)<(n1:Int)))) (by simp),decide_eq_false (by omega)]) ?_
  simp only [if_false,Bool.false_eq_true]
  refine goesI_exit (dt_idle _ _) (k':=kk) (by simp [exitTo]) ?_
  exact hK a1 v1 w1 hr1 hn1 (hM.same e1 q1 z1).bl hA1.1 hA1.2.1
 |succ m ih =>
  intro i a v w xs hi hvw hn hA hM
  have hin:i<n1:=by omega
  obtain rfl:=hp1 (by omega)
  rw [eL15]
  refine goesI_seq (dt_idle _ _) ?_
  refine goesI_seq (dt_idle _ _) ?_
  refine goesI_plain (z:=zn) (wr:=true) (L:=LV) (I:=NoRow Ch) hE fineV noRow_keeps (fun v v' w w' es hi hr ho he=>dt_of_z v v' w w' es hi hr ho he) hvw fine_p8 hA.2.1 (by simp [base]) hn (Q:=fun a w'=>Fl 90 [(1,.slice (some ⟨b1,o1,none⟩) n1 cap1),(2,.slice p2 n2 cap2),(8,Pt c 0),(9,I (s:Int)),(10,.slice (some ⟨ab,0,none⟩) s s),(11,I (i:Int)),(34,.bool (decide ((i:Int)<(n1:Int))))] a∧w'.heap=v.heap∧w'.os=v.os∧w'.output=v.output) (fun τ=>p8_wp (v:=onTape v τ 0) rfl hA) ?_
  rintro a1 v1 w1 ⟨hA1,e1,q1,z1⟩ hr1 hn1 -
  refine goesI_cond (dt_idle _ _) (t:=true) (by rw [hA1.at 34 (.bool (decide ((i:Int)<(n1:Int)))) (by simp),decide_eq_true (by omega)]) ?_
  simp only [if_true]
  refine goesI_skip (dt_idle _ _) ?_
  refine goesI_seq (dt_idle _ _) ?_
  refine goesI_block (dt_idle _ _) ?_
  rw [←eL15]
  have hA1':Fl 90 [(1,.slice (some ⟨b1,o1,none⟩) n1 cap1),(2,.slice p2 n2 cap2),(8,Pt c 0),(9,I (s:Int)),(10,.slice (some ⟨ab,0,none⟩) s s),(11,I (i:Int))] a1:=hA1.sub (by simp)
  refine round15 hF hl1 hI1 hp2 hl2 hI2 hin (hM.same e1 q1 z1) cs _ hr1 hn1 hA1' (fun a2 v2 w2 xs' hr2 hn2 hM2 hA2=>?_)
  refine goesI_plain (z:=zn) (wr:=true) (L:=LV) (I:=NoRow Ch) hE fineV noRow_keeps (fun v v' w w' es hi hr ho he=>dt_of_z v v' w w' es hi hr ho he) hr2 fine_p9 hA2.2.1 (by simp [base]) hn2 (Q:=fun a w'=>Fl 90 [(1,.slice (some ⟨b1,o1,none⟩) n1 cap1),(2,.slice p2 n2 cap2),(8,Pt c 0),(9,I (s:Int)),(10,.slice (some ⟨ab,0,none⟩) s s),(11,I ((i+1:Nat):Int))] a∧w'.heap=v2.heap∧w'.os=v2.os∧w'.output=v2.output) (fun τ=>p9_wp (v:=onTape v2 τ 0) (by unfold wrap64;omega) hA2) ?_
  rintro a3 v3 w3 ⟨hA3,e3,q3,z3⟩ hr3 hn3 -
  refine goesI_inLoop (dt_idle _ _) ?_
  exact ih (i+1) a3 v3 w3 xs' (by omega) hr3 hn3 hA3 (hM2.same e3 q3 z3)
theorem law15_rest {v w:World} (n0:Int) (hF:R1.Flds v) (hp1:0<n1→p1=some ⟨b1,o1,none⟩) (hl1:ad.length=n1) (hn9:(n1:Int)<9223372036854775808) (hI1:InN v b1 o1 ad) (hp2:0<n2→p2=some ⟨b2,o2,none⟩) (hl2:wh.length=n2) (hI2:InN v b2 o2 wh) (hvw:Rel zn v w) (hn:NoRow Ch v)
 (hend:∀ a' v' w' todo,Rel zn v' w'→Grows v v'→a'.defers=[]→a'.tmps.getD 6 undef=.bool true→GoesI Tryd.prog main (DT (ScZ zn) Ch) Stop (G { (base 15).at a' todo with mode:=.returning } []) w') :
 ∀ a,Fl 90 [(0,I n0),(1,.slice p1 n1 cap1),(2,.slice p2 n2 cap2),(7,.bool true)] a→GoesI Tryd.prog main (DT (ScZ zn) Ch) Stop (G ((base 15).at a [.code P15]) []) w:=by
 intro a hA
 unfold P15
 generalize hq1:Value.slice p1 n1 cap1=l1 at hA
 generalize hq2:Value.slice p2 n2 cap2=l2 at hA
 obtain ⟨s0,s1⟩:=shN_pos n0
 refine goesI_seq (dt_idle _ _) ?_
 refine goesI_plain (z:=zn) (wr:=true) (L:=LV) (I:=NoRow Ch) hE fineV noRow_keeps (fun v v' w w' es hi hr ho he=>dt_of_z v v' w w' es hi hr ho he) hvw fine_y2 hA.2.1 (by simp [base]) hn (Q:=fun a w'=>Fl 90 [(0,I n0),(1,l1),(2,l2),(7,.bool true),(8,Pt (v.heap.size+1) 0)] a∧NwC v (shN n0) v.heap.size (shN n0) w') (fun τ=>wp_mono (y2_wp (v:=onTape v τ 0) hA) fun e a w hq=>⟨hq.1,hq.2.1,⟨hq.2.2.row,hq.2.2.ctr,hq.2.2.cel,hq.2.2.size,hq.2.2.old,hq.2.2.os,hq.2.2.out⟩⟩) ?_
 rintro a2 v2 w2 ⟨hA2,hN2⟩ hr2 hn2 -
 refine goesI_seq (dt_idle _ _) ?_
 refine goesI_plain (z:=zn) (wr:=true) (L:=LV) (I:=NoRow Ch) hE fineV noRow_keeps (fun v v' w w' es hi hr ho he=>dt_of_z v v' w w' es hi hr ho he) hr2 fine_y3 hA2.2.1 (by simp [base]) hn2 (Q:=fun a w'=>Fl 90 [(0,I n0),(1,l1),(2,l2),(7,.bool true),(8,Pt (v.heap.size+1) 0)] a∧w'.heap=v2.heap∧w'.os=v2.os∧w'.output=v2.output) (fun τ=>y3_wp (v:=onTape v2 τ 0) hA2) ?_
 rintro a3 v3 w3 ⟨hA3,e3,q3,z3⟩ hr3 hn3 -
 refine goesI_seq (dt_idle _ _) ?_
 refine goesI_plain (z:=zn) (wr:=true) (L:=LV) (I:=NoRow Ch) hE fineV noRow_keeps (fun v v' w w' es hi hr ho he=>dt_of_z v v' w w' es hi hr ho he) hr3 fine_y5 hA3.2.1 (by simp [base]) hn3 (Q:=fun a w'=>Fl 90 [(0,I n0),(1,l1),(2,l2),(7,.bool true),(8,Pt (v.heap.size+1) 0),(9,I (shN n0:Int))] a∧w'.heap=v3.heap∧w'.os=v3.os∧w'.output=v3.output) (fun τ=>y5_wp (v:=onTape v3 τ 0) rfl hA3) ?_
 rintro a5 v5 w5 ⟨hA5,e5,q5,z5⟩ hr5 hn5 -
 refine goesI_seq (dt_idle _ _) ?_
 refine goesI_plain (z:=zn) (wr:=true) (L:=LV) (I:=NoRow Ch) hE fineV noRow_keeps (fun v v' w w' es hi hr ho he=>dt_of_z v v' w w' es hi hr ho he) hr5 fine_y6 hA5.2.1 (by simp [base]) hn5 (Q:=fun a w'=>Fl 90 [(1,l1),(2,l2),(8,Pt (v.heap.size+1) 0),(9,I (shN n0:Int)),(10,.slice (some ⟨v5.heap.size,0,none⟩) (shN n0) (shN n0))] a∧w'.heap=v5.heap.push (rowI (List.replicate (shN n0) 0))∧w'.os=v5.os∧w'.output=v5.output) (fun τ=>y6_wp (v:=onTape v5 τ 0) s1 hA5) ?_
 rintro a6 v6 w6 ⟨hA6,e6,q6,z6⟩ hr6 hn6 -
 refine goesI_seq (dt_idle _ _) ?_
 refine goesI_seq (dt_idle _ _) ?_
 refine goesI_plain (z:=zn) (wr:=true) (L:=LV) (I:=NoRow Ch) hE fineV noRow_keeps (fun v v' w w' es hi hr ho he=>dt_of_z v v' w w' es hi hr ho he) hr6 fine_y7 hA6.2.1 (by simp [base]) hn6 (Q:=fun a w'=>Fl 90 [(1,l1),(2,l2),(8,Pt (v.heap.size+1) 0),(9,I (shN n0:Int)),(10,.slice (some ⟨v5.heap.size,0,none⟩) (shN n0) (shN n0)),(11,I 0)] a∧w'.heap=v6.heap∧w'.os=v6.os∧w'.output=v6.output) (fun τ=>y7_wp (v:=onTape v6 τ 0) hA6) ?_
 rintro a7 v7 w7 ⟨hA7,e7,q7,z7⟩ hr7 hn7 -
 have hN5:NwC v (shN n0) v.heap.size (shN n0) v5:=(hN2.same e3 q3 z3).same e5 q5 z5
 have hsz5:=hN5.size
 have g7:Grows v5 v7:=⟨by rw [e7,e6];simp,fun b hb=>by rw [e7,e6,Array.getElem?_push,if_neg (by omega)],q7.trans q6,z7.trans z6⟩
 have hb5:Bl v.heap.size v v5:=⟨hN5.old,by omega,hN5.os,hN5.out⟩
 have hM:M15 v (v.heap.size+1) v.heap.size (shN n0) v5.heap.size ((List.range (shN n0)).map fun j=>v.heap.size+2+j) (List.replicate (shN n0) 0) v7:=by
  refine ⟨(hN5.fcs s0 s1).bl ⟨g7.old,g7.size,g7.os,g7.output⟩,?_,⟨by omega,by omega,fun hm=>?_⟩,hb5.trans (Grows.bl g7 (by omega)),⟨by omega,by omega,by omega,fun cb hcb=>?_⟩⟩
  ·rw [e7,e6,Array.getElem?_push_size,List.map_replicate,R1.amtS_zero]
  ·obtain ⟨j,hj,e⟩:=List.mem_map.1 hm
   have:=List.mem_range.1 hj
   omega
  ·obtain ⟨j,hj,e⟩:=List.mem_map.1 hcb
   omega
 refine goesI_block (dt_idle _ _) ?_
 refine goesI_loop (dt_idle _ _) ?_
 subst hq1 hq2
 refine loop15 hF hp1 hl1 hn9 hI1 hp2 hl2 hI2 [] _ (fun a' v' w' hr' hn' hb' hs' hd'=>?_) n1 0 a7 v7 w7 _ (by omega) hr7 hn7 hA7 hM
 refine goesI_retZ (Q:=fun a w'=>a.tmps.getD 6 undef=.bool true∧w'.heap=v'.heap∧w'.os=v'.os∧w'.output=v'.output) hr' hn' fine_T15 hd' (fun τ=>T15_wp (v:=onTape v' τ 0) hs' hd') (fun a'' v'' w'' todo hQ hd hr'' hn''=>hend a'' v'' w'' todo hr'' (hb'.same hQ.2.1 hQ.2.2.1 hQ.2.2.2).grows hd hQ.1)
end
theorem law15_in {Ch:Nat→Prop} {Stop:Goroutine→World→Prop} {main:Bool} {w:World} (x0:Value) (x1:Value) (x2:Value)
 (hk:∀ (w':World) (bd:Frame) (ad:Act) (od:Array Oper) (qd:Nat) (rd:List Nat) (oe:Oper) (kd:List Item),(∃ d,w'=w.at d)→od[qd]? = some oe →
   (∀ (Ch:Nat→Prop) (Stop:Goroutine→World→Prop) (w1:World),(∀ a,Fl 90 [(0,x0),(1,x1),(2,x2),(7,.bool true)] a→GoesI Tryd.prog main (DT (ScZ zn) Ch) Stop (G ((base 15).at a [.code P15]) []) w1)→GoesI Tryd.prog main (DT (ScZ zn) Ch) Stop (G (bd.at (ad.put oe.dst (.bool true)) (.inRegion od rd :: kd)) []) w1) →
   GoesI Tryd.prog main (DT (ScZ zn) Ch) Stop (G ((base 51).at { tmps:=Array.replicate 28 undef,defers:=[] } [.code B51]) [bd.at ad (.inRegion od (qd :: rd) :: kd)]) w') :
 GoesI Tryd.prog main (DT (ScZ zn) Ch) Stop (G ((base 15).at { tmps:=#[x0,x1,x2]++Array.replicate 87 undef,defers:=[] } [.code LB15]) []) w:=by
 rw [eLB15]
 simp only [Array.replicate_succ,Array.replicate_zero,List.push_toArray,List.append_toArray,List.nil_append,List.cons_append]
 refine goesI_seq (dt_idle _ _) ?_
 generalize hR:P15=R9 at hk ⊢
 unfold y1 LB15 Tryd.f15 seq1 seq2
 simp only [Option.getD_some]
 refine goesI_region (dt_idle _ _) ?_
 simp only [List.size_toArray,List.length_cons,List.length_nil,Nat.reduceAdd,Nat.zero_add,List.range,List.range.loop]
 iterate 1
  (refine goesI_oper rfl rfl (by decide) (fun d K hK=>?_)
   go_simp
   refine hK _ _ ⟨dt_reads (fun e he=>?_),GoesI.at ?_ d⟩
   ·have hm:=mem_listed he
    simp [go_sem, *] at hm
    try exact ⟨_,_,hm⟩
   clear hK K)
 refine goesI_regionEnd (dt_idle _ _) ?_
 refine goesI_seq (dt_idle _ _) ?_
 refine goesI_region (dt_idle _ _) ?_
 simp only [List.size_toArray,List.length_cons,List.length_nil,Nat.reduceAdd,Nat.zero_add,List.range,List.range.loop]
 refine goesI_into (f:=51) (fn:=Tryd.f51) (args:=#[]) (dt_idle _ _) rfl rfl (by decide) rfl (by simp [Act.eval]) Tryd.func51 (by decide) rfl ?_
 refine hk w _ _ _ _ _ _ _ ⟨w.drawn,rfl⟩ rfl (fun Ch Stop w1 hg=>?_)
 clear hk
 iterate 1
  (refine goesI_oper rfl rfl (by decide) (fun d K hK=>?_)
   go_simp
   refine hK _ _ ⟨dt_reads (fun e he=>?_),GoesI.at ?_ d⟩
   ·have hm:=mem_listed he
    simp [go_sem, *] at hm
    try exact ⟨_,_,hm⟩
   clear hK K)
 refine goesI_regionEnd (dt_idle _ _) ?_
 exact hg _ ⟨rfl,rfl,by
  intro p hp
  simp only [List.mem_cons,List.not_mem_nil,or_false] at hp
  rcases hp with rfl|rfl|rfl|rfl<;>rfl⟩
theorem end15 {a:Act} {todo:List Item} {w:World} (hd:a.defers=[]) (h4:a.tmps.getD 6 undef=.bool true):stepG Tryd.prog true (G { (base 15).at a todo with mode:=.returning } []) w=.ended (.done (.bool true)) w #[]:=by
 have hr:(results Tryd.f15 a.tmps).run Tryd.prog w=.ok (.bool true) w:=by rw [results_tmp (t:=6) rfl,h4]
 have he:(results Tryd.f15 a.tmps).events Tryd.prog w #[]=#[]:=by simp [results,go_sem,Tryd.f15]
 simp [G,stepG,unwind,Frame.at,hd,Tryd.func15,base,hr,he,doReturn,GStep.after,seen]
theorem alone_ends {gs:Array Goroutine} {w:World} {T:Trace} {q:Nat→Nat} (A:Alone gs w T q) {a:Goroutine} (hg:gs[0]? = some a) (sl:Option (Nat×Nat)) {Post:Value→World→Prop} (hE:∀ B,∀ d,AtEnd Tryd.prog (fun _=>False) B Post a (w.at d)) :
 ∃ N last o w' t',runNT Tryd.prog (N+1) (crowd gs w sl) T=(.ended o w',t')∧runN Tryd.prog N (crowd gs w sl)=.next last∧step Tryd.prog last=.ended o w'∧Go.Conc.Good Tryd.prog Post last o w' t':=by
 obtain ⟨B,hB,hP⟩:=A.past
 refine beside_ends (D:=fun _ _ es=>es=#[]) (Shun:=fun _=>False) (B:=B) (n:=0) (fun _ _ es h e he=>by subst h;simp at he) hg A.left hP ?_
 rintro w1 ⟨d,rfl⟩
 exact hE B d
theorem gl_flds {w:World} (h:Gl w):R1.Flds w:=by
 obtain ⟨c,t,f,h1,h2,h3⟩:=h.a
 obtain ⟨c',t',f',k1,k2,k3⟩:=h.b
 exact ⟨cell_of h1 h2,cell_of h1 h3,cell_of k1 k2,cell_of k1 k3⟩
theorem grows_bl {v v':World} (g:Grows v v'):Bl v.heap.size v v':=⟨g.old,g.size,g.os,g.output⟩
theorem run15 (W:World) (hGl:Gl W) (n0:Int) {b1 o1 n1 cap1 b2 o2 n2 cap2:Nat} {p1 p2:Option Addr} {ad wh:List Int} (hp1:0<n1→p1=some ⟨b1,o1,none⟩) (hl1:ad.length=n1) (hn9:(n1:Int)<9223372036854775808) (hI1:InN W b1 o1 ad) (hp2:0<n2→p2=some ⟨b2,o2,none⟩) (hl2:wh.length=n2) (hI2:InN W b2 o2 wh) :
 ∃ M last o w' t',runNT Tryd.prog (M+1) (solo (G (Frame.enter Tryd.prog 15 #[I n0,.slice p1 n1 cap1,.slice p2 n2 cap2] .normal) []) W) #[]=(.ended o w',t') ∧
   runN Tryd.prog M (solo (G (Frame.enter Tryd.prog 15 #[I n0,.slice p1 n1 cap1,.slice p2 n2 cap2] .normal) []) W)=.next last∧step Tryd.prog last=.ended o w'∧Go.Conc.Good Tryd.prog (PostT W) last o w' t':=by
 have e:Frame.enter Tryd.prog 15 #[I n0,.slice p1 n1 cap1,.slice p2 n2 cap2] .normal=(base 15).at { tmps:=#[I n0,.slice p1 n1 cap1,.slice p2 n2 cap2]++Array.replicate 87 undef,defers:=[] } [.code LB15]:=enter_at (fn:=Tryd.f15) (c:=LB15) _ Tryd.func15 (by rfl)
 rw [e,solo_eq_crowd]
 have A:Alone #[G ((base 15).at { tmps:=#[I n0,.slice p1 n1 cap1,.slice p2 n2 cap2]++Array.replicate 87 undef,defers:=[] } [.code LB15]) []] W #[] (fun _=>0):=⟨leavers_one _ _,0,Nat.zero_le _,past_nil⟩
 obtain ⟨N1,gs1,a1,w1,sl1,T1,q1,r1,z1,h1,⟨bd,ad',od,qd,rd,oe,kd,⟨d1,rfl⟩,hoe,hback,rfl⟩,A1⟩:=alone_goes A rfl none (Stop:=fun g w'=>∃ (bd:Frame) (ad:Act) (od:Array Oper) (qd:Nat) (rd:List Nat) (oe:Oper) (kd:List Item),(∃ d,w'=W.at d)∧od[qd]? = some oe ∧
  (∀ (Ch:Nat→Prop) (Stop:Goroutine→World→Prop) (w1:World),(∀ a,Fl 90 [(0,I n0),(1,.slice p1 n1 cap1),(2,.slice p2 n2 cap2),(7,.bool true)] a→GoesI Tryd.prog true (DT (ScZ zn) Ch) Stop (G ((base 15).at a [.code P15]) []) w1)→GoesI Tryd.prog true (DT (ScZ zn) Ch) Stop (G (bd.at (ad.put oe.dst (.bool true)) (.inRegion od rd :: kd)) []) w1) ∧
  g=G ((base 51).at { tmps:=Array.replicate 28 undef,defers:=[] } [.code B51]) [bd.at ad (.inRegion od (qd :: rd) :: kd)])
  (law15_in _ _ _ (fun w' bd ad od qd rd oe kd hw ho hback=>GoesI.stop fun d=>⟨bd,ad,od,qd,rd,oe,kd,by obtain ⟨d0,rfl⟩:=hw;exact ⟨d,rfl⟩,ho,hback,rfl⟩))
 obtain ⟨N2,gs2,w2,sl2,T2,q2,r2,h2,A2,g2⟩:=cawake_all hoe sl1 A1 (w:=W.at d1) (show Gl (W.at d1) from ⟨hGl.a,hGl.b⟩) h1
 have g2':Grows W w2:=⟨g2.size,g2.old,g2.os,g2.output⟩
 obtain ⟨N3,gs3,a3,w3,sl3,T3,q3,r3,z3,h3,⟨a',todo,hd,h4,g3,rfl⟩,A3⟩:=alone_goes A2 h2 sl2 (Stop:=fun g w'=>∃ a' todo,a'.defers=[]∧a'.tmps.getD 6 undef=.bool true∧Grows w2 w'∧g=G { (base 15).at a' todo with mode:=.returning } []) (hback (fun _=>False) _ w2 (law15_rest n0 (gl_flds (hGl.grows g2')) hp1 hl1 hn9 (hI1.bl (grows_bl g2')) hp2 hl2 (hI2.bl (grows_bl g2')) (Rel.refl w2) (fun c hc=>hc.elim) (fun a' v' w' todo hr hgr hd h4=>GoesI.stop fun d=>⟨a',todo,hd,h4,hgr.toAt hr d,rfl⟩)))
 have hfin:Grows W w3:=g2'.andThen g3
 obtain ⟨M4,last,o,w',t',e1,e2,e3,e4⟩:=alone_ends A3 h3 sl3 (Post:=PostT W) (fun B d=>⟨rfl,.bool true,#[],end15 hd h4,fun e he=>by simp at he,rfl,⟨hfin.size,hfin.old,hfin.os,hfin.output⟩⟩)
 have hrun:=runNT_then (runNT_then r1 r2) r3
 refine ⟨N1+N2+N3+M4,last,o,w',t',?_,?_,e3,e4⟩
 ·rw [Nat.add_assoc,runNT_add,hrun];exact e1
 ·rw [runN_add,←runNT_fst Tryd.prog _ _ #[],hrun];exact e2
def InR (x:Int):Prop:=-9223372036854775808≤x∧x<9223372036854775808
def Cl.ok (c:Cl):Prop:=InR c.cb∧InR c.cc
structure InI (W:World) (p:Option Addr) (b o:Nat) (xs:List Int):Prop where
 at_:0<xs.length→p=some ⟨b,o,none⟩
 cell:∀ k x,xs[k]? = some x→W.cell? ⟨b,o+k,none⟩=some (I x)
 inr:∀ x∈xs,InR x
 len:xs.length≤17592186043904
theorem InI.grows {W W':World} {p:Option Addr} {b o:Nat} {xs:List Int} (h:InI W p b o xs) (g:Grows W W'):InI W' p b o xs :=
 ⟨h.at_,fun k x hk=>g.cell (h.cell k x hk),h.inr,h.len⟩
structure InS (W:World) (p:Option Addr) (b o n:Nat) (pc:Nat→Option Addr) (ln cp rb:Nat→Nat) (cl:Nat→List Cl):Prop where
 at_:0<n→p=some ⟨b,o,none⟩
 row:∀ k,k<n→W.cell? ⟨b,o+k,none⟩=some (.slice (pc k) (ln k) (cp k))
 len:∀ j,j<n→(cl j).length=ln j
 pq:∀ j,j<n→0<ln j→pc j=some ⟨rb j,roOf (pc j),none⟩
 call:∀ j,j<n→∀ (k:Nat) (c:Cl),(cl j)[k]? = some c→W.cell? ⟨rb j,roOf (pc j)+k*4,none⟩=some (I c.po)∧W.cell? ⟨rb j,roOf (pc j)+k*4+1,none⟩=some (I c.ca)∧W.cell? ⟨rb j,roOf (pc j)+k*4+2,none⟩=some (I c.cb)∧W.cell? ⟨rb j,roOf (pc j)+k*4+3,none⟩=some (I c.cc)
 ok:∀ j,j<n→∀ c∈cl j,InR c.ca∧c.ok
 n:n≤17592186043904
theorem InS.grows {W W':World} {p:Option Addr} {b o n:Nat} {pc:Nat→Option Addr} {ln cp rb:Nat→Nat} {cl:Nat→List Cl} (h:InS W p b o n pc ln cp rb cl) (g:Grows W W'):InS W' p b o n pc ln cp rb cl :=
 ⟨h.at_,fun k hk=>g.cell (h.row k hk),h.len,h.pq,fun j hj k c hc=>by
  have:=h.call j hj k c hc
  exact ⟨g.cell this.1,g.cell this.2.1,g.cell this.2.2.1,g.cell this.2.2.2⟩,h.ok,h.n⟩
end Go.Proofs.YtfjjoohflcchnaaDoor.Gen
namespace Go.Proofs.YtfjjoohflcchnaaDoor.Gen
open Go Go.Lift Go.Conc
open Go.ChangeShapes Go.WideShapes Go.ChangeAt Go.RowKit Go.Joins Go.Deep
theorem op_knob:ownKnob Tryd.prog.godebug=none:=by kernel_rfl
theorem op_cells3:Tryd.prog.cellsOf 3=1:=by kernel_rfl
theorem op_bytes3:Tryd.prog.bytesOf 3=8:=by kernel_rfl
theorem inr_of {n:Int} (h:(Lit.int .i64 n).wf=true):InR n:=by
 have:=bounds_i64 h
 unfold InR
 omega
section
variable {H:Type} {enc:TypeId×Value→H} {w:World}
theorem ints_in {r:Reach} {b0:Nat} {v:Value} {d:DataW H} {ps:List MemPlace} (hv:Value.okWide Tryd.prog w r b0 22 v) (h:DataW.Trod enc Tryd.prog w 0 (fun _=>true) true 22 v d ps) (hsz:∀ elems spare,d=.slice elems spare→(elems.length+spare.length)*Tryd.prog.bytesOf 3≤reachBytes) :
 ∃ (p:Option Addr) (cap b o:Nat) (xs:List Int),v=.slice p xs.length cap∧InI w p b o xs:=by
 obtain ⟨a0,len0,cap0,rfl⟩:=okWide_slice Tryd.underlying22 hv
 obtain ⟨fuel,hf⟩:=h
 rcases open_ints Tryd.underlying22 Tryd.underlying3 op_cells3 hf with ⟨hcs,_⟩|⟨x,l,c,zs,hcs,_,hl,hm,hz,hx,hcell,hwf⟩
 ·simp [Value.cells] at hcs
  obtain ⟨rfl,rfl,rfl⟩:=hcs
  exact ⟨none,0,0,0,[],rfl,⟨fun h=>by simp at h,fun k x hk=>by simp at hk,fun x hx=>by simp at hx,Nat.zero_le _⟩⟩
 ·simp [Value.cells] at hcs
  obtain ⟨rfl,rfl,rfl⟩:=hcs
  have hz':zs.length=cap0:=by simpa using hz
  have ht:(zs.take len0).length=len0:=by rw [List.length_take];omega
  have hb:=hsz _ _ (congrArg Prod.fst hx)
  have hlz:∀ (k:IntKind) (l:List Int),(ChangeShapes.lits (H:=H) k l).length=l.length:=fun k l=>by simp [ChangeShapes.lits]
  rw [op_bytes3,hlz,hlz,ht] at hb
  have hlen:len0≤17592186043904:=by unfold reachBytes at hb;omega
  obtain ⟨b,off,spot⟩:=x
  by_cases h0:len0=0
  ·subst h0
   exact ⟨_,_,0,0,[],rfl,⟨fun h=>by simp at h,fun k x hk=>by simp at hk,fun x hx=>by simp at hx,Nat.zero_le _⟩⟩
  ·have hspot:spot=none:=by simpa [Addr.add] using World.cell?_spot (hcell 0 (by omega))
   subst hspot
   refine ⟨_,_,b,off,zs.take len0,by rw [ht],⟨fun _=>rfl,fun i a hi=>?_,fun x hx=>inr_of (hwf x (List.mem_of_mem_take hx)),by rw [ht];exact hlen⟩⟩
   have hil:i<len0:=by have:=(List.getElem?_eq_some_iff.1 hi).1;omega
   have hc:=hcell i (by omega)
   have hadd:(⟨b,off,none⟩:Addr).add i=⟨b,off+i,none⟩:=by unfold Addr.add;split<;>simp_all
   rw [hadd] at hc
   have ha:zs.getD i 0=a:=by
    rw [List.getElem?_take_of_lt hil] at hi
    rw [List.getD_eq_getElem?_getD,hi]
    rfl
   rw [ha] at hc
   exact hc
def Sc (w:World) (v:Value) (q:Option Addr×Nat×Nat×List Cl):Prop :=
 v=.slice q.1 q.2.2.2.length q.2.1∧(0<q.2.2.2.length→q.1=some ⟨q.2.2.1,roOf q.1,none⟩)∧(∀ (k:Nat) (c:Cl),q.2.2.2[k]? = some c→w.cell? ⟨q.2.2.1,roOf q.1+k*4,none⟩=some (I c.po)∧w.cell? ⟨q.2.2.1,roOf q.1+k*4+1,none⟩=some (I c.ca)∧w.cell? ⟨q.2.2.1,roOf q.1+k*4+2,none⟩=some (I c.cb)∧w.cell? ⟨q.2.2.1,roOf q.1+k*4+3,none⟩=some (I c.cc))∧∀ c∈q.2.2.2,InR c.ca∧c.ok
end
theorem grows_frame {W w':World} (h:Grows W w') (may:MemPlace→Prop):W.keptBut w' may:=by
 refine ⟨h.os,h.output,fun i hi=>?_⟩
 rw [h.old i hi]
 split<;>simp_all
theorem grows_same {W w':World} (h:Grows W w') {p:MemPlace} (hp:p.block<W.heap.size):W.sameAt w' p:=by
 cases p with
 |cell b o=>exact World.cell?_of_block (w:=W) (h.old b hp)
 |map b=>exact h.old b hp
theorem op_laid:laidOutB Tryd.prog=true:=by kernel_rfl
theorem grows_trod {H:Type} {enc:TypeId×Value→H} {t:TypeId} (hr:Tryd.prog.readableRec t=true) (hrow:t<Tryd.prog.types.size) {W W':World} {v:Value} {d:DataW H} {ps:List MemPlace}
 (h:DataW.Trod enc Tryd.prog W 0 (fun _=>true) true t v d ps) (hb:Grows W W') (hlt:∀ x∈ps,x.block<W.heap.size) :
 DataW.Trod enc Tryd.prog W' 0 (fun b=>decide (b<W.heap.size)) true t v d ps :=
 WideElems.Trod_stays op_laid hr hrow h (fun x hx=>grows_same hb (hlt x hx)) (fun x hx=>by simpa using hlt x hx)
end Go.Proofs.YtfjjoohflcchnaaDoor.Gen
namespace Go.Proofs.YtfjjoohflcchnaaDoor
open Go Go.Lift Go.Conc
open Go.ChangeShapes Go.WideShapes Go.ChangeAt Go.RowKit Go.Joins Go.Deep
open Gen
section
variable {H:Type} {enc:TypeId×Value→H}
theorem leaving_and {a:Assume} {C:Checked} {os:Os} {f:FuncId} {fn:Func} {s:ChangeSpec} {X:World→Array Value→Prop}
 (hX:∀ (w w':World) (args:Array Value),w.heap=w'.heap→X w args→X w' args)
 (own:ownKnob C.prog.godebug=none) (started:os.Started) (hfn:C.prog.funcs[f]? = some fn)
 (wit:∃ (w:World) (tape:Tape) (i:Input),w.os=os∧(w.forCall tape i).Shaped C.prog∧i.vars=[]∧Input.okWide C.prog (w.forCall tape i) .any w.heap.size f i ∧
   ((s.pre enc C.prog fn [] false (w.forCall tape i).memory i.args∧X (w.forCall tape i).memory i.args)∧sizedMet enc C.prog fn (OpenSpec.ofChange s) false (w.forCall tape i).memory i.args)∧a.holds C.prog (lone (Frame.enter C.prog f i.args .normal) [] (w.forCall tape i)))
 (runs:∀ (W:World) (base:Nat) (args:Array Value) (ds gs:List (DataW H)) (before:List MemPlace),
   (∀ (j:Nat) t v,fn.params[j]? = some t→args[j]? = some v→Value.okWide C.prog W .any base t v) →
   DataW.Whole enc C.prog fn.params.toList s.vars false W args.toList ds gs before →
   (DataW.weightsEach C.prog (fn.params.toList++s.plain.varTypes C.prog) (ds++gs)).all (·≤reachBytes)=true→X W args →
   ∃ M last o w' t',runNT C.prog (M+1) (solo (G (Frame.enter C.prog f args .normal) []) W) #[]=(.ended o w',t')∧runN C.prog M (solo (G (Frame.enter C.prog f args .normal) []) W)=.next last ∧
     step C.prog last=.ended o w'∧Conc.Good C.prog (fun v W'=>s.post enc C.prog fn false true false false W args v W') last o w' t') :
 ReturnsInLeavingWide a C os f .any (fun w args=>(s.pre enc C.prog fn [] false w args∧X w args)∧sizedMet enc C.prog fn (OpenSpec.ofChange s) false w args) (s.post enc C.prog fn false true false false):=by
 refine returnsInLeavingWide_of_good own started wit ?_
 intro w tape i _ _ _ hok hpre _
 obtain ⟨_,_,_,fn',hfn',_,_,_,_,hval⟩:=hok
 have e:fn'=fn:=Option.some.inj (hfn'.symm.trans hfn)
 subst e
 obtain ⟨⟨⟨ds,gs,before,hw,hc⟩,hx⟩,hz⟩:=hpre
 have hw':=DataW.Whole.of_heap (w':=w.forCall tape i) (by rfl) hw
 obtain ⟨M,last,o,w',t',h1,h2,h3,h4⟩:=runs (w.forCall tape i) w.heap.size i.args ds gs before hval hw' (hz.weights hw) (hX _ _ _ (by rfl) hx)
 exact ⟨M,last,o,w',t',h1,h2,h3,h4.mono fun v hp=>ChangeSpec.post_blind hp⟩
end
theorem fieldT6:(Tryd.prog.globals[6]?).map (·.type)=some 124:=by kernel_rfl
theorem fieldT7:(Tryd.prog.globals[7]?).map (·.type)=some 124:=by kernel_rfl
theorem cells110:Tryd.prog.cellsOf 124=2:=by kernel_rfl
theorem field_open {w:World} {fuel:Nat} {cs:List Value} {x y:Int} {p:List MemPlace} (h:DataW.trod (fun _=>()) Tryd.prog w 0 (fun _=>true) false fuel 124 cs=some (.agg [.lit (.int .i64 x),.lit (.int .i64 y)],p)):cs=[I x,I y]:=by
 obtain ⟨xs,k,hk,hxy,hl,hxl,hf⟩:=DataW.trod_struct Tryd.underlying124 h
 rw [cells110] at hl
 match xs,hxl,cs,hl with
 | [y0,y1],_,[c0,c1],_ =>
  have g0:=hf 0 _ rfl
  have g1:=hf 1 _ rfl
  simp [op_cells3] at g0 g1
  obtain ⟨a0,e0,f0,_⟩:=DataW.trod_int Tryd.underlying3 g0
  obtain ⟨a1,e1,f1,_⟩:=DataW.trod_int Tryd.underlying3 g1
  simp at e0 e1
  subst e0 e1 f0 f1
  simp at hxy
  obtain ⟨⟨rfl,rfl⟩,_⟩:=hxy
  rfl
theorem var_row {w:World} {n:String} {g:Nat} {cs:Array Value} (hg:Tryd.prog.globalNamed n=some g) (h:w.var? Tryd.prog n=some cs):∃ t f,w.heap[g]? = some (.cells cs t f):=by
 simp only [World.var?,hg,Option.bind_some] at h
 split at h
 ·rename_i c t f e
  cases h
  exact ⟨t,f,e⟩
 ·cases h
abbrev laidC : List (String × DataW Unit) := [("butler/counter.fieldAmount", Rows.laid_butler_counter_fieldAmount), ("butler/counter.fieldVersion", Rows.laid_butler_counter_fieldVersion)]
theorem gA : Tryd.prog.globalNamed "butler/counter.fieldAmount" = some 6 := by kernel_rfl
theorem gV : Tryd.prog.globalNamed "butler/counter.fieldVersion" = some 7 := by kernel_rfl
theorem gl_laid {W:World} (h:laidMetH Tryd.prog laidC W):Gl W:=by
 have h':laidMet Tryd.prog laidC W:=h
 obtain ⟨ps,hv,_,_⟩:=h'
 obtain ⟨g,t,cs,fuel,p,q,e1,e2,e3,e4,hr,rfl⟩:=hv
 obtain ⟨g',t',cs',fuel',p',q',k1,k2,k3,k4,hr',rfl⟩:=hr
 obtain rfl:=Option.some.inj (gA.symm.trans e1)
 obtain rfl:=Option.some.inj (gV.symm.trans k1)
 obtain rfl:=Option.some.inj (fieldT6.symm.trans e2)
 obtain rfl:=Option.some.inj (fieldT7.symm.trans k2)
 have f1:=field_open e4
 have f2:=field_open k4
 obtain ⟨ty,fz,r1⟩:=var_row gA e3
 obtain ⟨ty',fz',r2⟩:=var_row gV k3
 have c1:cs=#[I 0,I 32]:=by rw [←f1]
 have c2:cs'=#[I 32,I 30]:=by rw [←f2]
 subst c1 c2
 exact ⟨⟨_,_,_,r1,rfl,rfl⟩,⟨_,_,_,r2,rfl,rfl⟩⟩
noncomputable def laidW (os:Os):World:=World.laidAll Tryd.prog os laidC
theorem laidW_met (os:Os) (args:Array Value):laidMetH Tryd.prog laidC ((laidW os).forCall (fun _ _=>0) ⟨#[],args,[]⟩).memory:=laidMet_laidAll (laid:=laidC) args (by kernel_rfl) (by kernel_rfl)
theorem counterAlone_lifted (os:Os) (started:os.Started) (H:Type) (enc:TypeId×Value→H) :
 ReturnsInLeavingWide {} Tryd.checked os 15 .any (fun w args=>(Rows.counterAloneSpec.pre enc Tryd.prog Tryd.f15 [] false w args∧laidMetH Tryd.prog laidC w)∧sizedMet enc Tryd.prog Tryd.f15 (OpenSpec.ofChange Rows.counterAloneSpec) false w args) (Rows.counterAloneSpec.post enc Tryd.prog Tryd.f15 false true false false):=by
 refine leaving_and (C:=Tryd.checked) (X:=fun w _=>laidMetH Tryd.prog laidC w) (fun _ _ _ hh h=>laidMet.of_heap (l:=laidC) hh h) op_knob started Tryd.func15
  (ChangeSpec.witness_at (enc:=enc) (C:=Tryd.checked) (os:=os) (X:=fun w _=>laidMetH Tryd.prog laidC w) false (laidW os) #[.int .i64 0,.slice none 0 0,.slice none 0 0] 8 (World.laidAll_os _ _ _) (by kernel_rfl) (by kernel_rfl) (by kernel_rfl) (by kernel_rfl) (by kernel_rfl) (laidW_met os _)) ?_
 intro W base args ds gs before hval0 hW hsz0 hL
 have hval:∀ (j:Nat) t v,Tryd.f15.params[j]? = some t→args[j]? = some v→Value.okWide Tryd.prog W .any base t v:=hval0
 have hW':=hW
 obtain ⟨p,q,hA0,hV,rfl,_,_⟩:=hW
 have hA:DataW.TrodAll enc Tryd.prog W 0 (fun _=>true) true Tryd.f15.params.toList args.toList ds p:=hA0
 have hsz:(DataW.weightsEach Tryd.prog (Tryd.f15.params.toList++Rows.counterAloneSpec.plain.varTypes Tryd.prog) (ds++gs)).all (·≤reachBytes)=true:=hsz0
 rw [Tryd.params15] at hA hval hsz
 obtain ⟨v0,vs0,d0,ds0,p0,q0,hargs,rfl,rfl,h0,r0⟩:=trodAll_cons hA
 obtain ⟨v1,vs1,d1,ds1,p1,q1,rfl,rfl,rfl,h1,r1⟩:=trodAll_cons r0
 obtain ⟨v2,vs2,d2,ds2,p2,q2,rfl,rfl,rfl,h2,r2⟩:=trodAll_cons r1
 obtain ⟨rfl,rfl,rfl⟩:=trodAll_nil r2
 obtain rfl:args=#[v0,v1,v2]:=by cases args;simp_all
 obtain ⟨rfl,rfl⟩:=trodVars_none hV
 have k0:=h0
 have k1:=h1
 have k2:=h2
 have lt0:∀ x∈p0,x.block<W.heap.size:=by obtain ⟨m,hm⟩:=k0;exact DataW.trod_lt m _ _ _ hm
 have lt1:∀ x∈p1,x.block<W.heap.size:=by obtain ⟨m,hm⟩:=k1;exact DataW.trod_lt m _ _ _ hm
 have lt2:∀ x∈p2,x.block<W.heap.size:=by obtain ⟨m,hm⟩:=k2;exact DataW.trod_lt m _ _ _ hm
 obtain ⟨x0,hx0,j1,j2,j3⟩:=open_int Tryd.underlying3 (hval 0 3 v0 rfl rfl) h0
 obtain ⟨vp,vcap,vb,vo,xs,e1,hX⟩:=ints_in (hval 1 22 v1 rfl rfl) h1 (fun el sp e=>sized_slice hsz (j:=1) rfl (by rw [e];rfl) Tryd.underlying22)
 obtain ⟨up,ucap,ub,uo,us,e2,hU⟩:=ints_in (hval 2 22 v2 rfl rfl) h2 (fun el sp e=>sized_slice hsz (j:=2) rfl (by rw [e];rfl) Tryd.underlying22)
 clear hA0 hval0 hsz0
 subst hx0 e1 e2
 simp only [List.append_nil] at hW'
 obtain ⟨M,last,o',w',t',g1,g2,g3,g4⟩:=run15 W (gl_laid hL) x0 (n1:=xs.length) (cap1:=vcap) (n2:=us.length) (cap2:=ucap) hX.at_ rfl (by have:=hX.len;omega) hX.cell hU.at_ rfl hU.cell
 refine ⟨M,last,o',w',t',g1,g2,g3,g4.mono fun v hF=>?_⟩
 obtain ⟨rfl,bel⟩:PostT W v w':=hF
 exact ⟨_,_,_,[],_,[],hW',trodAll_mk1 (shut_bool Tryd.underlying4 _),
  (trodAll_cons_mk (grows_trod (by kernel_rfl) (of_decide_eq_true (by kernel_rfl)) k0 bel lt0)
  (trodAll_cons_mk (grows_trod (by kernel_rfl) (of_decide_eq_true (by kernel_rfl)) k1 bel lt1)
  (trodAll_cons_mk (grows_trod (by kernel_rfl) (of_decide_eq_true (by kernel_rfl)) k2 bel lt2) trodAll_mk0))),rfl,grows_frame bel _,fun h=>by cases h⟩
theorem counterAlone_holds:Rows.CounterAloneSaid :=
 OpenClaim.holds_of_wide_leaving 15 Tryd.f15 rfl rfl rfl rfl rfl rfl rfl ⟨rfl,rfl,rfl,rfl,rfl⟩ rfl rfl rfl rfl rfl (by kernel_rfl) Tryd.func15 (by kernel_rfl)
  (of_decide_eq_true (by kernel_rfl)) (by unfold Func.isWrapper;first|(rw [if_pos (by decide +kernel)];kernel_rfl)|(rw [if_neg (by decide +kernel)];exact ⟨rfl,rfl⟩))
  (fun os started H enc _=>counterAlone_lifted os started H enc)
end Go.Proofs.YtfjjoohflcchnaaDoor
namespace Go.Proofs.YtfjjoohflcchnaaDoor
open Go
theorem card_goes {p:Pinned} {s:OpenSpec} {c:OpenClaim} {kinds:List LaidKind} {tests:Bool} {har:Bool×String} {lk:Bool} (Lk:Looks)
 (hc:c.holds p s) (hw:c.wfByText s=true) (htie:c.laidByTextAt Lk p kinds tests)
 (hst:c.start=.entering) (hnb:c.noBlocks=false∧c.again=false) (hm:p.checked.prog.mainIs=some (har.1,har.2.toList)) (hn:(!har.1&&har.2.isEmpty&&!lk)=false)
 (hl:∀ f fn,p.checked.prog.funcNamed c.func=some f→p.checked.prog.funcs[f]? = some fn→lk=p.checked.prog.looks []∧∀ (j:Nat) t,fn.params[j]? = some t→p.checked.prog.wantsStandIn t=false)
 (hg:true=c.goesBy p.checked.prog) :
 Claim7.holds p (.plain s) { stood:={ row:=c,standIns:=[],harness:=har,looks:=lk },kinds:=[],alts:=[],goes:=true,laidByText:=true,laidKinds:=kinds,laidTests:=tests,laidLooks:=Lk }:=by
 have h6:Claim7.isSixth { stood:={ row:=c,standIns:=[],harness:=har,looks:=lk },kinds:=[] }=false:=by simpa [Claim7.isSixth] using hn
 have h1:=Claim7.new_of_sixth hc har lk hst hnb hm h6 hl
 obtain ⟨_,rest⟩:=h1
 exact ⟨⟨hw,rest⟩,fun D hD=>(by cases hD),htie,(fun h=>by cases h),hg⟩
theorem counterAlone_card:Rows.CounterAloneCardSaid :=
 card_goes .later counterAlone_holds (by kernel_rfl) counterAlone_row_tie rfl ⟨rfl,rfl⟩ (by kernel_rfl) rfl
  (fun f fn hf hfn=>by
    obtain rfl : f = 15 := Option.some.inj ((show Tryd.prog.funcNamed "butler/butlerlaw10.CounterAlone" = some 15 by kernel_rfl).symm.trans hf) |>.symm
    obtain rfl:fn=Tryd.f15:=(Option.some.inj (Tryd.func15.symm.trans hfn)).symm
    exact ⟨by kernel_rfl,fun j t ht=>by
     rw [Tryd.params15] at ht
     have hm:t∈[3,22,22]:=by simpa using Array.mem_of_getElem? ht
     have hall:([3,22,22].all fun u=>!Tryd.prog.wantsStandIn u)=true:=by kernel_rfl
     exact (show Tryd.prog.wantsStandIn t=false by simpa using List.all_eq_true.1 hall t hm)⟩)
  (by kernel_rfl)
#print axioms counterAlone_card
end Go.Proofs.YtfjjoohflcchnaaDoor
