/- Of the proof of LatchLinear. Part 13 of 27. (Joined, by program, and written short, of: GRun20c, GRun20d, Lift29, Lift30, GLone, GNew.) -/
import Derived.Test.YtfjjoohflcchnaaLatchLinear03
import Derived.Test.YtfjjoohflcchnaaLatchLinear04
import Derived.Test.YtfjjoohflcchnaaLatchLinear09
import Derived.Test.YtfjjoohflcchnaaLatchLinear12
import Derived.Deep.RegionLaw
set_option linter.unusedSimpArgs false
set_option linter.unusedVariables false
set_option maxHeartbeats 4000000
set_option maxRecDepth 100000
namespace Go.Proofs.Ytfjjoohflcchnaa.Gen
open Go Go.Lift Go.Conc Go.RowKit
variable {mc:Mc} {fid:FuncId} {P:Pkg mc fid}
structure Told (v:World) (S:TS) (K:List (Nat×Int)) (pk:Nat→Option Obj) (n:Nat) (pc:Nat→Option Addr) (ln cp rb:Nat→Nat) (cl:Nat→List Cl):Prop where
 hpk:Has pk v
 po:∀ b,pk b≠none→¬ Own S K b∧b≠S.bk
 row:∀ b o,pk b=some o→∃ c e f,o=.cells c e f
 len:∀ j,j<n→(cl j).length=ln j∧ln j≤64
 pq:∀ j,j<n→0<ln j→pc j=some ⟨rb j,roOf (pc j),none⟩∧¬ Own S K (rb j)
 call:∀ j,j<n→∀ (k:Nat) (c:Cl),(cl j)[k]? = some c→v.cell? ⟨rb j,roOf (pc j)+k*4,none⟩=some (I c.po)∧v.cell? ⟨rb j,roOf (pc j)+k*4+1,none⟩=some (I c.ca)∧v.cell? ⟨rb j,roOf (pc j)+k*4+2,none⟩=some (I c.cb)∧v.cell? ⟨rb j,roOf (pc j)+k*4+3,none⟩=some (I c.cc)
 ca:∀ j,j<n→∀ c∈cl j,-9223372036854775808≤c.ca∧c.ca<9223372036854775808
noncomputable def allM (S:TS) (K:List (Nat×Int)) (u:World):Nat→Option Obj:=fun b=>open Classical in if Own S K b∨b=S.bk then none else u.heap[b]?
theorem allM_at {S:TS} {K:List (Nat×Int)} {u:World} {b:Nat} (h1:¬ Own S K b) (h2:b≠S.bk):allM S K u b=u.heap[b]?:=by
 unfold allM
 rw [if_neg (fun h=>h.elim h1 h2)]
theorem allM_own {S:TS} {K:List (Nat×Int)} {u:World} {b:Nat} (h:allM S K u b≠none):¬ Own S K b∧b≠S.bk:=by
 constructor<;>intro e<;>apply h<;>unfold allM
 ·rw [if_pos (.inl e)]
 ·rw [if_pos (.inr e)]
theorem allM_has {S:TS} {K:List (Nat×Int)} {u:World}:Has (allM S K u) u:=fun b o h=>by
 have:=allM_own (b:=b) (by rw [h];simp)
 rw [allM_at this.1 this.2] at h
 exact h
def scrOf (mc:Mc) (fid:FuncId) (caps:Array Value) (pk:Nat→Option Obj) (N n:Nat) (kb:List Nat) (pc:Nat→Option Addr) (ln cp rb:Nat→Nat) (cl:Nat→List Cl) (j:Nat):Scr mc :=
 { calls:=cl j,ans:=List.replicate (ln j) (0,0)
   X:=fun h tb gc b0=>{ h:=h,i:=j,tb:=tb,gc:=gc,bb:=b0,calls:=cl j,pc:=pc j,rb:=if ln j=0 then b0 else rb j,cap:=cp j,asl:=.slice (some ⟨N+4+3*j+2,0,none⟩) (ln j) (ln j),ab:=if ln j=0 then b0 else N+4+3*j+2,cap2:=ln j,aty:=42,fid:=fid,caps:=caps,pk:=pk,kb:=kb }
   p1:=N+4+3*j+1,p2:=N,p3:=N+2,p4:=N+4+3*j,rr:=N+1,m:=n,cp:=n,ix:=j,csl:=.slice (pc j) (cl j).length (cp j),asl:=.slice (some ⟨N+4+3*j+2,0,none⟩) (ln j) (ln j),caps:=caps }
theorem made_arow (n:Nat):(.cells (madeCells #[I 0,I 0] (n*2)) 42:Obj)=.cells (arow (List.replicate n (0,0))).toArray 42 (0,0):=by
 have:madeCells #[I 0,I 0] (n*2)=(arow (List.replicate n (0,0))).toArray:=by
  apply Array.ext_getElem?
  intro i
  rw [show (arow (List.replicate n (0,0))).toArray[i]? = (arow (List.replicate n (0,0)))[i]? by simp]
  by_cases hi:i<n*2
  ·have e1:(madeCells #[I 0,I 0] (n*2))[i]? = some (I 0):=by
    have:i % 2=0∨i % 2=1:=by omega
    rcases this with h|h<;>simp [madeCells,hi,h]
   rw [e1]
   have h2:i / 2<n:=by omega
   have h3:=arow_get (List.replicate n (0,0)) (i / 2) (0,0) (by simp [List.getElem?_replicate,h2])
   have:i=i / 2*2∨i=i / 2*2+1:=by omega
   rcases this with h|h
   ·rw [h];exact h3.1.symm
   ·rw [h];exact h3.2.symm
  ·rw [Array.getElem?_eq_none (by simp [madeCells];omega),List.getElem?_eq_none (by rw [arow_len];simp;omega)]
 rw [this]
section
variable {v u:World} {S:TS} {K:List (Nat×Int)} {caps:Array Value} {pk:Nat→Option Obj} {n:Nat} {pc:Nat→Option Addr} {ln cp rb:Nat→Nat} {cl:Nat→List Cl}
def futOf (N n:Nat) (ln:Nat→Nat) (j b:Nat):Prop:=∃ i,j≤i∧i<n∧0<ln i∧b=N+4+3*i+2
theorem script_of (hmine:∀ X:Fix mc,X.fid=fid→X.caps=caps→X.pk=pk→X.kb=K.map (·.1)→P.Mine X) (hm:Mem zn S K v) (hb:Open v S.bk) (t:Told v S K pk n pc ln cp rb cl) (s:Set20 v fid caps n pc ln cp u) {j:Nat} (hj:j<n) {Mm:Nat→Option Obj} {Fut:Nat→Prop} (hM:∀ b,(∀ i,i<j→b≠v.heap.size+4+3*i+2)→Mm b=allM S K u b) (hF:∀ b,Fut b↔futOf v.heap.size n ln j b) :
 Script P Mm Fut j (v.heap.size+3) (K.map (·.1)) (scrOf mc fid caps pk v.heap.size n (K.map (·.1)) pc ln cp rb cl j):=by
 have hbk:S.bk<v.heap.size:=by obtain ⟨c,m,h⟩:=hb;exact (Array.getElem?_eq_some_iff.1 h).1
 have hOw:∀ b,v.heap.size≤b→¬ Own S K b∧b≠S.bk:=fun b hb=>⟨fun h=>by have:=hm.lt h;omega,by omega⟩
 have cbk:∀ (a:Addr) (x:Value),v.cell? a=some x→a.block≠S.bk:=fun a x ha e=>by
  obtain ⟨c,m,h⟩:=hb
  unfold World.cell? at ha
  rw [e,h] at ha
  cases ha
 have clt:∀ (a:Addr) (x:Value),v.cell? a=some x→a.block<v.heap.size:=fun a x ha=>World.block_lt_of_cell? _ _ ha
 have hnew:∀ b,v.heap.size≤b→(∀ i,i<j→b≠v.heap.size+4+3*i+2)→Mm b=u.heap[b]?:=fun b h1 h2=>by rw [hM b h2,allM_at (hOw b h1).1 (hOw b h1).2]
 have hold:∀ (a:Addr) (x:Value),v.cell? a=some x→¬ Own S K a.block→Mm a.block=v.heap[a.block]?:=fun a x ha ho=>by
  rw [hM a.block (fun i _=>by have:=clt a x ha;omega),allM_at ho (cbk a x ha),s.old _ (clt a x ha)]
 have some_of:∀ (a:Addr) (x:Value),v.cell? a=some x→∃ o,v.heap[a.block]? = some o:=fun a x ha=>⟨_,Array.getElem?_eq_getElem (clt a x ha)⟩
 have holdc:∀ (w:World),Has Mm w→∀ (a:Addr) (x:Value),v.cell? a=some x→¬ Own S K a.block→w.cell? a=some x:=fun w hw a x ha ho=>by
  obtain ⟨o,e⟩:=some_of a x ha
  have:=hw a.block o (by rw [hold a x ha ho,e])
  rw [World.cell?_of_block (w:=v) (w':=w) (by rw [this,e])]
  exact ha
 have newc:∀ (w:World),Has Mm w→∀ (a:Addr) (x:Value),v.heap.size≤a.block→(∀ i,i<j→a.block≠v.heap.size+4+3*i+2)→u.cell? a=some x→w.cell? a=some x:=fun w hw a x h1 h2 ha=>by
  have hl:=World.block_lt_of_cell? _ _ ha
  have e:u.heap[a.block]? = some u.heap[a.block]:=Array.getElem?_eq_getElem hl
  have:=hw a.block _ (by rw [hnew a.block h1 h2,e])
  rw [World.cell?_of_block (w:=u) (w':=w) (by rw [this,e])]
  exact ha
 have pklt:∀ b,pk b≠none→b<v.heap.size:=fun b hb=>by
  obtain ⟨o,ho⟩:=Option.ne_none_iff_exists'.1 hb
  exact (Array.getElem?_eq_some_iff.1 (t.hpk b o ho)).1
 have pknone:∀ b,v.heap.size≤b→pk b=none:=fun b hb=>by
  cases h9:pk b with
  |none=>rfl
  |some o=>have:=pklt b (by rw [h9];simp);omega
 have pkM:∀ b,pk b≠none→Mm b=pk b:=fun b hb=>by
  have hl:=pklt b hb
  rw [hM b (fun i _=>by omega),allM_at (t.po b hb).1 (t.po b hb).2,s.old b hl]
  obtain ⟨o,ho⟩:=Option.ne_none_iff_exists'.1 hb
  rw [ho]
  exact t.hpk b o ho
 have hb3:=s.blk j hj
 have hln:=t.len j hj
 have c1:∀ {b:Nat} {x:Value} {ty:TypeId},u.heap[b]? = some (.cells #[x] ty)→u.cell? ⟨b,0,none⟩=some x:=fun {b x ty} h=>by unfold World.cell?;rw [h];rfl
 have hab:0<ln j→Mm (v.heap.size+4+3*j+2)≠none:=fun _=>by
  rw [hnew _ (by omega) (fun i hi=>by omega),hb3.2.2];simp
 refine ⟨hj,fun w hw=>⟨?_,?_,?_,?_,?_,?_⟩,fun h tb gc b0 hh hb0=>⟨⟨hh,?_,t.ca j hj,fun h0=>?_,fun h0=>?_,fun h0=>?_,fun h0=>?_,t.row⟩,rfl,rfl,rfl,rfl,rfl,rfl,rfl,rfl,rfl,⟨rfl,rfl,hmine _ rfl rfl rfl rfl⟩,fun w hw hbx=>⟨hbx,fun k c hk=>?_,fun h0=>?_,?_,fun b o hb=>?_⟩,fun b hp=>?_,fun b hp hf=>?_,?_⟩⟩
 ·exact newc w hw ⟨v.heap.size+3,j,none⟩ _ (by show _≤v.heap.size+3;omega) (fun i hi=>by show v.heap.size+3≠_;omega) (s.brow.cell hj)
 ·exact newc w hw ⟨_,0,none⟩ _ (by show _≤v.heap.size+4+3*j+1;omega) (fun i hi=>by show v.heap.size+4+3*j+1≠_;omega) (by show u.cell? ⟨v.heap.size+4+3*j+1,0,none⟩=some (.slice (pc j) (cl j).length (cp j));rw [hln.1];exact c1 hb3.2.1)
 ·exact newc w hw ⟨_,0,none⟩ _ (by show _≤v.heap.size;omega) (fun i hi=>by show v.heap.size≠_;omega) (c1 s.p2)
 ·exact newc w hw ⟨_,0,none⟩ _ (by show _≤v.heap.size+2;omega) (fun i hi=>by show v.heap.size+2≠_;omega) (c1 s.p3)
 ·exact newc w hw ⟨_,0,none⟩ _ (by show _≤v.heap.size+4+3*j;omega) (fun i hi=>by show v.heap.size+4+3*j≠_;omega) (c1 hb3.1)
 ·exact newc w hw ⟨v.heap.size+1,j,none⟩ _ (by show _≤v.heap.size+1;omega) (fun i hi=>by show v.heap.size+1≠_;omega) (s.rrow.cell hj)
 ·show ((cl j).length:Int)<_
  rw [hln.1];omega
 ·have h0':0<ln j:=by rw [←hln.1];exact h0
  show pc j=some ⟨if ln j=0 then b0 else rb j,roOf (pc j),none⟩
  rw [if_neg (by omega)]
  exact (t.pq j hj h0').1
 ·have h0':0<ln j:=by rw [←hln.1];exact h0
  show Value.slice (some ⟨v.heap.size+4+3*j+2,0,none⟩) (ln j) (ln j)=.slice (some ⟨if ln j=0 then b0 else v.heap.size+4+3*j+2,0,none⟩) (cl j).length (ln j)
  rw [if_neg (by omega),hln.1]
 ·have h0':ln j=0:=by rw [←hln.1];exact h0
  show (if ln j=0 then b0 else rb j)=b0∧(if ln j=0 then b0 else v.heap.size+4+3*j+2)=b0
  rw [if_pos h0',if_pos h0']
  exact ⟨rfl,rfl⟩
 ·have h0':0<ln j:=by rw [←hln.1];exact h0
  show (if ln j=0 then b0 else v.heap.size+4+3*j+2)≠b0∧(if ln j=0 then b0 else v.heap.size+4+3*j+2)≠(if ln j=0 then b0 else rb j)∧pk (if ln j=0 then b0 else v.heap.size+4+3*j+2)=none
  rw [if_neg (by omega),if_neg (by omega)]
  obtain ⟨c,hc⟩:∃ c,(cl j)[0]? = some c:=⟨_,List.getElem?_eq_getElem h0⟩
  have hcl:=clt _ _ (t.call j hj 0 c hc).1
  simp only at hcl
  exact ⟨hb0 _ (hab h0'),by omega,pknone _ (by omega)⟩
 ·have hk':(cl j)[k]? = some c:=hk
  have h0:0<ln j:=by have:=(List.getElem?_eq_some_iff.1 hk').1;omega
  have ho:=(t.pq j hj h0).2
  have h4:=t.call j hj k c hk'
  show w.cell? ⟨if ln j=0 then b0 else rb j,_,none⟩=_∧w.cell? ⟨if ln j=0 then b0 else rb j,_,none⟩=_∧w.cell? ⟨if ln j=0 then b0 else rb j,_,none⟩=_∧w.cell? ⟨if ln j=0 then b0 else rb j,_,none⟩=_
  rw [if_neg (by omega)]
  exact ⟨holdc w hw _ _ h4.1 ho,holdc w hw _ _ h4.2.1 ho,holdc w hw _ _ h4.2.2.1 ho,holdc w hw _ _ h4.2.2.2 ho⟩
 ·have h0':0<ln j:=by rw [←hln.1];exact h0
  show w.heap[if ln j=0 then b0 else v.heap.size+4+3*j+2]? = some (.cells (arow (List.replicate (ln j) (0,0))).toArray 42 (0,0))
  rw [if_neg (by omega),←made_arow]
  exact hw _ _ (by rw [hnew _ (by omega) (fun i hi=>by omega)];exact hb3.2.2)
 ·show (List.replicate (ln j) ((0:Int),(0:Int))).length=(cl j).length
  rw [List.length_replicate,hln.1]
 ·exact hw b o (by rw [pkM b (by have hb':pk b=some o:=hb;rw [hb'];simp)];exact hb)
 ·have mm:∀ (a:Addr) (x:Value),v.cell? a=some x→¬ Own S K a.block→Mm a.block≠none:=fun a x ha ho=>by
   obtain ⟨o,e⟩:=some_of a x ha
   rw [hold a x ha ho,e];simp
  by_cases h0:ln j=0
  ·simp only [Fix.Pr,scrOf,if_pos h0] at hp
   rcases hp with h|h|h|h
   ·exact .inl h
   ·exact .inl h
   ·exact .inl h
   ·exact .inr (by rw [pkM b h];exact h)
  ·simp only [Fix.Pr,scrOf,if_neg h0] at hp
   rcases hp with h|h|h|h
   ·exact .inl h
   ·subst h
    obtain ⟨c,hc⟩:∃ c,(cl j)[0]? = some c:=⟨_,List.getElem?_eq_getElem (by omega)⟩
    exact .inr (mm _ _ (t.call j hj 0 c hc).1 (t.pq j hj (by omega)).2)
   ·subst h;exact .inr (hab (by omega))
   ·exact .inr (by rw [pkM b h];exact h)
 ·obtain ⟨i,h1,h2,h3,rfl⟩:=(hF b).1 hf
  have hn0:v.heap.size+4+3*i+2≠b0:=hb0 _ (by
   rw [hnew _ (by omega) (fun i' hi'=>by omega),(s.blk i h2).2.2];simp)
  by_cases h0:ln j=0
  ·simp only [Fix.Pr,scrOf,if_pos h0] at hp ⊢
   rcases hp with h|h|h|h<;>first|exact absurd h hn0|omega|exact absurd (pknone _ (by omega)) h
  ·simp only [Fix.Pr,scrOf,if_neg h0] at hp ⊢
   obtain ⟨c,hc⟩:∃ c,(cl j)[0]? = some c:=⟨_,List.getElem?_eq_getElem (by omega)⟩
   have hcl:=clt _ _ (t.call j hj 0 c hc).1
   simp only at hcl
   rcases hp with h|h|h|h<;>first|exact absurd h hn0|omega|exact absurd (pknone _ (by omega)) h
 ·show (if ln j=0 then b0 else v.heap.size+4+3*j+2)=b0∨Fut (if ln j=0 then b0 else v.heap.size+4+3*j+2)
  by_cases h0:ln j=0
  ·rw [if_pos h0];exact .inl rfl
  ·rw [if_neg h0];exact .inr ((hF _).2 ⟨j,Nat.le_refl _,hj,by omega,rfl⟩)
theorem scripts_of (hmine:∀ X:Fix mc,X.fid=fid→X.caps=caps→X.pk=pk→X.kb=K.map (·.1)→P.Mine X) (hm:Mem zn S K v) (hb:Open v S.bk) (t:Told v S K pk n pc ln cp rb cl) (s:Set20 v fid caps n pc ln cp u):∀ (m j:Nat),j+m=n→∀ (Mm:Nat→Option Obj) (Fut:Nat→Prop),(∀ b,(∀ i,i<j→b≠v.heap.size+4+3*i+2)→Mm b=allM S K u b)→(∀ b,Fut b↔futOf v.heap.size n ln j b) →
 Scripts P (v.heap.size+3) (K.map (·.1)) j Mm Fut ((List.range' j m).map (scrOf mc fid caps pk v.heap.size n (K.map (·.1)) pc ln cp rb cl))
 |0,j,hjm,Mm,Fut,hM,hF=>.nil
 |m+1,j,hjm,Mm,Fut,hM,hF=>by
  have hj:j<n:=by omega
  have hbk:S.bk<v.heap.size:=by obtain ⟨c,m,h⟩:=hb;exact (Array.getElem?_eq_some_iff.1 h).1
  have hOw:∀ b,v.heap.size≤b→¬ Own S K b∧b≠S.bk:=fun b hb=>⟨fun h=>by have:=hm.lt h;omega,by omega⟩
  rw [List.range'_succ,List.map_cons]
  refine .cons (script_of hmine hm hb t s hj hM hF) (fun h tb gc b0 hb0=>?_)
  refine scripts_of hmine hm hb t s m (j+1) (by omega) _ _ (fun b hbi=>?_) (fun b=>?_)
  ·show (if b=(if ln j=0 then b0 else v.heap.size+4+3*j+2) then none else Mm b)=_
   by_cases h0:ln j=0
   ·rw [if_pos h0]
    by_cases e:b=b0
    ·rw [if_pos e,←hM b (fun i hi=>hbi i (by omega))]
     cases h9:Mm b with
     |none=>rfl
     |some o=>exact absurd e (hb0 b (by rw [h9];simp))
    ·rw [if_neg e]
     exact hM b (fun i hi=>hbi i (by omega))
   ·rw [if_neg h0,if_neg (hbi j (by omega))]
    exact hM b (fun i hi=>hbi i (by omega))
  ·show Fut b∧b≠(if ln j=0 then b0 else v.heap.size+4+3*j+2)↔_
   rw [hF b]
   constructor
   ·rintro ⟨⟨i,h1,h2,h3,rfl⟩,hne⟩
    refine ⟨i,?_,h2,h3,rfl⟩
    rcases Nat.lt_or_ge j i with h4|h4
    ·omega
    ·have:i=j:=by omega
     subst this
     rw [if_neg (by omega)] at hne
     exact absurd rfl hne
   ·rintro ⟨i,h1,h2,h3,rfl⟩
    refine ⟨⟨i,by omega,h2,h3,rfl⟩,?_⟩
    by_cases h0:ln j=0
    ·rw [if_pos h0]
     refine hb0 _ ?_
     rw [hM _ (fun i' hi'=>by omega),allM_at (hOw _ (by omega)).1 (hOw _ (by omega)).2,(s.blk i h2).2.2]
     simp
    ·rw [if_neg h0];omega
end
variable {mc:Mc} {fid:FuncId} {P:Pkg mc fid}
section
variable {S:TS} {K:List (Nat×Int)} {caps:Array Value} {pk:Nat→Option Obj} {n:Nat} {pc:Nat→Option Addr} {ln cp rb:Nat→Nat} {cl:Nat→List Cl}
abbrev scrs (mc:Mc) (fid:FuncId) (caps:Array Value) (pk:Nat→Option Obj) (N n:Nat) (K:List (Nat×Int)) (pc:Nat→Option Addr) (ln cp rb:Nat→Nat) (cl:Nat→List Cl):List (Scr mc):=(List.range' 0 n).map (scrOf mc fid caps pk N n (K.map (·.1)) pc ln cp rb cl)
structure Out20 (w:World) (S:TS) (K:List (Nat×Int)) (n:Nat) (ln:Nat→Nat) (S':TS) (K':List (Nat×Int)) (l:Nat→Ph) (w':World):Prop where
 mem:Mem zn S' K' w'
 size:w.heap.size≤w'.heap.size
 old:∀ b,b<w.heap.size→¬ Own S K b→b≠S.bk→w'.heap[b]? = w.heap[b]?∧¬ Own S' K' b
 rows:∀ j,j<n→w'.cell? ⟨w.heap.size+1,j,none⟩=some (.slice (some ⟨w.heap.size+4+3*j+2,0,none⟩) (ln j) (ln j))
 ans:∀ j,j<n→(l j).ans.length=ln j∧(0<ln j→w'.heap[w.heap.size+4+3*j+2]? = some (.cells (arow (l j).ans).toArray 42 (0,0)))∧∃ a,l j=.done a
 os:w'.os=w.os
 out:w'.output=w.output
theorem run20_all (P:Pkg mc fid) (hmine:∀ X:Fix mc,X.fid=fid→X.caps=caps→X.pk=pk→X.kb=K.map (·.1)→P.Mine X) {sb so cap:Nat} {cs:List Frame} {bc:Frame} {ac:Act} {ops:Array Oper} {q0:Nat} {rest:List Nat} {oc:Oper} {k0:List Item} (hoc:ops[q0]? = some oc) {w:World} {T:Trace} {gs:Array Goroutine} {q:Nat→Nat} (sl:Option (Nat×Nat)) (NT:Nat) (A:Alone gs w T q)
 (hg:gs[0]? = some (G ((base 54).at { tmps:=#[Pt S.wb 0,.slice (some ⟨sb,so,none⟩) n cap,.func (.func fid) #[] caps]++Array.replicate 36 undef,defers:=[] } [.code B20]) (bc.at ac (.inRegion ops (q0 :: rest) :: k0) :: cs)))
 (hm:Mem zn S K w) (hthr:S.thr=[]) (hran:S.ran=false) (hbk:Open w S.bk) (t:Told w S K pk n pc ln cp rb cl) (hs:∀ k,k<n→w.cell? ⟨sb,so+k,none⟩=some (.slice (pc k) (ln k) (cp k))) (hsb:sb<w.heap.size) (hn8:n≤8)
 (hlen:S.n+2*lens (scrs mc fid caps pk w.heap.size n K pc ln cp rb cl)≤1000000) (hsl:S.sched.length≤4611686018427387904) (hsc:∀ x∈S.sched,-9223372036854775808≤x∧x<9223372036854775808) (l0:Nat→Ph)
 (hturn:∀ S1 l1,Hires mc 0 (scrs mc fid caps pk w.heap.size n K pc ln cp rb cl) (nv { S with ran:=true }) l0 S1 l1→∃ m p',m≤NT∧Turns mc m ⟨S1,K,l1⟩ p'∧p'.S.n*40≤140737488355328) :
 ∃ (N':Nat) (gs':Array Goroutine) (w':World) (sl':Option (Nat×Nat)) (T':Trace) (q':Nat→Nat) (S':TS) (S1:TS) (l1:Nat→Ph) (m:Nat) (p':PSt),
   runNT Try.prog N' (crowd gs w sl) T=(.next (crowd gs' w' sl'),T')∧gs'.size=gs.size+n∧gs'[0]? = some (G (bc.at (ac.put oc.dst (.slice (some ⟨w.heap.size+1,0,none⟩) n n)) (.inRegion ops rest :: k0)) cs) ∧
   Alone gs' w' T' q'∧nv S'=p'.S∧Hires mc 0 (scrs mc fid caps pk w.heap.size n K pc ln cp rb cl) (nv { S with ran:=true }) l0 S1 l1∧Turns mc m ⟨S1,K,l1⟩ p'∧Out20 w S K n ln S' p'.K p'.l w':=by
 have hG:GoesI Try.prog true (DT (ScZ zn) (fun _=>False)) (fun g w'=>∃ (bd:Frame) (ad:Act) (od:Array Oper) (qd:Nat) (rd:List Nat) (oe:Oper) (kd:List Item),Set20 w fid caps n pc ln cp w'∧od[qd]? = some oe ∧
  (∀ (Ch:Nat→Prop) (Stop:Goroutine→World→Prop) (w1:World) (x:Value),w1.cell? ⟨w.heap.size+2,0,none⟩=some x→(∀ d,GoesI Try.prog true (DT (ScZ zn) Ch) Stop (G (bc.at (ac.put oc.dst x) (.inRegion ops rest :: k0)) cs) (w1.at d))→GoesI Try.prog true (DT (ScZ zn) Ch) Stop (G (bd.at (ad.put oe.dst (.tuple #[])) (.inRegion od rd :: kd)) (bc.at ac (.inRegion ops (q0 :: rest) :: k0) :: cs)) w1) ∧
  g=G ((base 86).at { tmps:=#[Pt S.wb 0,.slice (some ⟨w.heap.size+3,0,none⟩) n n]++Array.replicate 60 undef,defers:=[] } [.code B35]) (bd.at ad (.inRegion od (qd :: rd) :: kd) :: bc.at ac (.inRegion ops (q0 :: rest) :: k0) :: cs)) (G ((base 54).at { tmps:=#[Pt S.wb 0,.slice (some ⟨sb,so,none⟩) n cap,.func (.func fid) #[] caps]++Array.replicate 36 undef,defers:=[] } [.code B20]) (bc.at ac (.inRegion ops (q0 :: rest) :: k0) :: cs)) w:=by
  refine run20_in fid caps S.wb sb so n cap hn8 pc ln cp (fun k hk=>(t.len k hk).2) hs cs hoc hsb (Rel.refl w) (fun c hc=>hc.elim) (fun v' w' bd ad od qd rd oe kd hr hn hset ho hback=>GoesI.stop fun d=>⟨bd,ad,od,qd,rd,oe,kd,?_,ho,hback,rfl⟩)
  have e:(w'.at d).heap=v'.heap:=hr.eq
  exact ⟨by rw [e];exact hset.size,by rw [e];exact hset.p2,hset.rrow.of_block (by rw [e]),by rw [e];exact hset.p3,hset.brow.of_block (by rw [e]),fun j hj=>by rw [e];exact hset.blk j hj,fun b hb=>by rw [e];exact hset.old b hb,hr.os.trans hset.os,hr.output.trans hset.out⟩
 obtain ⟨N1,gs1,a1,w1,sl1,T1,q1,r1,z1,h1,⟨bd,ad,od,qd,rd,oe,kd,hset,hoe,hback,rfl⟩,A1⟩:=alone_goes A hg sl hG
 have hbkl:S.bk<w.heap.size:=by obtain ⟨c,m,h⟩:=hbk;exact (Array.getElem?_eq_some_iff.1 h).1
 have hm1:Mem zn S K w1:=(hm.grows ⟨by rw [hset.size];omega,hset.old,hset.os,hset.out⟩).mem
 have hbk1:Open w1 S.bk:=by
  obtain ⟨c,m,h⟩:=hbk
  exact ⟨c,m,by rw [hset.old _ hbkl];exact h⟩
 obtain ⟨B1,hB1,hP1⟩:=A1.past
 have sc:=scripts_of hmine hm hbk t hset n 0 (by omega) (allM S K w1) (futOf w.heap.size n ln 0) (fun b _=>rfl) (fun b=>Iff.rfl)
 obtain ⟨N2,gs2,w2,sl2,T2,q2,B2,S2,X2,Mm2,S1,l1,m,p',r2,z2,h2,hL2,hP2,hB2,hm2,hnv,hH,hT,hHas,hMo,hio,hXs,hPM,hMa,hMb⟩:=run35_all P hoe (K:=K) (S:=S) (w:=w1) sl1 (Mm:=⟨allM S K w1,w1.os,w1.output⟩) (Fut:=futOf w.heap.size n ln 0) (ss:=scrs mc fid caps pk w.heap.size n K pc ln cp rb cl) NT A1.left hP1 hB1 h1 hm1 hthr hran hbk1 allM_has (fun b hb=>(allM_own hb).1) (by
  show allM S K w1 S.bk=none
  unfold allM
  rw [if_pos (.inr rfl)]) ⟨rfl,rfl⟩ (fun b ⟨i,_,hi,h0,e⟩=>by
  subst e
  show allM S K w1 _≠none
  rw [allM_at (fun h=>by have:=hm.lt h;omega) (by omega),(hset.blk i hi).2.2]
  simp) sc (by simp) hn8 hlen hsl hsc l0 hturn
 have hXj:∀ j,j<n→∃ h tb gc b0,X2 j=(scrOf mc fid caps pk w.heap.size n (K.map (·.1)) pc ln cp rb cl j).X h tb gc b0:=fun j hj=>by
  have:=hXs j (scrOf mc fid caps pk w.heap.size n (K.map (·.1)) pc ln cp rb cl j) (by simp [scrs,hj])
  rw [Nat.zero_add] at this
  exact this
 have hab:∀ j,j<n→0<ln j→(X2 j).ab=w.heap.size+4+3*j+2:=fun j hj h0=>by
  obtain ⟨h,tb,gc,b0,e⟩:=hXj j hj
  rw [e]
  show (if ln j=0 then b0 else _)=_
  rw [if_neg (by omega)]
 have hkeep:∀ b o,allM S K w1 b=some o→(∀ j,j<n→b≠w.heap.size+4+3*j+2)→w2.heap[b]? = some o∧¬ Own S2 p'.K b:=fun b o hb hne=>by
  have h9:Mm2.M b=some o:=by
   rcases hMb b o hb with h|⟨j,hj,h3,h4⟩
   ·exact h
   ·exfalso
    by_cases h0:0<ln j
    ·exact hne j hj (h3.trans (hab j hj h0))
    ·obtain ⟨h,tb,gc,b0,e⟩:=hXj j hj
     rw [e] at h3 h4
     apply h4
     rw [h3]
     show (if ln j=0 then b0 else _)=b0
     rw [if_pos (by omega)]
  exact ⟨hHas b o h9,hMo b (by rw [h9];simp)⟩
 have hnew:∀ b o,w.heap.size≤b→w1.heap[b]? = some o→(∀ j,j<n→b≠w.heap.size+4+3*j+2)→w2.heap[b]? = some o:=fun b o hb h hne=>(hkeep b o (by rw [allM_at (fun h=>by have:=hm.lt h;omega) (by omega)];exact h) hne).1
 have c2:w2.cell? ⟨w.heap.size+2,0,none⟩=some (.slice (some ⟨w.heap.size+1,0,none⟩) n n):=by
  unfold World.cell?
  rw [hnew _ _ (by show _≤w.heap.size+2;omega) hset.p3 (fun j hj=>by show w.heap.size+2≠_;omega)]
  rfl
 have A2:Alone gs2 w2 T2 q2:=⟨hL2,B2,hB2,hP2⟩
 obtain ⟨N3,gs3,a3,w3,sl3,T3,q3,r3,z3,h3,⟨rfl,d3,rfl⟩,A3⟩:=alone_goes A2 h2 sl2 (hback (fun _=>False) (fun g w'=>g=G (bc.at (ac.put oc.dst (.slice (some ⟨w.heap.size+1,0,none⟩) n n)) (.inRegion ops rest :: k0)) cs∧∃ d,w'=w2.at d) w2 _ c2 (fun d=>GoesI.stop fun d'=>⟨rfl,d',rfl⟩))
 refine ⟨N1+N2+N3,gs3,w2.at d3,sl3,T3,q3,S2,S1,l1,m,p',runNT_then (runNT_then r1 r2) r3,by omega,h3,A3,hnv,hH,hT,⟨?_,?_,fun b hb ho hk=>?_,fun j hj=>?_,fun j hj=>?_,?_,?_⟩⟩
 ·exact (hm2.grows (v':=w2.at d3) ⟨Nat.le_refl _,fun _ _=>rfl,rfl,rfl⟩).mem
 ·show w.heap.size≤w2.heap.size
  have:=(Array.getElem?_eq_some_iff.1 (hnew _ _ (by omega:w.heap.size≤w.heap.size+2) hset.p3 (fun j hj=>by omega))).1
  omega
 ·have e:w.heap[b]? = some w.heap[b]:=Array.getElem?_eq_getElem hb
  have:=hkeep b _ (by rw [allM_at ho hk,hset.old b hb];exact e) (fun j hj=>by omega)
  exact ⟨this.1.trans e.symm,this.2⟩
 ·have hl:=hset.rrow.lt
  have e:w1.heap[w.heap.size+1]? = some w1.heap[w.heap.size+1]:=Array.getElem?_eq_getElem hl
  have h9:=hnew _ _ (by omega) e (fun j hj=>by omega)
  show w2.cell? _=_
  rw [World.cell?_of_block (w:=w1) (w':=w2) (by show w2.heap[w.heap.size+1]? = w1.heap[w.heap.size+1]?;rw [h9,e])]
  exact hset.rrow.cell hj
 ·obtain ⟨hpm,hd⟩:=hPM j hj
  obtain ⟨h,tb,gc,b0,e⟩:=hXj j hj
  have hc:(X2 j).calls.length=ln j:=by rw [e];exact (t.len j hj).1
  refine ⟨hpm.len.trans hc,fun h0=>?_,hd⟩
  have:=hpm.row (by rw [hc];exact h0)
  rw [hab j hj h0] at this
  rw [e] at this
  exact this
 ·exact hio.1.trans hset.os
 ·exact hio.2.trans hset.out
end
end Go.Proofs.Ytfjjoohflcchnaa.Gen
namespace Go.Lift
open Go.Conc
section
variable {P:Program} {wr:Bool}
theorem calm_listForIn_mem {α σ:Type} {f:α→σ→Sem (ForInStep σ)}:∀ (l:List α) (s:σ),(∀ a∈l,∀ s,calm P wr (f a s))→calm P wr (forIn l s f)
 | [],s,_=>by rw [List.forIn_nil];exact calm_pure _
 |a :: l,s,h=>by
  rw [List.forIn_cons]
  refine calm_bind (h a (List.mem_cons_self ..) s) fun x=>?_
  cases x with
  |done b=>exact calm_pure _
  |yield b=>exact calm_listForIn_mem l b (fun a' ha=>h a' (List.mem_cons_of_mem _ ha))
theorem calm_arrayForIn_mem {α σ:Type} {f:α→σ→Sem (ForInStep σ)} (l:Array α) (s:σ) (h:∀ a∈l,∀ s,calm P wr (f a s)):calm P wr (forIn l s f):=by
 rw [←Array.forIn_toList]
 exact calm_listForIn_mem _ _ (fun a ha=>h a (by simpa using ha))
theorem calm_equalIn_flat {t:TypeId} (ht:flatT P t=true) (d:Nat) (x y:Value):calm P wr (Op.equalIn (d+1) t x y):=by
 unfold Op.equalIn
 refine calm_und fun d hd=>?_
 unfold flatT at ht
 rw [hd] at ht
 split
 all_goals first|(exfalso;revert ht;simp;done)|repeat' (first|with_reducible (first|exact calm_viewAt _|exact calm_numberAt _|exact calm_asNumber _ _|exact calm_behindNumber _|exact calm_noView _|exact calm_byteOf _|exact calm_partAt _ _ _|exact calm_fieldPlace _ _|exact calm_typeStr _|exact calm_alloc _|exact calm_box _ _|exact calm_build _ _|exact calm_buildSlice _ _ _|exact calm_loadAt _ _|exact calm_fieldAt _ _ _|exact calm_indexAt _ _ _|exact calm_sliceBound _ _ _|exact calm_sliceBounds _ _ _ _ _ _|exact calm_slice _ _ _ _ _|exact calm_sliceAt _ _ _ _ _|exact calm_makeChan _ _|exact calm_makeSlice _ _ _|exact calm_field _ _ _|exact calm_index _ _ _|exact calm_extract _ _|exact calm_len _ _ _|exact calm_cap _ _ _|exact calm_lenOf _|exact calm_firstCells _ _ _|exact calm_holdsCells _ _|exact calm_intArith _ _ _ _|exact calm_intDiv _ _ _ _|exact calm_intBits _ _ _ _|exact calm_intCmp _ _ _|exact calm_shift _ _ _ _ _|exact calm_stringOp _ _ _|exact calm_floatArith _ _ _ _|exact calm_floatCmp _ _ _ _|exact calm_twoPlaces _ _|exact calm_addrSub _ _ _|exact calm_addrCmp _ _ _|exact calm_addrMod _ _ _|exact calm_unsafeAdd _ _ _|exact calm_movedNumber _ _ _|exact calm_movedPointer _ _ _|exact calm_unary _ _|exact calm_floatToFloat _ _ _|exact calm_pure _|exact calm_stuck _|exact calm_unsupported _|exact calm_goPanic _|exact calm_runtimePanic _|exact calm_boundsPanic _ _ _ _|exact calm_program|exact calm_shape _|exact calm_getObj _|exact calm_newObj _|exact calm_choose _|exact calm_load _ _|exact calm_askRoom _|exact calm_typeInfo _|exact calm_underlying _|exact calm_zeroValue _|exact calm_sizeOf _|exact calm_isAgg _|exact calm_elemOf _|exact calm_newRow _ _|exact calm_newVar _ _|exact calm_asIntOf _|exact calm_asInt _|exact calm_asBool _|exact calm_asAgg _|exact calm_asAddr _|exact calm_sureAddr _|exact calm_loadCells _ _|exact calm_loadVar _ _|exact calm_part _ _ _|exact calm_markRoom|exact calm_markExtern _|(refine calm_arrayForIn (fun _ _=>?_) _ _)|(refine calm_rangeForIn (fun _ _=>?_) _ _)|apply calm_map|refine calm_bind ?_ (fun _=>?_))|split|dsimp only)
theorem calm_equal_struct {t:TypeId} {fields:Array Field} (ht:P.underlying t=some (.struct fields)) (hf:∀ f∈fields,flatT P f.type=true) (x y:Value):calm P wr (Op.equal t x y):=by
 show calm P wr (Op.equalIn (9998+1+1) t x y)
 unfold Op.equalIn
 refine calm_und fun d hd=>?_
 rw [ht] at hd
 cases hd
 cases x<;>try exact calm_stuck _
 cases y<;>try exact calm_stuck _
 rename_i xs ys
 simp only
 refine calm_bind calm_program fun p=>?_
 split
 ·refine calm_bind (calm_unsupported _) fun _=>?_
  refine calm_bind (calm_arrayForIn_mem _ _ fun f hff s=>?_) fun s=>?_
  ·split
   ·refine calm_bind (calm_part _ _ _) fun a=>calm_bind (calm_part _ _ _) fun b=>calm_bind (calm_equalIn_flat (hf f hff) 9998 a b) fun c=>?_
    split<;>exact calm_pure _
   ·exact calm_pure _
  ·split<;>exact calm_pure _
 ·skip
  refine calm_bind (calm_arrayForIn_mem _ _ fun f hff s=>?_) fun s=>?_
  ·split
   ·refine calm_bind (calm_part _ _ _) fun a=>calm_bind (calm_part _ _ _) fun b=>calm_bind (calm_equalIn_flat (hf f hff) 9998 a b) fun c=>?_
    split<;>exact calm_pure _
   ·exact calm_pure _
  ·split<;>exact calm_pure _
end
section
variable {P:Program} {wr:Bool} {L:FuncId→Prop}
def flatS (P:Program) (t:TypeId):Bool:=match P.underlying t with
 |some (.struct fs)=>fs.all (fun f=>flatT P f.type)
 |_=>false
def askEq (P:Program):Op→Bool
 |.binOp .eql t _ _ _=>flatS P t
 |.binOp .neq t _ _ _=>flatS P t
 |_=>false
theorem calm_flatS {t:TypeId} (h:flatS P t=true) (x y:Value):calm P wr (Op.equal t x y):=by
 unfold flatS at h
 split at h
 ·rename_i fs e
  exact calm_equal_struct e (fun f hf=>(Array.all_eq_true_iff_forall_mem.1 h) f hf) x y
 ·cases h
theorem fineOp_eq {o:Oper} (h:askEq P o.op=true):fineOp P wr L o:=by
 obtain ⟨dst,op,type,pos,after,guard⟩:=o
 unfold askEq at h
 simp only at h
 split at h
 ·rename_i t x y t'
  refine fun a=>?_
  have he:execOp a.eval { dst:=dst,op:=.binOp .eql t x y t',type:=type,pos:=pos,after:=after,guard:=guard }=(do eqGuard .eql t x y (a.eval x) (a.eval y);binOp .eql t (a.eval x) (a.eval y):Sem Value).bind fun v=>Sem.pure (Next.value v):=rfl
  rw [he]
  exact ⟨calm_sbind (calm_bind (calm_eqGuard _ _ _ _ _ _) fun _=>calm_binOp _ _ _ _ (fun _=>calm_flatS h _ _)) fun _=>trivial,fun w x w' h=>.inl (val_out h)⟩
 ·rename_i t x y t'
  refine fun a=>?_
  have he:execOp a.eval { dst:=dst,op:=.binOp .neq t x y t',type:=type,pos:=pos,after:=after,guard:=guard }=(do eqGuard .neq t x y (a.eval x) (a.eval y);binOp .neq t (a.eval x) (a.eval y):Sem Value).bind fun v=>Sem.pure (Next.value v):=rfl
  rw [he]
  exact ⟨calm_sbind (calm_bind (calm_eqGuard _ _ _ _ _ _) fun _=>calm_binOp _ _ _ _ (fun _=>calm_flatS h _ _)) fun _=>trivial,fun w x w' h=>.inl (val_out h)⟩
 ·cases h
def askMax:Op→Bool
 |.call { callee:=.builtin .max,args:=ar,.. }=>match ar.toList with
  | [_,.const (.int _ _)]=>true
  |_=>false
 |_=>false
theorem calm_max2 (x:Value) (k:IntKind) (y:Int):calm P wr (Builtin.max2 x (.int k y)):=by
 cases x<;>first|exact calm_pure _|exact calm_stuck _|(rename_i p;cases p<;>first|exact calm_stuck _|exact calm_unsupported _)
theorem fineOp_max {o:Oper} (h:askMax o.op=true):fineOp P wr L o:=by
 obtain ⟨dst,op,type,pos,after,guard⟩:=o
 unfold askMax at h
 simp only at h
 split at h
 ·rename_i ar ats
  split at h
  ·rename_i x k y e
   refine fun a=>?_
   have he:execOp a.eval { dst:=dst,op:=.call { callee:=.builtin .max,args:=ar,argTypes:=ats },type:=type,pos:=pos,after:=after,guard:=guard }=(Builtin.max_ ats type (ar.map a.eval)).bind fun v=>Sem.pure (Next.value v):=rfl
   rw [he]
   refine ⟨calm_sbind ?_ fun _=>trivial,fun w x w' h=>.inl (val_out h)⟩
   unfold Builtin.max_
   have e2:(ar.map a.eval).toList=[a.eval x,.int k y]:=by rw [Array.toList_map,e];rfl
   rw [e2]
   show calm P wr ([Value.int k y].foldlM Builtin.max2 (a.eval x))
   rw [List.foldlM_cons]
   exact calm_bind (calm_max2 _ _ _) fun _=>calm_pure _
  ·cases h
 ·cases h
def askCodeS (P:Program) (wr:Bool) (fs:List FuncId) (xs:List (FuncId×Nat)):Code→Bool
 |.skip|.ret|.label _|.exit _=>true
 |.seq a b=>askCodeS P wr fs xs a&&askCodeS P wr fs xs b
 |.cond _ a b=>askCodeS P wr fs xs a&&askCodeS P wr fs xs b
 |.block _ c=>askCodeS P wr fs xs c
 |.loop c=>askCodeS P wr fs xs c
 |.region _ ops _=>ops.all fun o=>(plainOp P wr o.op||askCall fs xs o.op)||(askEq P o.op||askMax o.op)
 |_=>false
theorem fineCode_askS {fs:List FuncId} {xs:List (FuncId×Nat)} (hfs:∀ f∈fs,Callable P L f) (hxs:∀ x∈xs,ExtOk P wr x.1 x.2):∀ {c:Code},askCodeS P wr fs xs c=true→fineCode P wr L c:=by
 intro c
 induction c with
 |seq a b iha ihb=>intro h;simp only [askCodeS,Bool.and_eq_true] at h;exact ⟨iha h.1,ihb h.2⟩
 |cond o a b iha ihb=>intro h;simp only [askCodeS,Bool.and_eq_true] at h;exact ⟨iha h.1,ihb h.2⟩
 |block id c ih=>intro h;exact ih h
 |loop c ih=>intro h;exact ih h
 |region id ops d =>
  intro h
  simp only [askCodeS,Array.all_eq_true_iff_forall_mem] at h
  intro o ho
  rcases Bool.or_eq_true_iff.1 (h o ho) with h|h
  ·exact fineOp_ask hfs hxs h
  ·rcases Bool.or_eq_true_iff.1 h with h|h
   ·exact fineOp_eq h
   ·exact fineOp_max h
 |skip=>intro _;trivial
 |ret=>intro _;trivial
 |label l=>intro _;trivial
 |exit id=>intro _;trivial
 |_=>intro h;simp [askCodeS] at h
theorem fineFn_askS {fs:List FuncId} {xs:List (FuncId×Nat)} (hfs:∀ f∈fs,Callable P L f) (hxs:∀ x∈xs,ExtOk P wr x.1 x.2) {f:FuncId} {fn:Func} {c:Code} (hf:P.funcs[f]? = some fn) (hb:fn.body=some c) (h:askCodeS P wr fs xs c=true):fineFn P wr L f :=
 ⟨fn,c,hf,hb,fineCode_askS hfs hxs h,calm_results fn⟩
end
end Go.Lift
namespace Go.Proofs.Ytfjjoohflcchnaa
open Go Go.Lift Go.Conc Go.RowKit
def plainV:List FuncId:=[56,59,61,62,63,64,89,106,114,18,20,21,22,29,53,58,83,31,32,34,35,36,37,44,68,82]
def LV (f:FuncId):Prop:=f∈plainV
theorem callV:∀ f∈plainV,Callable Try.prog LV f:=by
 intro f hf
 have hf':=hf
 simp only [plainV,List.mem_cons,List.not_mem_nil,or_false] at hf
 rcases hf with rfl|rfl|rfl|rfl|rfl|rfl|rfl|rfl|rfl|rfl|rfl|rfl|rfl|rfl|rfl|rfl|rfl|rfl|rfl|rfl|rfl|rfl|rfl|rfl|rfl|rfl
 ·exact ⟨hf',Try.f56,Try.func56,by kernel_rfl,by kernel_rfl⟩
 ·exact ⟨hf',Try.f59,Try.func59,by kernel_rfl,by kernel_rfl⟩
 ·exact ⟨hf',Try.f61,Try.func61,by kernel_rfl,by kernel_rfl⟩
 ·exact ⟨hf',Try.f62,Try.func62,by kernel_rfl,by kernel_rfl⟩
 ·exact ⟨hf',Try.f63,Try.func63,by kernel_rfl,by kernel_rfl⟩
 ·exact ⟨hf',Try.f64,Try.func64,by kernel_rfl,by kernel_rfl⟩
 ·exact ⟨hf',Try.f89,Try.func89,by kernel_rfl,by kernel_rfl⟩
 ·exact ⟨hf',Try.f106,Try.func106,by kernel_rfl,by kernel_rfl⟩
 ·exact ⟨hf',Try.f114,Try.func114,by kernel_rfl,by kernel_rfl⟩
 ·exact ⟨hf',Try.f18,Try.func18,by kernel_rfl,by kernel_rfl⟩
 ·exact ⟨hf',Try.f20,Try.func20,by kernel_rfl,by kernel_rfl⟩
 ·exact ⟨hf',Try.f21,Try.func21,by kernel_rfl,by kernel_rfl⟩
 ·exact ⟨hf',Try.f22,Try.func22,by kernel_rfl,by kernel_rfl⟩
 ·exact ⟨hf',Try.f29,Try.func29,by kernel_rfl,by kernel_rfl⟩
 ·exact ⟨hf',Try.f53,Try.func53,by kernel_rfl,by kernel_rfl⟩
 ·exact ⟨hf',Try.f58,Try.func58,by kernel_rfl,by kernel_rfl⟩
 ·exact ⟨hf',Try.f83,Try.func83,by kernel_rfl,by kernel_rfl⟩
 ·exact ⟨hf',Try.f31,Try.func31,by kernel_rfl,by kernel_rfl⟩
 ·exact ⟨hf',Try.f32,Try.func32,by kernel_rfl,by kernel_rfl⟩
 ·exact ⟨hf',Try.f34,Try.func34,by kernel_rfl,by kernel_rfl⟩
 ·exact ⟨hf',Try.f35,Try.func35,by kernel_rfl,by kernel_rfl⟩
 ·exact ⟨hf',Try.f36,Try.func36,by kernel_rfl,by kernel_rfl⟩
 ·exact ⟨hf',Try.f37,Try.func37,by kernel_rfl,by kernel_rfl⟩
 ·exact ⟨hf',Try.f44,Try.func44,by kernel_rfl,by kernel_rfl⟩
 ·exact ⟨hf',Try.f68,Try.func68,by kernel_rfl,by kernel_rfl⟩
 ·exact ⟨hf',Try.f82,Try.func82,by kernel_rfl,by kernel_rfl⟩
theorem fineV:∀ f,LV f→fineFn Try.prog true LV f:=by
 intro f hf
 simp only [LV,plainV,List.mem_cons,List.not_mem_nil,or_false] at hf
 rcases hf with rfl|rfl|rfl|rfl|rfl|rfl|rfl|rfl|rfl|rfl|rfl|rfl|rfl|rfl|rfl|rfl|rfl|rfl|rfl|rfl|rfl|rfl|rfl|rfl|rfl|rfl
 ·exact fineFn_askS callV extT Try.func56 (c:=Try.f56.body.getD .skip) (by rfl) (by kernel_rfl)
 ·exact fineFn_askS callV extT Try.func59 (c:=Try.f59.body.getD .skip) (by rfl) (by kernel_rfl)
 ·exact fineFn_askS callV extT Try.func61 (c:=Try.f61.body.getD .skip) (by rfl) (by kernel_rfl)
 ·exact fineFn_askS callV extT Try.func62 (c:=Try.f62.body.getD .skip) (by rfl) (by kernel_rfl)
 ·exact fineFn_askS callV extT Try.func63 (c:=Try.f63.body.getD .skip) (by rfl) (by kernel_rfl)
 ·exact fineFn_askS callV extT Try.func64 (c:=Try.f64.body.getD .skip) (by rfl) (by kernel_rfl)
 ·exact fineFn_askS callV extT Try.func89 (c:=Try.f89.body.getD .skip) (by rfl) (by kernel_rfl)
 ·exact fineFn_askS callV extT Try.func106 (c:=Try.f106.body.getD .skip) (by rfl) (by kernel_rfl)
 ·exact fineFn_askS callV extT Try.func114 (c:=Try.f114.body.getD .skip) (by rfl) (by kernel_rfl)
 ·exact fineFn_askS callV extT Try.func18 (c:=Try.f18.body.getD .skip) (by rfl) (by kernel_rfl)
 ·exact fineFn_askS callV extT Try.func20 (c:=Try.f20.body.getD .skip) (by rfl) (by kernel_rfl)
 ·exact fineFn_askS callV extT Try.func21 (c:=Try.f21.body.getD .skip) (by rfl) (by kernel_rfl)
 ·exact fineFn_askS callV extT Try.func22 (c:=Try.f22.body.getD .skip) (by rfl) (by kernel_rfl)
 ·exact fineFn_askS callV extT Try.func29 (c:=Try.f29.body.getD .skip) (by rfl) (by kernel_rfl)
 ·exact fineFn_askS callV extT Try.func53 (c:=Try.f53.body.getD .skip) (by rfl) (by kernel_rfl)
 ·exact fineFn_askS callV extT Try.func58 (c:=Try.f58.body.getD .skip) (by rfl) (by kernel_rfl)
 ·exact fineFn_askS callV extT Try.func83 (c:=Try.f83.body.getD .skip) (by rfl) (by kernel_rfl)
 ·exact fineFn_askS callV extT Try.func31 (c:=Try.f31.body.getD .skip) (by rfl) (by kernel_rfl)
 ·exact fineFn_askS callV extT Try.func32 (c:=Try.f32.body.getD .skip) (by rfl) (by kernel_rfl)
 ·exact fineFn_askS callV extT Try.func34 (c:=Try.f34.body.getD .skip) (by rfl) (by kernel_rfl)
 ·exact fineFn_askS callV extT Try.func35 (c:=Try.f35.body.getD .skip) (by rfl) (by kernel_rfl)
 ·exact fineFn_askS callV extT Try.func36 (c:=Try.f36.body.getD .skip) (by rfl) (by kernel_rfl)
 ·exact fineFn_askS callV extT Try.func37 (c:=Try.f37.body.getD .skip) (by rfl) (by kernel_rfl)
 ·exact fineFn_askS callV extT Try.func44 (c:=Try.f44.body.getD .skip) (by rfl) (by kernel_rfl)
 ·exact fineFn_askS callV extT Try.func68 (c:=Try.f68.body.getD .skip) (by rfl) (by kernel_rfl)
 ·exact fineFn_askS callV extT Try.func82 (c:=Try.f82.body.getD .skip) (by rfl) (by kernel_rfl)
end Go.Proofs.Ytfjjoohflcchnaa
namespace Go.Proofs.Ytfjjoohflcchnaa.Gen
open Go Go.Lift Go.Conc Go.RowKit
def newS (wb bk base:Nat) (sc:Value) (xs:List Int):TS :=
 { wb:=wb,bk:=bk,base:=base,us:=0,n:=0,la:=-1,sc:=sc,cv:=.slice none 0 0,ths:=.slice none 0 0,tv:=.slice none 0 0,sched:=xs,chg:=[],tr:=[],stk:=false,ran:=false,thr:=[] }
structure IsNew (v:World) (xs:List Int) (wb bk:Nat) (sc:Value) (v':World):Prop where
 mem:Mem zn (newS wb bk v.heap.size sc xs) [] v'
 opn:Open v' bk
 new:∀ b,Own (newS wb bk v.heap.size sc xs) [] b∨b=bk→v.heap.size≤b
 old:Grows v v'
abbrev rowNew (sc:Value) (bk:Nat):Array Value:=#[sc,I 0,I (-1),.slice none 0 0,.slice none 0 0,.slice none 0 0,.bool false,.bool false,.chan (some bk)]
theorem new_rep {v u v':World} {xs:List Int} {g cap bk m:Nat} (hg:Grows v u) (hown:u.ownsRow v.heap.size 3 1 (.slice (some ⟨g,0,none⟩) m cap) m (xs.map I)) (hl:xs.length=m) (hbk:u.heap[bk]? = some (.chan 0 #[] false 0 0 false)) (hb:v.heap.size≤bk)
 (hh:v'.heap=u.heap.push (.cells (rowNew (.slice (some ⟨g,0,none⟩) m cap) bk) 83)) (ho:v'.os=u.os) (hu:v'.output=u.output):IsNew v xs u.heap.size bk (.slice (some ⟨g,0,none⟩) m cap) v':=by
 have hold:∀ b,b<u.heap.size→v'.heap[b]? = u.heap[b]?:=fun b hb=>by rw [hh,Array.getElem?_push,if_neg (by omega)]
 have hs':v'.heap.size=u.heap.size+1:=by rw [hh];simp
 have hgl:=own_lt hown g rfl
 have hsz:=hg.size
 have hblk:∀ k b,blk (newS u.heap.size bk v.heap.size (.slice (some ⟨g,0,none⟩) m cap) xs) k=some b→(k=0∧b=u.heap.size)∨(k=4∧b=g):=fun k b hk=>by
  match k,hk with
  |0,hk=>cases hk;exact .inl ⟨rfl,rfl⟩
  |1,hk=>cases hk
  |2,hk=>cases hk
  |3,hk=>cases hk
  |4,hk=>cases hk;exact .inr ⟨rfl,rfl⟩
  |k+5,hk=>simp [blk,newS] at hk
 have hnil:v'.ownsRow v.heap.size 3 1 (.slice none 0 0) 0 []:=World.ownsRow_nil _ _ _ _
 refine ⟨⟨⟨?_,fun i t ht=>by simp [newS] at ht,World.ownsRow_nil _ _ _ _,World.ownsRow_nil _ _ _ _,World.ownsRow_nil _ _ _ _,?_,by show v.heap.size≤_;omega,fun j k b hj hk=>?_,fun b n h=>by cases h⟩,fun j c hc=>by simp at hc,fun j c hc=>by simp at hc,fun i j c d hc=>by simp at hc,rfl⟩,⟨0,0,?_⟩,fun b hb'=>?_,⟨by omega,fun b hb'=>by rw [hold b (by omega),hg.old b hb'],ho.trans hg.os,hu.trans hg.output⟩⟩
 ·show v'.heap[u.heap.size]? = _
  rw [hh]
  exact Array.getElem?_push_size
 ·show v'.ownsRow v.heap.size 3 1 _ xs.length (xs.map I)
  rw [hl]
  exact own_stay (fun b hb=>hold b (own_lt hown b hb).2) hown
 ·rcases hblk j b hj with ⟨rfl,e1⟩|⟨rfl,e1⟩<;>rcases hblk k b hk with ⟨rfl,e2⟩|⟨rfl,e2⟩<;>first|rfl|omega
 ·rw [hold bk (Array.getElem?_eq_some_iff.1 hbk).1];exact hbk
 ·rcases hb' with (⟨k,hk⟩|⟨j,c,hc,_⟩)|rfl
  ·rcases hblk k b hk with ⟨_,rfl⟩|⟨_,rfl⟩
   ·exact hsz
   ·exact hgl.1
  ·simp at hc
  ·exact hb
theorem body7 {v:World} (vb vo cap:Nat) (xs:List Int) (hx0:0<xs.length) (hx1:xs.length≤17592186043904) (hv:∀ k x,xs[k]? = some x→v.cell? ⟨vb,vo+k,none⟩=some (I x)) :
 Body Try.f18 #[.slice (some ⟨vb,vo,none⟩) xs.length cap] v (fun r v'=>∃ wb bk sc,r=Pt wb 0∧IsNew v xs wb bk sc v'):=by
 intro code hb
 obtain rfl:=Option.some.inj hb
 clear hb
 obtain ⟨x0,hx00⟩:∃ x,xs[0]? = some x:=⟨_,List.getElem?_eq_getElem hx0⟩
 have hvl:vb<v.heap.size:=World.block_lt_of_cell? _ _ (hv 0 x0 hx00)
 have hnews:∀ u:World,u.heap[vb]? = v.heap[vb]?→∀ j y,(xs.map I)[j]? = some y→u.cell? ((⟨vb,vo,none⟩:Addr).add j)=some y:=fun u hu j y hj=>by
  have hadd:(⟨vb,vo,none⟩:Addr).add j=⟨vb,vo+j,none⟩:=by unfold Addr.add;split<;>simp_all
  rw [hadd,World.cell?_of_block (w:=v) (w':=u) hu]
  rw [List.getElem?_map] at hj
  cases hk:xs[j]? with
  |none=>rw [hk] at hj;cases hj
  |some x =>
   rw [hk] at hj
   cases hj
   exact hv j x hk
 have h1:∀ u∈xs.map I,u.oneCell'=true:=fun u hu=>by
  simp only [List.mem_map] at hu
  obtain ⟨x,_,rfl⟩:=hu
  rfl
 have HW:Hid (∀ u:World,u.heap[vb]? = v.heap[vb]?→∀ j y,(xs.map I)[j]? = some y→u.cell? ((⟨vb,vo,none⟩:Addr).add j)=some y):=⟨hnews⟩
 have H1:Hid (∀ u∈xs.map I,u.oneCell'=true):=⟨h1⟩
 have HX:Hid (0<xs.length∧xs.length≤17592186043904∧vb<v.heap.size):=⟨⟨hx0,hx1,hvl⟩⟩
 clear hv hnews h1 hx00 hx0 hx1 hvl
 have hmk:=run_mk
 obtain ⟨j0,hj,hj0,hj1,hj2⟩:=info_parts info3
 simp only [Try.ntmps18,List.size_toArray,List.length_cons,List.length_nil,Nat.reduceAdd,Nat.reduceSub,Array.replicate_succ,Array.replicate_zero,List.push_toArray,List.append_toArray,List.nil_append,List.cons_append]
 go_wp2_with fail
 go_region_law
  (refine step_append_lies _ rfl (.const (.slice none 0 0)) (.tmp 3) 22 rfl v.heap.size 3 j0 _ 1 8 Try.underlying22 hj hj0 hj1 hj2 rfl (by decide) (.slice none 0 0) 0 [] rfl (World.ownsRow_nil _ _ _ _) ⟨vb,vo,none⟩ xs.length cap (xs.map I) rfl (by simp) (HW.out _ (by first|rfl|(show (v.heap.push _)[vb]? = _;rw [Array.getElem?_push,if_neg (by have:=HX.out;omega)]))) H1.out HX.out.1 (by have:=HX.out;unfold maxLen;omega) (by have:=HX.out;omega) (by simp) _ rfl ?_
   intro g cpg w6 hown6 hgrow6 hat6 hlt6)
 ·have g6:Grows v (w6.alloc (.chan 0 #[] false 0 0 false)):=by
   have hs:v.heap.size≤w6.heap.size:=hgrow6.size
   refine ⟨by show _≤(w6.heap.push _).size;simp;omega,fun b hb=>?_,hgrow6.os,hgrow6.output⟩
   show (w6.heap.push _)[b]? = _
   rw [Array.getElem?_push,if_neg (by omega)]
   exact hgrow6.block b hb (fun e=>by cases e)
  have hN:IsNew v xs (w6.heap.size+1) w6.heap.size (.slice (some ⟨g,0,none⟩) xs.length cpg) ((w6.alloc (.chan 0 #[] false 0 0 false)).alloc (.cells (rowNew (.slice (some ⟨g,0,none⟩) xs.length cpg) w6.heap.size) 83)):=by
   have:=new_rep (v:=v) (u:=w6.alloc (.chan 0 #[] false 0 0 false)) (v':=(w6.alloc (.chan 0 #[] false 0 0 false)).alloc (.cells (rowNew (.slice (some ⟨g,0,none⟩) xs.length cpg) w6.heap.size) 83)) (xs:=xs) (g:=g) (cap:=cpg) (bk:=w6.heap.size) (m:=xs.length) g6 (own_stay (fun b hb=>?_) (by rw [Nat.zero_add,List.nil_append] at hown6;exact hown6)) rfl Array.getElem?_push_size hgrow6.size rfl rfl rfl
   ·rw [show (w6.alloc (.chan 0 #[] false 0 0 false)).heap.size=w6.heap.size+1 by show (w6.heap.push _).size=_;simp] at this
    exact this
   ·cases hb
    show (w6.heap.push _)[g]? = _
    rw [Array.getElem?_push,if_neg (by omega)]
  have HN:Hid _:=⟨hN⟩
  clear hN g6 hgrow6 hown6 hat6 hlt6
  go_wp2
  go_ret
  exact ⟨_,rfl,w6.heap.size+1,w6.heap.size,_,rfl,HN.out⟩
 ·have hb0:∀ b,b<v.heap.size+1→w6.heap[b]? = (v.alloc (.chan 0 #[] false 0 0 false)).heap[b]?:=fun b hb=>hgrow6.block b (by show b<(v.heap.push _).size;simp;omega) (fun e=>by cases e)
  have hs:v.heap.size+1≤w6.heap.size:=by
   have:=hgrow6.size
   have e:(v.alloc (.chan 0 #[] false 0 0 false)).drew.heap.size=v.heap.size+1:=by show (v.heap.push _).size=_;simp
   omega
  have g6:Grows v w6:=by
   refine ⟨by omega,fun b hb=>?_,hgrow6.os,hgrow6.output⟩
   rw [hb0 b (by omega)]
   show (v.heap.push _)[b]? = _
   rw [Array.getElem?_push,if_neg (by omega)]
  have hN:IsNew v xs w6.heap.size v.heap.size (.slice (some ⟨g,0,none⟩) xs.length cpg) (w6.alloc (.cells (rowNew (.slice (some ⟨g,0,none⟩) xs.length cpg) v.heap.size) 83)) :=
   new_rep (v:=v) (u:=w6) (xs:=xs) (g:=g) (cap:=cpg) (bk:=v.heap.size) (m:=xs.length) g6 (by rw [Nat.zero_add,List.nil_append] at hown6;exact hown6) rfl (by rw [hb0 _ (by omega)];exact Array.getElem?_push_size) (Nat.le_refl _) rfl rfl rfl
  have HN:Hid _:=⟨hN⟩
  clear hN g6 hgrow6 hown6 hat6 hlt6 hb0 hs
  go_wp2
  go_ret
  exact ⟨_,rfl,w6.heap.size,v.heap.size,_,rfl,HN.out⟩
theorem body9 {z:Nat→Option Nat} {S:TS} {v:World} (h:Rep z S v) (h0:0<S.n) (hn:S.n*40≤140737488355328) (h1:∀ u∈S.tr,u.oneCell'=true) :
 Body Try.f20 #[Pt S.wb 0] v (fun r v'=>∃ g cap,r=.slice (some ⟨g,0,none⟩) S.n cap∧v'.ownsRow v.heap.size 34 5 (.slice (some ⟨g,0,none⟩) S.n cap) S.n S.tr∧Grows v v'∧v.heap.size≤g):=by
 intro code hb
 obtain rfl:=Option.some.inj hb
 clear hb
 have c5:=h.wcell.2.2.2.2.2.1
 obtain ⟨g0,cap0,e0,_,hg0⟩:=h.own.form h0
 rw [e0] at c5
 have hcs:=h.own.cells (g:=g0) (by rw [e0];rfl)
 have hln:S.tr.length=S.n*5:=h.own.1
 have HH:Hid ((∀ j u,S.tr[j]? = some u→v.cell? ((⟨g0,0,none⟩:Addr).add j)=some u)∧(∀ u∈S.tr,u.oneCell'=true)∧0<S.n∧S.n*40≤140737488355328∧S.tr.length=S.n*5):=⟨⟨hcs,h1,h0,hn,hln⟩⟩
 clear hcs h1 h0 hn hln h e0
 obtain ⟨j0,hj,hj0,hj1,hj2⟩:=info_parts info34
 simp only [Try.ntmps20,List.size_toArray,List.length_cons,List.length_nil,Nat.reduceAdd,Nat.reduceSub,Array.replicate_succ,Array.replicate_zero,List.push_toArray,List.append_toArray,List.nil_append,List.cons_append]
 go_wp2_with (first
  |(refine wpList_append_lies _ rfl (.const (.slice none 0 0)) (.tmp 8) 31 rfl v.heap.size 34 j0 _ 5 40 Try.underlying31 hj hj0 hj1 hj2 rfl (by decide) (.slice none 0 0) 0 [] rfl (World.ownsRow_nil _ _ _ _) ⟨g0,0,none⟩ S.n cap0 S.tr rfl HH.out.2.2.2.2 HH.out.1 HH.out.2.1 HH.out.2.2.1 (by have:=HH.out.2.2.2.1;unfold maxLen;omega) (by have:=HH.out.2.2.2.1;omega) (Nat.le_refl _) _ rfl ?_
    intro g cpg w6 hown6 hgrow6 hat6 hlt6))
 go_ret
 refine ⟨_,rfl,g,cpg,rfl,?_,⟨hgrow6.size,fun b hb=>hgrow6.block b hb (fun e=>by cases e),hgrow6.os,hgrow6.output⟩,?_⟩
 ·rw [Nat.zero_add,List.nil_append] at hown6
  exact hown6
 ·rcases hat6 with h|h
  ·cases h
  ·omega
def Refused (n:Nat) (ln:Nat→Nat) (E:Int):Prop:=((∃ k,k<n∧64<ln k)∧E=2)∨((∀ k,k<n→ln k≤64)∧(n=0∨8<n)∧E=1)
theorem new_rep0 {v u v':World} {bk:Nat} (hg:Grows v u) (hbk:u.heap[bk]? = some (.chan 0 #[] false 0 0 false)) (hb:v.heap.size≤bk)
 (hh:v'.heap=u.heap.push (.cells (rowNew (.slice none 0 0) bk) 83)) (ho:v'.os=u.os) (hu:v'.output=u.output):IsNew v [] u.heap.size bk (.slice none 0 0) v':=by
 have hold:∀ b,b<u.heap.size→v'.heap[b]? = u.heap[b]?:=fun b hb=>by rw [hh,Array.getElem?_push,if_neg (by omega)]
 have hs':v'.heap.size=u.heap.size+1:=by rw [hh];simp
 have hsz:=hg.size
 have hblk:∀ k b,blk (newS u.heap.size bk v.heap.size (.slice none 0 0) []) k=some b→k=0∧b=u.heap.size:=fun k b hk=>by
  match k,hk with
  |0,hk=>cases hk;exact ⟨rfl,rfl⟩
  |1,hk=>cases hk
  |2,hk=>cases hk
  |3,hk=>cases hk
  |4,hk=>cases hk
  |k+5,hk=>simp [blk,newS] at hk
 refine ⟨⟨⟨?_,fun i t ht=>by simp [newS] at ht,World.ownsRow_nil _ _ _ _,World.ownsRow_nil _ _ _ _,World.ownsRow_nil _ _ _ _,World.ownsRow_nil _ _ _ _,by show v.heap.size≤_;omega,fun j k b hj hk=>?_,fun b n h=>by cases h⟩,fun j c hc=>by simp at hc,fun j c hc=>by simp at hc,fun i j c d hc=>by simp at hc,rfl⟩,⟨0,0,?_⟩,fun b hb'=>?_,⟨by omega,fun b hb'=>by rw [hold b (by omega),hg.old b hb'],ho.trans hg.os,hu.trans hg.output⟩⟩
 ·show v'.heap[u.heap.size]? = _
  rw [hh]
  exact Array.getElem?_push_size
 ·rw [(hblk j b hj).1,(hblk k b hk).1]
 ·rw [hold bk (Array.getElem?_eq_some_iff.1 hbk).1];exact hbk
 ·rcases hb' with (⟨k,hk⟩|⟨j,c,hc,_⟩)|rfl
  ·rw [(hblk k b hk).2];exact hsz
  ·simp at hc
  ·exact hb
theorem body70 {v:World} (p:Option Addr) (cap:Nat):Body Try.f18 #[.slice p 0 cap] v (fun r v'=>∃ wb bk sc,r=Pt wb 0∧IsNew v [] wb bk sc v'):=by
 intro code hb
 obtain rfl:=Option.some.inj hb
 clear hb
 have hmk:=run_mk
 obtain ⟨j0,hj,hj0,hj1,hj2⟩:=info_parts info3
 have HN:∀ v':World,v'.heap=(v.heap.push (.chan 0 #[] false 0 0 false)).push (.cells (rowNew (.slice none 0 0) v.heap.size) 83)→v'.os=v.os→v'.output=v.output→IsNew v [] (v.heap.size+1) v.heap.size (.slice none 0 0) v':=fun v' h4 h5 h6=>by
  have:=new_rep0 (v:=v) (u:=v.alloc (.chan 0 #[] false 0 0 false)) (v':=v') (bk:=v.heap.size) ⟨by show _≤(v.heap.push _).size;simp,fun b hb=>by show (v.heap.push _)[b]? = _;rw [Array.getElem?_push,if_neg (by omega)],rfl,rfl⟩ Array.getElem?_push_size (Nat.le_refl _) h4 h5 h6
  rw [show (v.alloc (.chan 0 #[] false 0 0 false)).heap.size=v.heap.size+1 by show (v.heap.push _).size=_;simp] at this
  exact this
 have HN:Hid _:=⟨HN⟩
 cases p
 all_goals
  simp only [Try.ntmps18,List.size_toArray,List.length_cons,List.length_nil,Nat.reduceAdd,Nat.reduceSub,Array.replicate_succ,Array.replicate_zero,List.push_toArray,List.append_toArray,List.nil_append,List.cons_append]
  go_wp2_with fail
  go_region_law fail
  all_goals
   go_wp2
   go_ret
   exact ⟨_,rfl,v.heap.size+1,v.heap.size,_,rfl,HN.out _ rfl rfl rfl⟩
theorem body7A {v:World} (p:Option Addr) (vb vo cap:Nat) (xs:List Int) (hp:0<xs.length→p=some ⟨vb,vo,none⟩) (hx1:xs.length≤17592186043904) (hv:∀ k x,xs[k]? = some x→v.cell? ⟨vb,vo+k,none⟩=some (I x)) :
 Body Try.f18 #[.slice p xs.length cap] v (fun r v'=>∃ wb bk sc,r=Pt wb 0∧IsNew v xs wb bk sc v'):=by
 rcases Nat.eq_zero_or_pos xs.length with h0|h0
 ·obtain rfl:=List.length_eq_zero_iff.1 h0
  exact body70 p cap
 ·rw [hp h0]
  exact body7 vb vo cap xs h0 hx1 hv
theorem body90 {z:Nat→Option Nat} {S:TS} {v:World} (h:Rep z S v) (h0:S.n=0):Body Try.f20 #[Pt S.wb 0] v (fun r v'=>r=.slice none 0 0∧v'=v):=by
 intro code hb
 obtain rfl:=Option.some.inj hb
 clear hb
 have c5:=h.wcell.2.2.2.2.2.1
 obtain ⟨p0,cap0,e0⟩:∃ p cap,S.tv=.slice p 0 cap:=by
  obtain ⟨p,cap,e⟩:=own_form h.own
  rw [h0] at e
  exact ⟨p,cap,e⟩
 rw [e0] at c5
 clear h e0
 obtain ⟨j0,hj,hj0,hj1,hj2⟩:=info_parts info34
 cases p0
 all_goals
  simp only [Try.ntmps20,List.size_toArray,List.length_cons,List.length_nil,Nat.reduceAdd,Nat.reduceSub,Array.replicate_succ,Array.replicate_zero,List.push_toArray,List.append_toArray,List.nil_append,List.cons_append]
  go_wp2
  go_ret
  exact ⟨_,rfl,rfl,rfl⟩
theorem body9A {z:Nat→Option Nat} {S:TS} {v:World} (h:Rep z S v) (hn:S.n*40≤140737488355328) (h1:∀ u∈S.tr,u.oneCell'=true) :
 Body Try.f20 #[Pt S.wb 0] v (fun r v'=>∃ p g cap,r=.slice p S.n cap∧(0<S.n→p=some ⟨g,0,none⟩∧v.heap.size≤g)∧(∀ j u,S.tr[j]? = some u→v'.cell? ⟨g,j,none⟩=some u)∧Grows v v'):=by
 rcases Nat.eq_zero_or_pos S.n with h0|h0
 ·intro code hb
  refine wp_mono (body90 h h0 code hb) (bp_mono fun r u hq=>?_)
  obtain ⟨rfl,rfl⟩:=hq
  have hl:S.tr=[]:=by
   have:=h.own.1
   rw [h0] at this
   exact List.length_eq_zero_iff.1 (by omega)
  refine ⟨none,0,0,by rw [h0],(fun h=>by omega),(fun j x hj=>?_),⟨Nat.le_refl _,fun _ _=>rfl,rfl,rfl⟩⟩
  rw [hl] at hj
  simp at hj
 ·intro code hb
  refine wp_mono (body9 h h0 hn h1 code hb) (bp_mono fun r u hq=>?_)
  obtain ⟨g,cap,rfl,hown,hgr,hle⟩:=hq
  refine ⟨_,g,cap,rfl,fun _=>⟨rfl,hle⟩,fun j x hj=>?_,hgr⟩
  have:=hown.cells (g:=g) rfl j x hj
  rw [show (⟨g,0,none⟩:Addr).add j=⟨g,j,none⟩ by unfold Addr.add;split<;>simp_all] at this
  exact this
end Go.Proofs.Ytfjjoohflcchnaa.Gen
