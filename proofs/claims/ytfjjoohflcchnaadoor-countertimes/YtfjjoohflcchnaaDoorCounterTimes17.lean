/- Of the proof of CounterTimes. Part 17 of 31. (Joined, by program, and written short, of: GRun20c, GRun20d, Lift29, Lift30, GLone.) -/
import Derived.Test.YtfjjoohflcchnaaDoorCounterTimes03
import Derived.Test.YtfjjoohflcchnaaDoorCounterTimes04
import Derived.Test.YtfjjoohflcchnaaDoorCounterTimes11
import Derived.Test.YtfjjoohflcchnaaDoorCounterTimes16
set_option linter.unusedSimpArgs false
set_option linter.unusedVariables false
set_option maxHeartbeats 4000000
set_option maxRecDepth 100000
namespace Go.Proofs.YtfjjoohflcchnaaDoor.Gen
open Go Go.Lift Go.Conc Go.RowKit
variable {mc:Mc} {fid:FuncId} {P:Pkg mc fid}
structure Told (v:World) (S:TS) (K:List (Nat×Int)) (pk:Nat→Option Obj) (n:Nat) (pc:Nat→Option Addr) (ln cp rb:Nat→Nat) (cl:Nat→List Cl):Prop where
 hpk:Has pk v
 po:∀ b,pk b≠none→¬ Own S K b∧b≠S.bk
 row:∀ b o,pk b=some o→∃ c e f,o=.cells c e f
 len:∀ j,j<n→(cl j).length=ln j∧ln j≤64
 pq:∀ j,j<n→0<ln j→pc j=some ⟨rb j,roOf (pc j),none⟩∧¬ Own S K (rb j)
 call:∀ j,j<n→∀ (k:Nat) (c:Cl),(cl j)[k]? = some c→v.cell? ⟨rb j,roOf (pc j)+k*4,none⟩=some (I c.po)∧v.cell? ⟨rb j,roOf (pc j)+k*4+1,none⟩=some (I c.ca)∧v.cell? ⟨rb j,roOf (pc j)+k*4+2,none⟩=some (I c.cb)∧v.cell? ⟨rb j,roOf (pc j)+k*4+3,none⟩=some (I c.cc)
 ca:∀ j,j<n→∀ c∈cl j,-9223372036854775808≤c.ca∧c.ca<9223372036854775808
noncomputable def allM (S:TS) (K:List (Nat×Int)) (u:World):Nat→Option Obj:=fun b=>open Classical in if Own S K b∨b=S.bk then none else u.heap[b]?
theorem allM_at {S:TS} {K:List (Nat×Int)} {u:World} {b:Nat} (h1:¬ Own S K b) (h2:b≠S.bk):allM S K u b=u.heap[b]?:=by
 unfold allM
 rw [if_neg (fun h=>h.elim h1 h2)]
theorem allM_own {S:TS} {K:List (Nat×Int)} {u:World} {b:Nat} (h:allM S K u b≠none):¬ Own S K b∧b≠S.bk:=by
 constructor<;>intro e<;>apply h<;>unfold allM
 ·rw [if_pos (.inl e)]
 ·rw [if_pos (.inr e)]
theorem allM_has {S:TS} {K:List (Nat×Int)} {u:World}:Has (allM S K u) u:=fun b o h=>by
 have:=allM_own (b:=b) (by rw [h];simp)
 rw [allM_at this.1 this.2] at h
 exact h
def scrOf (mc:Mc) (fid:FuncId) (caps:Array Value) (pk:Nat→Option Obj) (N n:Nat) (kb:List Nat) (pc:Nat→Option Addr) (ln cp rb:Nat→Nat) (cl:Nat→List Cl) (j:Nat):Scr mc :=
 { calls:=cl j,ans:=List.replicate (ln j) (0,0)
   X:=fun h tb gc b0=>{ h:=h,i:=j,tb:=tb,gc:=gc,bb:=b0,calls:=cl j,pc:=pc j,rb:=if ln j=0 then b0 else rb j,cap:=cp j,asl:=.slice (some ⟨N+4+3*j+2,0,none⟩) (ln j) (ln j),ab:=if ln j=0 then b0 else N+4+3*j+2,cap2:=ln j,aty:=38,fid:=fid,caps:=caps,pk:=pk,kb:=kb }
   p1:=N+4+3*j+1,p2:=N,p3:=N+2,p4:=N+4+3*j,rr:=N+1,m:=n,cp:=n,ix:=j,csl:=.slice (pc j) (cl j).length (cp j),asl:=.slice (some ⟨N+4+3*j+2,0,none⟩) (ln j) (ln j),caps:=caps }
theorem made_arow (n:Nat):(.cells (madeCells #[I 0,I 0] (n*2)) 38:Obj)=.cells (arow (List.replicate n (0,0))).toArray 38 (0,0):=by
 have:madeCells #[I 0,I 0] (n*2)=(arow (List.replicate n (0,0))).toArray:=by
  apply Array.ext_getElem?
  intro i
  rw [show (arow (List.replicate n (0,0))).toArray[i]? = (arow (List.replicate n (0,0)))[i]? by simp]
  by_cases hi:i<n*2
  ·have e1:(madeCells #[I 0,I 0] (n*2))[i]? = some (I 0):=by
    have:i % 2=0∨i % 2=1:=by omega
    rcases this with h|h<;>simp [madeCells,hi,h]
   rw [e1]
   have h2:i / 2<n:=by omega
   have h3:=arow_get (List.replicate n (0,0)) (i / 2) (0,0) (by simp [List.getElem?_replicate,h2])
   have:i=i / 2*2∨i=i / 2*2+1:=by omega
   rcases this with h|h
   ·rw [h];exact h3.1.symm
   ·rw [h];exact h3.2.symm
  ·rw [Array.getElem?_eq_none (by simp [madeCells];omega),List.getElem?_eq_none (by rw [arow_len];simp;omega)]
 rw [this]
section
variable {v u:World} {S:TS} {K:List (Nat×Int)} {caps:Array Value} {pk:Nat→Option Obj} {n:Nat} {pc:Nat→Option Addr} {ln cp rb:Nat→Nat} {cl:Nat→List Cl}
def futOf (N n:Nat) (ln:Nat→Nat) (j b:Nat):Prop:=∃ i,j≤i∧i<n∧0<ln i∧b=N+4+3*i+2
theorem script_of (hmine:∀ X:Fix mc,X.fid=fid→X.caps=caps→X.pk=pk→X.kb=K.map (·.1)→P.Mine X) (hm:Mem zn S K v) (hb:Open v S.bk) (t:Told v S K pk n pc ln cp rb cl) (s:Set20 v fid (mc.bn caps) (mc.fr caps) n pc ln cp u) {j:Nat} (hj:j<n) {Mm:Nat→Option Obj} {Fut:Nat→Prop} (hM:∀ b,(∀ i,i<j→b≠v.heap.size+4+3*i+2)→Mm b=allM S K u b) (hF:∀ b,Fut b↔futOf v.heap.size n ln j b) :
 Script P Mm Fut j (v.heap.size+3) (K.map (·.1)) (scrOf mc fid caps pk v.heap.size n (K.map (·.1)) pc ln cp rb cl j):=by
 have hbk:S.bk<v.heap.size:=by obtain ⟨c,m,h⟩:=hb;exact (Array.getElem?_eq_some_iff.1 h).1
 have hOw:∀ b,v.heap.size≤b→¬ Own S K b∧b≠S.bk:=fun b hb=>⟨fun h=>by have:=hm.lt h;omega,by omega⟩
 have cbk:∀ (a:Addr) (x:Value),v.cell? a=some x→a.block≠S.bk:=fun a x ha e=>by
  obtain ⟨c,m,h⟩:=hb
  unfold World.cell? at ha
  rw [e,h] at ha
  cases ha
 have clt:∀ (a:Addr) (x:Value),v.cell? a=some x→a.block<v.heap.size:=fun a x ha=>World.block_lt_of_cell? _ _ ha
 have hnew:∀ b,v.heap.size≤b→(∀ i,i<j→b≠v.heap.size+4+3*i+2)→Mm b=u.heap[b]?:=fun b h1 h2=>by rw [hM b h2,allM_at (hOw b h1).1 (hOw b h1).2]
 have hold:∀ (a:Addr) (x:Value),v.cell? a=some x→¬ Own S K a.block→Mm a.block=v.heap[a.block]?:=fun a x ha ho=>by
  rw [hM a.block (fun i _=>by have:=clt a x ha;omega),allM_at ho (cbk a x ha),s.old _ (clt a x ha)]
 have some_of:∀ (a:Addr) (x:Value),v.cell? a=some x→∃ o,v.heap[a.block]? = some o:=fun a x ha=>⟨_,Array.getElem?_eq_getElem (clt a x ha)⟩
 have holdc:∀ (w:World),Has Mm w→∀ (a:Addr) (x:Value),v.cell? a=some x→¬ Own S K a.block→w.cell? a=some x:=fun w hw a x ha ho=>by
  obtain ⟨o,e⟩:=some_of a x ha
  have:=hw a.block o (by rw [hold a x ha ho,e])
  rw [World.cell?_of_block (w:=v) (w':=w) (by rw [this,e])]
  exact ha
 have newc:∀ (w:World),Has Mm w→∀ (a:Addr) (x:Value),v.heap.size≤a.block→(∀ i,i<j→a.block≠v.heap.size+4+3*i+2)→u.cell? a=some x→w.cell? a=some x:=fun w hw a x h1 h2 ha=>by
  have hl:=World.block_lt_of_cell? _ _ ha
  have e:u.heap[a.block]? = some u.heap[a.block]:=Array.getElem?_eq_getElem hl
  have:=hw a.block _ (by rw [hnew a.block h1 h2,e])
  rw [World.cell?_of_block (w:=u) (w':=w) (by rw [this,e])]
  exact ha
 have pklt:∀ b,pk b≠none→b<v.heap.size:=fun b hb=>by
  obtain ⟨o,ho⟩:=Option.ne_none_iff_exists'.1 hb
  exact (Array.getElem?_eq_some_iff.1 (t.hpk b o ho)).1
 have pknone:∀ b,v.heap.size≤b→pk b=none:=fun b hb=>by
  cases h9:pk b with
  |none=>rfl
  |some o=>have:=pklt b (by rw [h9];simp);omega
 have pkM:∀ b,pk b≠none→Mm b=pk b:=fun b hb=>by
  have hl:=pklt b hb
  rw [hM b (fun i _=>by omega),allM_at (t.po b hb).1 (t.po b hb).2,s.old b hl]
  obtain ⟨o,ho⟩:=Option.ne_none_iff_exists'.1 hb
  rw [ho]
  exact t.hpk b o ho
 have hb3:=s.blk j hj
 have hln:=t.len j hj
 have c1:∀ {b:Nat} {x:Value} {ty:TypeId},u.heap[b]? = some (.cells #[x] ty)→u.cell? ⟨b,0,none⟩=some x:=fun {b x ty} h=>by unfold World.cell?;rw [h];rfl
 have hab:0<ln j→Mm (v.heap.size+4+3*j+2)≠none:=fun _=>by
  rw [hnew _ (by omega) (fun i hi=>by omega),hb3.2.2];simp
 refine ⟨hj,fun w hw=>⟨?_,?_,?_,?_,?_,?_⟩,fun h tb gc b0 hh hb0=>⟨⟨hh,?_,t.ca j hj,fun h0=>?_,fun h0=>?_,fun h0=>?_,fun h0=>?_,t.row⟩,rfl,rfl,rfl,rfl,rfl,rfl,rfl,rfl,rfl,⟨rfl,rfl,hmine _ rfl rfl rfl rfl⟩,fun w hw hbx=>⟨hbx,fun k c hk=>?_,fun h0=>?_,?_,fun b o hb=>?_⟩,fun b hp=>?_,fun b hp hf=>?_,?_⟩⟩
 ·exact newc w hw ⟨v.heap.size+3,j,none⟩ _ (by show _≤v.heap.size+3;omega) (fun i hi=>by show v.heap.size+3≠_;omega) (s.brow.cell hj)
 ·exact newc w hw ⟨_,0,none⟩ _ (by show _≤v.heap.size+4+3*j+1;omega) (fun i hi=>by show v.heap.size+4+3*j+1≠_;omega) (by show u.cell? ⟨v.heap.size+4+3*j+1,0,none⟩=some (.slice (pc j) (cl j).length (cp j));rw [hln.1];exact c1 hb3.2.1)
 ·exact newc w hw ⟨_,0,none⟩ _ (by show _≤v.heap.size;omega) (fun i hi=>by show v.heap.size≠_;omega) (c1 s.p2)
 ·exact newc w hw ⟨_,0,none⟩ _ (by show _≤v.heap.size+2;omega) (fun i hi=>by show v.heap.size+2≠_;omega) (c1 s.p3)
 ·exact newc w hw ⟨_,0,none⟩ _ (by show _≤v.heap.size+4+3*j;omega) (fun i hi=>by show v.heap.size+4+3*j≠_;omega) (c1 hb3.1)
 ·exact newc w hw ⟨v.heap.size+1,j,none⟩ _ (by show _≤v.heap.size+1;omega) (fun i hi=>by show v.heap.size+1≠_;omega) (s.rrow.cell hj)
 ·show ((cl j).length:Int)<_
  rw [hln.1];omega
 ·have h0':0<ln j:=by rw [←hln.1];exact h0
  show pc j=some ⟨if ln j=0 then b0 else rb j,roOf (pc j),none⟩
  rw [if_neg (by omega)]
  exact (t.pq j hj h0').1
 ·have h0':0<ln j:=by rw [←hln.1];exact h0
  show Value.slice (some ⟨v.heap.size+4+3*j+2,0,none⟩) (ln j) (ln j)=.slice (some ⟨if ln j=0 then b0 else v.heap.size+4+3*j+2,0,none⟩) (cl j).length (ln j)
  rw [if_neg (by omega),hln.1]
 ·have h0':ln j=0:=by rw [←hln.1];exact h0
  show (if ln j=0 then b0 else rb j)=b0∧(if ln j=0 then b0 else v.heap.size+4+3*j+2)=b0
  rw [if_pos h0',if_pos h0']
  exact ⟨rfl,rfl⟩
 ·have h0':0<ln j:=by rw [←hln.1];exact h0
  show (if ln j=0 then b0 else v.heap.size+4+3*j+2)≠b0∧(if ln j=0 then b0 else v.heap.size+4+3*j+2)≠(if ln j=0 then b0 else rb j)∧pk (if ln j=0 then b0 else v.heap.size+4+3*j+2)=none
  rw [if_neg (by omega),if_neg (by omega)]
  obtain ⟨c,hc⟩:∃ c,(cl j)[0]? = some c:=⟨_,List.getElem?_eq_getElem h0⟩
  have hcl:=clt _ _ (t.call j hj 0 c hc).1
  simp only at hcl
  exact ⟨hb0 _ (hab h0'),by omega,pknone _ (by omega)⟩
 ·have hk':(cl j)[k]? = some c:=hk
  have h0:0<ln j:=by have:=(List.getElem?_eq_some_iff.1 hk').1;omega
  have ho:=(t.pq j hj h0).2
  have h4:=t.call j hj k c hk'
  show w.cell? ⟨if ln j=0 then b0 else rb j,_,none⟩=_∧w.cell? ⟨if ln j=0 then b0 else rb j,_,none⟩=_∧w.cell? ⟨if ln j=0 then b0 else rb j,_,none⟩=_∧w.cell? ⟨if ln j=0 then b0 else rb j,_,none⟩=_
  rw [if_neg (by omega)]
  exact ⟨holdc w hw _ _ h4.1 ho,holdc w hw _ _ h4.2.1 ho,holdc w hw _ _ h4.2.2.1 ho,holdc w hw _ _ h4.2.2.2 ho⟩
 ·have h0':0<ln j:=by rw [←hln.1];exact h0
  show w.heap[if ln j=0 then b0 else v.heap.size+4+3*j+2]? = some (.cells (arow (List.replicate (ln j) (0,0))).toArray 38 (0,0))
  rw [if_neg (by omega),←made_arow]
  exact hw _ _ (by rw [hnew _ (by omega) (fun i hi=>by omega)];exact hb3.2.2)
 ·show (List.replicate (ln j) ((0:Int),(0:Int))).length=(cl j).length
  rw [List.length_replicate,hln.1]
 ·exact hw b o (by rw [pkM b (by have hb':pk b=some o:=hb;rw [hb'];simp)];exact hb)
 ·have mm:∀ (a:Addr) (x:Value),v.cell? a=some x→¬ Own S K a.block→Mm a.block≠none:=fun a x ha ho=>by
   obtain ⟨o,e⟩:=some_of a x ha
   rw [hold a x ha ho,e];simp
  by_cases h0:ln j=0
  ·simp only [Fix.Pr,scrOf,if_pos h0] at hp
   rcases hp with h|h|h|h
   ·exact .inl h
   ·exact .inl h
   ·exact .inl h
   ·exact .inr (by rw [pkM b h];exact h)
  ·simp only [Fix.Pr,scrOf,if_neg h0] at hp
   rcases hp with h|h|h|h
   ·exact .inl h
   ·subst h
    obtain ⟨c,hc⟩:∃ c,(cl j)[0]? = some c:=⟨_,List.getElem?_eq_getElem (by omega)⟩
    exact .inr (mm _ _ (t.call j hj 0 c hc).1 (t.pq j hj (by omega)).2)
   ·subst h;exact .inr (hab (by omega))
   ·exact .inr (by rw [pkM b h];exact h)
 ·obtain ⟨i,h1,h2,h3,rfl⟩:=(hF b).1 hf
  have hn0:v.heap.size+4+3*i+2≠b0:=hb0 _ (by
   rw [hnew _ (by omega) (fun i' hi'=>by omega),(s.blk i h2).2.2];simp)
  by_cases h0:ln j=0
  ·simp only [Fix.Pr,scrOf,if_pos h0] at hp ⊢
   rcases hp with h|h|h|h<;>first|exact absurd h hn0|omega|exact absurd (pknone _ (by omega)) h
  ·simp only [Fix.Pr,scrOf,if_neg h0] at hp ⊢
   obtain ⟨c,hc⟩:∃ c,(cl j)[0]? = some c:=⟨_,List.getElem?_eq_getElem (by omega)⟩
   have hcl:=clt _ _ (t.call j hj 0 c hc).1
   simp only at hcl
   rcases hp with h|h|h|h<;>first|exact absurd h hn0|omega|exact absurd (pknone _ (by omega)) h
 ·show (if ln j=0 then b0 else v.heap.size+4+3*j+2)=b0∨Fut (if ln j=0 then b0 else v.heap.size+4+3*j+2)
  by_cases h0:ln j=0
  ·rw [if_pos h0];exact .inl rfl
  ·rw [if_neg h0];exact .inr ((hF _).2 ⟨j,Nat.le_refl _,hj,by omega,rfl⟩)
theorem scripts_of (hmine:∀ X:Fix mc,X.fid=fid→X.caps=caps→X.pk=pk→X.kb=K.map (·.1)→P.Mine X) (hm:Mem zn S K v) (hb:Open v S.bk) (t:Told v S K pk n pc ln cp rb cl) (s:Set20 v fid (mc.bn caps) (mc.fr caps) n pc ln cp u):∀ (m j:Nat),j+m=n→∀ (Mm:Nat→Option Obj) (Fut:Nat→Prop),(∀ b,(∀ i,i<j→b≠v.heap.size+4+3*i+2)→Mm b=allM S K u b)→(∀ b,Fut b↔futOf v.heap.size n ln j b) →
 Scripts P (v.heap.size+3) (K.map (·.1)) j Mm Fut ((List.range' j m).map (scrOf mc fid caps pk v.heap.size n (K.map (·.1)) pc ln cp rb cl))
 |0,j,hjm,Mm,Fut,hM,hF=>.nil
 |m+1,j,hjm,Mm,Fut,hM,hF=>by
  have hj:j<n:=by omega
  have hbk:S.bk<v.heap.size:=by obtain ⟨c,m,h⟩:=hb;exact (Array.getElem?_eq_some_iff.1 h).1
  have hOw:∀ b,v.heap.size≤b→¬ Own S K b∧b≠S.bk:=fun b hb=>⟨fun h=>by have:=hm.lt h;omega,by omega⟩
  rw [List.range'_succ,List.map_cons]
  refine .cons (script_of hmine hm hb t s hj hM hF) (fun h tb gc b0 hb0=>?_)
  refine scripts_of hmine hm hb t s m (j+1) (by omega) _ _ (fun b hbi=>?_) (fun b=>?_)
  ·show (if b=(if ln j=0 then b0 else v.heap.size+4+3*j+2) then none else Mm b)=_
   by_cases h0:ln j=0
   ·rw [if_pos h0]
    by_cases e:b=b0
    ·rw [if_pos e,←hM b (fun i hi=>hbi i (by omega))]
     cases h9:Mm b with
     |none=>rfl
     |some o=>exact absurd e (hb0 b (by rw [h9];simp))
    ·rw [if_neg e]
     exact hM b (fun i hi=>hbi i (by omega))
   ·rw [if_neg h0,if_neg (hbi j (by omega))]
    exact hM b (fun i hi=>hbi i (by omega))
  ·show Fut b∧b≠(if ln j=0 then b0 else v.heap.size+4+3*j+2)↔_
   rw [hF b]
   constructor
   ·rintro ⟨⟨i,h1,h2,h3,rfl⟩,hne⟩
    refine ⟨i,?_,h2,h3,rfl⟩
    rcases Nat.lt_or_ge j i with h4|h4
    ·omega
    ·have:i=j:=by omega
     subst this
     rw [if_neg (by omega)] at hne
     exact absurd rfl hne
   ·rintro ⟨i,h1,h2,h3,rfl⟩
    refine ⟨⟨i,by omega,h2,h3,rfl⟩,?_⟩
    by_cases h0:ln j=0
    ·rw [if_pos h0]
     refine hb0 _ ?_
     rw [hM _ (fun i' hi'=>by omega),allM_at (hOw _ (by omega)).1 (hOw _ (by omega)).2,(s.blk i h2).2.2]
     simp
    ·rw [if_neg h0];omega
end
variable {mc:Mc} {fid:FuncId} {P:Pkg mc fid}
section
variable {S:TS} {K:List (Nat×Int)} {caps:Array Value} {pk:Nat→Option Obj} {n:Nat} {pc:Nat→Option Addr} {ln cp rb:Nat→Nat} {cl:Nat→List Cl}
abbrev scrs (mc:Mc) (fid:FuncId) (caps:Array Value) (pk:Nat→Option Obj) (N n:Nat) (K:List (Nat×Int)) (pc:Nat→Option Addr) (ln cp rb:Nat→Nat) (cl:Nat→List Cl):List (Scr mc):=(List.range' 0 n).map (scrOf mc fid caps pk N n (K.map (·.1)) pc ln cp rb cl)
structure Out20 (w:World) (S:TS) (K:List (Nat×Int)) (n:Nat) (ln:Nat→Nat) (S':TS) (K':List (Nat×Int)) (l:Nat→Ph) (w':World):Prop where
 mem:Mem zn S' K' w'
 size:w.heap.size≤w'.heap.size
 old:∀ b,b<w.heap.size→¬ Own S K b→b≠S.bk→w'.heap[b]? = w.heap[b]?∧¬ Own S' K' b
 rows:∀ j,j<n→w'.cell? ⟨w.heap.size+1,j,none⟩=some (.slice (some ⟨w.heap.size+4+3*j+2,0,none⟩) (ln j) (ln j))
 ans:∀ j,j<n→(l j).ans.length=ln j∧(0<ln j→w'.heap[w.heap.size+4+3*j+2]? = some (.cells (arow (l j).ans).toArray 38 (0,0)))∧∃ a,l j=.done a
 os:w'.os=w.os
 out:w'.output=w.output
theorem run20_all (P:Pkg mc fid) (hmine:∀ X:Fix mc,X.fid=fid→X.caps=caps→X.pk=pk→X.kb=K.map (·.1)→P.Mine X) {sb so cap:Nat} {cs:List Frame} {bc:Frame} {ac:Act} {ops:Array Oper} {q0:Nat} {rest:List Nat} {oc:Oper} {k0:List Item} (hoc:ops[q0]? = some oc) {w:World} {T:Trace} {gs:Array Goroutine} {q:Nat→Nat} (sl:Option (Nat×Nat)) (NT:Nat) (A:Alone gs w T q)
 (hg:gs[0]? = some (G ((base 60).at { tmps:=#[Pt S.wb 0,.slice (some ⟨sb,so,none⟩) n cap,.func (.func fid) (mc.bn caps) (mc.fr caps)]++Array.replicate 36 undef,defers:=[] } [.code B20]) (bc.at ac (.inRegion ops (q0 :: rest) :: k0) :: cs)))
 (hm:Mem zn S K w) (hthr:S.thr=[]) (hran:S.ran=false) (hbk:Open w S.bk) (t:Told w S K pk n pc ln cp rb cl) (hs:∀ k,k<n→w.cell? ⟨sb,so+k,none⟩=some (.slice (pc k) (ln k) (cp k))) (hsb:sb<w.heap.size) (hn8:n≤8)
 (hlen:S.n+2*lens (scrs mc fid caps pk w.heap.size n K pc ln cp rb cl)≤1000000) (hsl:S.sched.length≤4611686018427387904) (hsc:∀ x∈S.sched,-9223372036854775808≤x∧x<9223372036854775808) (l0:Nat→Ph)
 (hturn:∀ S1 l1,Hires mc 0 (scrs mc fid caps pk w.heap.size n K pc ln cp rb cl) (nv { S with ran:=true }) l0 S1 l1→∃ m p',m≤NT∧Turns mc m ⟨S1,K,l1⟩ p'∧p'.S.n*40≤140737488355328) :
 ∃ (N':Nat) (gs':Array Goroutine) (w':World) (sl':Option (Nat×Nat)) (T':Trace) (q':Nat→Nat) (S':TS) (S1:TS) (l1:Nat→Ph) (m:Nat) (p':PSt),
   runNT Tryd.prog N' (crowd gs w sl) T=(.next (crowd gs' w' sl'),T')∧gs'.size=gs.size+n∧gs'[0]? = some (G (bc.at (ac.put oc.dst (.slice (some ⟨w.heap.size+1,0,none⟩) n n)) (.inRegion ops rest :: k0)) cs) ∧
   Alone gs' w' T' q'∧nv S'=p'.S∧Hires mc 0 (scrs mc fid caps pk w.heap.size n K pc ln cp rb cl) (nv { S with ran:=true }) l0 S1 l1∧Turns mc m ⟨S1,K,l1⟩ p'∧Out20 w S K n ln S' p'.K p'.l w':=by
 have hG:GoesI Tryd.prog true (DT (ScZ zn) (fun _=>False)) (fun g w'=>∃ (bd:Frame) (ad:Act) (od:Array Oper) (qd:Nat) (rd:List Nat) (oe:Oper) (kd:List Item),Set20 w fid (mc.bn caps) (mc.fr caps) n pc ln cp w'∧od[qd]? = some oe ∧
  (∀ (Ch:Nat→Prop) (Stop:Goroutine→World→Prop) (w1:World) (x:Value),w1.cell? ⟨w.heap.size+2,0,none⟩=some x→(∀ d,GoesI Tryd.prog true (DT (ScZ zn) Ch) Stop (G (bc.at (ac.put oc.dst x) (.inRegion ops rest :: k0)) cs) (w1.at d))→GoesI Tryd.prog true (DT (ScZ zn) Ch) Stop (G (bd.at (ad.put oe.dst (.tuple #[])) (.inRegion od rd :: kd)) (bc.at ac (.inRegion ops (q0 :: rest) :: k0) :: cs)) w1) ∧
  g=G ((base 95).at { tmps:=#[Pt S.wb 0,.slice (some ⟨w.heap.size+3,0,none⟩) n n]++Array.replicate 60 undef,defers:=[] } [.code B35]) (bd.at ad (.inRegion od (qd :: rd) :: kd) :: bc.at ac (.inRegion ops (q0 :: rest) :: k0) :: cs)) (G ((base 60).at { tmps:=#[Pt S.wb 0,.slice (some ⟨sb,so,none⟩) n cap,.func (.func fid) (mc.bn caps) (mc.fr caps)]++Array.replicate 36 undef,defers:=[] } [.code B20]) (bc.at ac (.inRegion ops (q0 :: rest) :: k0) :: cs)) w:=by
  refine run20_in fid (mc.bn caps) (mc.fr caps) S.wb sb so n cap hn8 pc ln cp (fun k hk=>(t.len k hk).2) hs cs hoc hsb (Rel.refl w) (fun c hc=>hc.elim) (fun v' w' bd ad od qd rd oe kd hr hn hset ho hback=>GoesI.stop fun d=>⟨bd,ad,od,qd,rd,oe,kd,?_,ho,hback,rfl⟩)
  have e:(w'.at d).heap=v'.heap:=hr.eq
  exact ⟨by rw [e];exact hset.size,by rw [e];exact hset.p2,hset.rrow.of_block (by rw [e]),by rw [e];exact hset.p3,hset.brow.of_block (by rw [e]),fun j hj=>by rw [e];exact hset.blk j hj,fun b hb=>by rw [e];exact hset.old b hb,hr.os.trans hset.os,hr.output.trans hset.out⟩
 obtain ⟨N1,gs1,a1,w1,sl1,T1,q1,r1,z1,h1,⟨bd,ad,od,qd,rd,oe,kd,hset,hoe,hback,rfl⟩,A1⟩:=alone_goes A hg sl hG
 have hbkl:S.bk<w.heap.size:=by obtain ⟨c,m,h⟩:=hbk;exact (Array.getElem?_eq_some_iff.1 h).1
 have hm1:Mem zn S K w1:=(hm.grows ⟨by rw [hset.size];omega,hset.old,hset.os,hset.out⟩).mem
 have hbk1:Open w1 S.bk:=by
  obtain ⟨c,m,h⟩:=hbk
  exact ⟨c,m,by rw [hset.old _ hbkl];exact h⟩
 obtain ⟨B1,hB1,hP1⟩:=A1.past
 have sc:=scripts_of hmine hm hbk t hset n 0 (by omega) (allM S K w1) (futOf w.heap.size n ln 0) (fun b _=>rfl) (fun b=>Iff.rfl)
 obtain ⟨N2,gs2,w2,sl2,T2,q2,B2,S2,X2,Mm2,S1,l1,m,p',r2,z2,h2,hL2,hP2,hB2,hm2,hnv,hH,hT,hHas,hMo,hio,hXs,hPM,hMa,hMb⟩:=run35_all P hoe (K:=K) (S:=S) (w:=w1) sl1 (Mm:=⟨allM S K w1,w1.os,w1.output⟩) (Fut:=futOf w.heap.size n ln 0) (ss:=scrs mc fid caps pk w.heap.size n K pc ln cp rb cl) NT A1.left hP1 hB1 h1 hm1 hthr hran hbk1 allM_has (fun b hb=>(allM_own hb).1) (by
  show allM S K w1 S.bk=none
  unfold allM
  rw [if_pos (.inr rfl)]) ⟨rfl,rfl⟩ (fun b ⟨i,_,hi,h0,e⟩=>by
  subst e
  show allM S K w1 _≠none
  rw [allM_at (fun h=>by have:=hm.lt h;omega) (by omega),(hset.blk i hi).2.2]
  simp) sc (by simp) hn8 hlen hsl hsc l0 hturn
 have hXj:∀ j,j<n→∃ h tb gc b0,X2 j=(scrOf mc fid caps pk w.heap.size n (K.map (·.1)) pc ln cp rb cl j).X h tb gc b0:=fun j hj=>by
  have:=hXs j (scrOf mc fid caps pk w.heap.size n (K.map (·.1)) pc ln cp rb cl j) (by simp [scrs,hj])
  rw [Nat.zero_add] at this
  exact this
 have hab:∀ j,j<n→0<ln j→(X2 j).ab=w.heap.size+4+3*j+2:=fun j hj h0=>by
  obtain ⟨h,tb,gc,b0,e⟩:=hXj j hj
  rw [e]
  show (if ln j=0 then b0 else _)=_
  rw [if_neg (by omega)]
 have hkeep:∀ b o,allM S K w1 b=some o→(∀ j,j<n→b≠w.heap.size+4+3*j+2)→w2.heap[b]? = some o∧¬ Own S2 p'.K b:=fun b o hb hne=>by
  have h9:Mm2.M b=some o:=by
   rcases hMb b o hb with h|⟨j,hj,h3,h4⟩
   ·exact h
   ·exfalso
    by_cases h0:0<ln j
    ·exact hne j hj (h3.trans (hab j hj h0))
    ·obtain ⟨h,tb,gc,b0,e⟩:=hXj j hj
     rw [e] at h3 h4
     apply h4
     rw [h3]
     show (if ln j=0 then b0 else _)=b0
     rw [if_pos (by omega)]
  exact ⟨hHas b o h9,hMo b (by rw [h9];simp)⟩
 have hnew:∀ b o,w.heap.size≤b→w1.heap[b]? = some o→(∀ j,j<n→b≠w.heap.size+4+3*j+2)→w2.heap[b]? = some o:=fun b o hb h hne=>(hkeep b o (by rw [allM_at (fun h=>by have:=hm.lt h;omega) (by omega)];exact h) hne).1
 have c2:w2.cell? ⟨w.heap.size+2,0,none⟩=some (.slice (some ⟨w.heap.size+1,0,none⟩) n n):=by
  unfold World.cell?
  rw [hnew _ _ (by show _≤w.heap.size+2;omega) hset.p3 (fun j hj=>by show w.heap.size+2≠_;omega)]
  rfl
 have A2:Alone gs2 w2 T2 q2:=⟨hL2,B2,hB2,hP2⟩
 obtain ⟨N3,gs3,a3,w3,sl3,T3,q3,r3,z3,h3,⟨rfl,d3,rfl⟩,A3⟩:=alone_goes A2 h2 sl2 (hback (fun _=>False) (fun g w'=>g=G (bc.at (ac.put oc.dst (.slice (some ⟨w.heap.size+1,0,none⟩) n n)) (.inRegion ops rest :: k0)) cs∧∃ d,w'=w2.at d) w2 _ c2 (fun d=>GoesI.stop fun d'=>⟨rfl,d',rfl⟩))
 refine ⟨N1+N2+N3,gs3,w2.at d3,sl3,T3,q3,S2,S1,l1,m,p',runNT_then (runNT_then r1 r2) r3,by omega,h3,A3,hnv,hH,hT,⟨?_,?_,fun b hb ho hk=>?_,fun j hj=>?_,fun j hj=>?_,?_,?_⟩⟩
 ·exact (hm2.grows (v':=w2.at d3) ⟨Nat.le_refl _,fun _ _=>rfl,rfl,rfl⟩).mem
 ·show w.heap.size≤w2.heap.size
  have:=(Array.getElem?_eq_some_iff.1 (hnew _ _ (by omega:w.heap.size≤w.heap.size+2) hset.p3 (fun j hj=>by omega))).1
  omega
 ·have e:w.heap[b]? = some w.heap[b]:=Array.getElem?_eq_getElem hb
  have:=hkeep b _ (by rw [allM_at ho hk,hset.old b hb];exact e) (fun j hj=>by omega)
  exact ⟨this.1.trans e.symm,this.2⟩
 ·have hl:=hset.rrow.lt
  have e:w1.heap[w.heap.size+1]? = some w1.heap[w.heap.size+1]:=Array.getElem?_eq_getElem hl
  have h9:=hnew _ _ (by omega) e (fun j hj=>by omega)
  show w2.cell? _=_
  rw [World.cell?_of_block (w:=w1) (w':=w2) (by show w2.heap[w.heap.size+1]? = w1.heap[w.heap.size+1]?;rw [h9,e])]
  exact hset.rrow.cell hj
 ·obtain ⟨hpm,hd⟩:=hPM j hj
  obtain ⟨h,tb,gc,b0,e⟩:=hXj j hj
  have hc:(X2 j).calls.length=ln j:=by rw [e];exact (t.len j hj).1
  refine ⟨hpm.len.trans hc,fun h0=>?_,hd⟩
  have:=hpm.row (by rw [hc];exact h0)
  rw [hab j hj h0] at this
  rw [e] at this
  exact this
 ·exact hio.1.trans hset.os
 ·exact hio.2.trans hset.out
end
end Go.Proofs.YtfjjoohflcchnaaDoor.Gen
namespace Go.Lift
open Go.Conc
section
variable {P:Program} {wr:Bool}
theorem calm_listForIn_mem {α σ:Type} {f:α→σ→Sem (ForInStep σ)}:∀ (l:List α) (s:σ),(∀ a∈l,∀ s,calm P wr (f a s))→calm P wr (forIn l s f)
 | [],s,_=>by rw [List.forIn_nil];exact calm_pure _
 |a :: l,s,h=>by
  rw [List.forIn_cons]
  refine calm_bind (h a (List.mem_cons_self ..) s) fun x=>?_
  cases x with
  |done b=>exact calm_pure _
  |yield b=>exact calm_listForIn_mem l b (fun a' ha=>h a' (List.mem_cons_of_mem _ ha))
theorem calm_arrayForIn_mem {α σ:Type} {f:α→σ→Sem (ForInStep σ)} (l:Array α) (s:σ) (h:∀ a∈l,∀ s,calm P wr (f a s)):calm P wr (forIn l s f):=by
 rw [←Array.forIn_toList]
 exact calm_listForIn_mem _ _ (fun a ha=>h a (by simpa using ha))
theorem calm_equalIn_flat {t:TypeId} (ht:flatT P t=true) (d:Nat) (x y:Value):calm P wr (Op.equalIn (d+1) t x y):=by
 unfold Op.equalIn
 refine calm_und fun d hd=>?_
 unfold flatT at ht
 rw [hd] at ht
 split
 all_goals first|(exfalso;revert ht;simp;done)|repeat' (first|with_reducible (first|exact calm_viewAt _|exact calm_numberAt _|exact calm_asNumber _ _|exact calm_behindNumber _|exact calm_noView _|exact calm_byteOf _|exact calm_partAt _ _ _|exact calm_fieldPlace _ _|exact calm_typeStr _|exact calm_alloc _|exact calm_box _ _|exact calm_build _ _|exact calm_buildSlice _ _ _|exact calm_loadAt _ _|exact calm_fieldAt _ _ _|exact calm_indexAt _ _ _|exact calm_sliceBound _ _ _|exact calm_sliceBounds _ _ _ _ _ _|exact calm_slice _ _ _ _ _|exact calm_sliceAt _ _ _ _ _|exact calm_makeChan _ _|exact calm_makeSlice _ _ _|exact calm_field _ _ _|exact calm_index _ _ _|exact calm_extract _ _|exact calm_len _ _ _|exact calm_cap _ _ _|exact calm_lenOf _|exact calm_firstCells _ _ _|exact calm_holdsCells _ _|exact calm_intArith _ _ _ _|exact calm_intDiv _ _ _ _|exact calm_intBits _ _ _ _|exact calm_intCmp _ _ _|exact calm_shift _ _ _ _ _|exact calm_stringOp _ _ _|exact calm_floatArith _ _ _ _|exact calm_floatCmp _ _ _ _|exact calm_twoPlaces _ _|exact calm_addrSub _ _ _|exact calm_addrCmp _ _ _|exact calm_addrMod _ _ _|exact calm_unsafeAdd _ _ _|exact calm_movedNumber _ _ _|exact calm_movedPointer _ _ _|exact calm_unary _ _|exact calm_floatToFloat _ _ _|exact calm_pure _|exact calm_stuck _|exact calm_unsupported _|exact calm_goPanic _|exact calm_runtimePanic _|exact calm_boundsPanic _ _ _ _|exact calm_program|exact calm_shape _|exact calm_getObj _|exact calm_newObj _|exact calm_choose _|exact calm_load _ _|exact calm_askRoom _|exact calm_typeInfo _|exact calm_underlying _|exact calm_zeroValue _|exact calm_sizeOf _|exact calm_isAgg _|exact calm_elemOf _|exact calm_newRow _ _|exact calm_newVar _ _|exact calm_asIntOf _|exact calm_asInt _|exact calm_asBool _|exact calm_asAgg _|exact calm_asAddr _|exact calm_sureAddr _|exact calm_loadCells _ _|exact calm_loadVar _ _|exact calm_part _ _ _|exact calm_markRoom|exact calm_markExtern _|(refine calm_arrayForIn (fun _ _=>?_) _ _)|(refine calm_rangeForIn (fun _ _=>?_) _ _)|apply calm_map|refine calm_bind ?_ (fun _=>?_))|split|dsimp only)
theorem calm_equal_struct {t:TypeId} {fields:Array Field} (ht:P.underlying t=some (.struct fields)) (hf:∀ f∈fields,flatT P f.type=true) (x y:Value):calm P wr (Op.equal t x y):=by
 show calm P wr (Op.equalIn (9998+1+1) t x y)
 unfold Op.equalIn
 refine calm_und fun d hd=>?_
 rw [ht] at hd
 cases hd
 cases x<;>try exact calm_stuck _
 cases y<;>try exact calm_stuck _
 rename_i xs ys
 simp only
 refine calm_bind calm_program fun p=>?_
 split
 ·refine calm_bind (calm_unsupported _) fun _=>?_
  refine calm_bind (calm_arrayForIn_mem _ _ fun f hff s=>?_) fun s=>?_
  ·split
   ·refine calm_bind (calm_part _ _ _) fun a=>calm_bind (calm_part _ _ _) fun b=>calm_bind (calm_equalIn_flat (hf f hff) 9998 a b) fun c=>?_
    split<;>exact calm_pure _
   ·exact calm_pure _
  ·split<;>exact calm_pure _
 ·skip
  refine calm_bind (calm_arrayForIn_mem _ _ fun f hff s=>?_) fun s=>?_
  ·split
   ·refine calm_bind (calm_part _ _ _) fun a=>calm_bind (calm_part _ _ _) fun b=>calm_bind (calm_equalIn_flat (hf f hff) 9998 a b) fun c=>?_
    split<;>exact calm_pure _
   ·exact calm_pure _
  ·split<;>exact calm_pure _
end
section
variable {P:Program} {wr:Bool} {L:FuncId→Prop}
def flatS (P:Program) (t:TypeId):Bool:=match P.underlying t with
 |some (.struct fs)=>fs.all (fun f=>flatT P f.type)
 |_=>false
def askEq (P:Program):Op→Bool
 |.binOp .eql t _ _ _=>flatS P t
 |.binOp .neq t _ _ _=>flatS P t
 |_=>false
theorem calm_flatS {t:TypeId} (h:flatS P t=true) (x y:Value):calm P wr (Op.equal t x y):=by
 unfold flatS at h
 split at h
 ·rename_i fs e
  exact calm_equal_struct e (fun f hf=>(Array.all_eq_true_iff_forall_mem.1 h) f hf) x y
 ·cases h
theorem fineOp_eq {o:Oper} (h:askEq P o.op=true):fineOp P wr L o:=by
 obtain ⟨dst,op,type,pos,after,guard⟩:=o
 unfold askEq at h
 simp only at h
 split at h
 ·rename_i t x y t'
  refine fun a=>?_
  have he:execOp a.eval { dst:=dst,op:=.binOp .eql t x y t',type:=type,pos:=pos,after:=after,guard:=guard }=(do eqGuard .eql t x y (a.eval x) (a.eval y);binOp .eql t (a.eval x) (a.eval y):Sem Value).bind fun v=>Sem.pure (Next.value v):=rfl
  rw [he]
  exact ⟨calm_sbind (calm_bind (calm_eqGuard _ _ _ _ _ _) fun _=>calm_binOp _ _ _ _ (fun _=>calm_flatS h _ _)) fun _=>trivial,fun w x w' h=>.inl (val_out h)⟩
 ·rename_i t x y t'
  refine fun a=>?_
  have he:execOp a.eval { dst:=dst,op:=.binOp .neq t x y t',type:=type,pos:=pos,after:=after,guard:=guard }=(do eqGuard .neq t x y (a.eval x) (a.eval y);binOp .neq t (a.eval x) (a.eval y):Sem Value).bind fun v=>Sem.pure (Next.value v):=rfl
  rw [he]
  exact ⟨calm_sbind (calm_bind (calm_eqGuard _ _ _ _ _ _) fun _=>calm_binOp _ _ _ _ (fun _=>calm_flatS h _ _)) fun _=>trivial,fun w x w' h=>.inl (val_out h)⟩
 ·cases h
def askMax:Op→Bool
 |.call { callee:=.builtin .max,args:=ar,.. }=>match ar.toList with
  | [_,.const (.int _ _)]=>true
  |_=>false
 |_=>false
theorem calm_max2 (x:Value) (k:IntKind) (y:Int):calm P wr (Builtin.max2 x (.int k y)):=by
 cases x<;>first|exact calm_pure _|exact calm_stuck _|(rename_i p;cases p<;>first|exact calm_stuck _|exact calm_unsupported _)
theorem fineOp_max {o:Oper} (h:askMax o.op=true):fineOp P wr L o:=by
 obtain ⟨dst,op,type,pos,after,guard⟩:=o
 unfold askMax at h
 simp only at h
 split at h
 ·rename_i ar ats
  split at h
  ·rename_i x k y e
   refine fun a=>?_
   have he:execOp a.eval { dst:=dst,op:=.call { callee:=.builtin .max,args:=ar,argTypes:=ats },type:=type,pos:=pos,after:=after,guard:=guard }=(Builtin.max_ ats type (ar.map a.eval)).bind fun v=>Sem.pure (Next.value v):=rfl
   rw [he]
   refine ⟨calm_sbind ?_ fun _=>trivial,fun w x w' h=>.inl (val_out h)⟩
   unfold Builtin.max_
   have e2:(ar.map a.eval).toList=[a.eval x,.int k y]:=by rw [Array.toList_map,e];rfl
   rw [e2]
   show calm P wr ([Value.int k y].foldlM Builtin.max2 (a.eval x))
   rw [List.foldlM_cons]
   exact calm_bind (calm_max2 _ _ _) fun _=>calm_pure _
  ·cases h
 ·cases h
def askMin:Op→Bool
 |.call { callee:=.builtin .min,args:=ar,.. }=>match ar.toList with
  | [_,.const (.int _ _)]=>true
  |_=>false
 |_=>false
theorem calm_min2 (x:Value) (k:IntKind) (y:Int):calm P wr (Builtin.min2 x (.int k y)):=by
 cases x<;>first|exact calm_pure _|exact calm_stuck _|(rename_i p;cases p<;>first|exact calm_stuck _|exact calm_unsupported _)
theorem fineOp_min {o:Oper} (h:askMin o.op=true):fineOp P wr L o:=by
 obtain ⟨dst,op,type,pos,after,guard⟩:=o
 unfold askMin at h
 simp only at h
 split at h
 ·rename_i ar ats
  split at h
  ·rename_i x k y e
   refine fun a=>?_
   have he:execOp a.eval { dst:=dst,op:=.call { callee:=.builtin .min,args:=ar,argTypes:=ats },type:=type,pos:=pos,after:=after,guard:=guard }=(Builtin.min_ ats type (ar.map a.eval)).bind fun v=>Sem.pure (Next.value v):=rfl
   rw [he]
   refine ⟨calm_sbind ?_ fun _=>trivial,fun w x w' h=>.inl (val_out h)⟩
   unfold Builtin.min_
   have e2:(ar.map a.eval).toList=[a.eval x,.int k y]:=by rw [Array.toList_map,e];rfl
   rw [e2]
   show calm P wr ([Value.int k y].foldlM Builtin.min2 (a.eval x))
   rw [List.foldlM_cons]
   exact calm_bind (calm_min2 _ _ _) fun _=>calm_pure _
  ·cases h
 ·cases h
def askCodeS (P:Program) (wr:Bool) (fs:List FuncId) (xs:List (FuncId×Nat)):Code→Bool
 |.skip|.ret|.label _|.exit _=>true
 |.seq a b=>askCodeS P wr fs xs a&&askCodeS P wr fs xs b
 |.cond _ a b=>askCodeS P wr fs xs a&&askCodeS P wr fs xs b
 |.block _ c=>askCodeS P wr fs xs c
 |.loop c=>askCodeS P wr fs xs c
 |.region _ ops _=>ops.all fun o=>(plainOp P wr o.op||askCall fs xs o.op)||(askEq P o.op||(askMax o.op||askMin o.op))
 |_=>false
theorem fineCode_askS {fs:List FuncId} {xs:List (FuncId×Nat)} (hfs:∀ f∈fs,Callable P L f) (hxs:∀ x∈xs,ExtOk P wr x.1 x.2):∀ {c:Code},askCodeS P wr fs xs c=true→fineCode P wr L c:=by
 intro c
 induction c with
 |seq a b iha ihb=>intro h;simp only [askCodeS,Bool.and_eq_true] at h;exact ⟨iha h.1,ihb h.2⟩
 |cond o a b iha ihb=>intro h;simp only [askCodeS,Bool.and_eq_true] at h;exact ⟨iha h.1,ihb h.2⟩
 |block id c ih=>intro h;exact ih h
 |loop c ih=>intro h;exact ih h
 |region id ops d =>
  intro h
  simp only [askCodeS,Array.all_eq_true_iff_forall_mem] at h
  intro o ho
  rcases Bool.or_eq_true_iff.1 (h o ho) with h|h
  ·exact fineOp_ask hfs hxs h
  ·rcases Bool.or_eq_true_iff.1 h with h|h
   ·exact fineOp_eq h
   ·rcases Bool.or_eq_true_iff.1 h with h|h
    ·exact fineOp_max h
    ·exact fineOp_min h
 |skip=>intro _;trivial
 |ret=>intro _;trivial
 |label l=>intro _;trivial
 |exit id=>intro _;trivial
 |_=>intro h;simp [askCodeS] at h
theorem fineFn_askS {fs:List FuncId} {xs:List (FuncId×Nat)} (hfs:∀ f∈fs,Callable P L f) (hxs:∀ x∈xs,ExtOk P wr x.1 x.2) {f:FuncId} {fn:Func} {c:Code} (hf:P.funcs[f]? = some fn) (hb:fn.body=some c) (h:askCodeS P wr fs xs c=true):fineFn P wr L f :=
 ⟨fn,c,hf,hb,fineCode_askS hfs hxs h,calm_results fn⟩
end
end Go.Lift
namespace Go.Proofs.YtfjjoohflcchnaaDoor
open Go Go.Lift Go.Conc Go.RowKit
def plainV:List FuncId:=[62,104,108,111,107,128,118,157,74,109,110,105,68,99,71,72,87,89,90,132,39,54,78,17,23,70,26,59,103,92,32,19,58,30,20,21,22,27,31,34,35,36,37,38,44,45,46,47,48,53,56,24,49,50,82,83,84,85,113,114,115,116,117,133,134,135,158,159,91,96]
def LV (f:FuncId):Prop:=f∈plainV
theorem callV:∀ f∈plainV,Callable Tryd.prog LV f:=by
 intro f hf
 have hf':=hf
 simp only [plainV,List.mem_cons,List.not_mem_nil,or_false] at hf
 rcases hf with rfl|rfl|rfl|rfl|rfl|rfl|rfl|rfl|rfl|rfl|rfl|rfl|rfl|rfl|rfl|rfl|rfl|rfl|rfl|rfl|rfl|rfl|rfl|rfl|rfl|rfl|rfl|rfl|rfl|rfl|rfl|rfl|rfl|rfl|rfl|rfl|rfl|rfl|rfl|rfl|rfl|rfl|rfl|rfl|rfl|rfl|rfl|rfl|rfl|rfl|rfl|rfl|rfl|rfl|rfl|rfl|rfl|rfl|rfl|rfl|rfl|rfl|rfl|rfl|rfl|rfl|rfl|rfl|rfl|rfl
 ·exact ⟨hf',Tryd.f62,Tryd.func62,by kernel_rfl,by kernel_rfl⟩
 ·exact ⟨hf',Tryd.f104,Tryd.func104,by kernel_rfl,by kernel_rfl⟩
 ·exact ⟨hf',Tryd.f108,Tryd.func108,by kernel_rfl,by kernel_rfl⟩
 ·exact ⟨hf',Tryd.f111,Tryd.func111,by kernel_rfl,by kernel_rfl⟩
 ·exact ⟨hf',Tryd.f107,Tryd.func107,by kernel_rfl,by kernel_rfl⟩
 ·exact ⟨hf',Tryd.f128,Tryd.func128,by kernel_rfl,by kernel_rfl⟩
 ·exact ⟨hf',Tryd.f118,Tryd.func118,by kernel_rfl,by kernel_rfl⟩
 ·exact ⟨hf',Tryd.f157,Tryd.func157,by kernel_rfl,by kernel_rfl⟩
 ·exact ⟨hf',Tryd.f74,Tryd.func74,by kernel_rfl,by kernel_rfl⟩
 ·exact ⟨hf',Tryd.f109,Tryd.func109,by kernel_rfl,by kernel_rfl⟩
 ·exact ⟨hf',Tryd.f110,Tryd.func110,by kernel_rfl,by kernel_rfl⟩
 ·exact ⟨hf',Tryd.f105,Tryd.func105,by kernel_rfl,by kernel_rfl⟩
 ·exact ⟨hf',Tryd.f68,Tryd.func68,by kernel_rfl,by kernel_rfl⟩
 ·exact ⟨hf',Tryd.f99,Tryd.func99,by kernel_rfl,by kernel_rfl⟩
 ·exact ⟨hf',Tryd.f71,Tryd.func71,by kernel_rfl,by kernel_rfl⟩
 ·exact ⟨hf',Tryd.f72,Tryd.func72,by kernel_rfl,by kernel_rfl⟩
 ·exact ⟨hf',Tryd.f87,Tryd.func87,by kernel_rfl,by kernel_rfl⟩
 ·exact ⟨hf',Tryd.f89,Tryd.func89,by kernel_rfl,by kernel_rfl⟩
 ·exact ⟨hf',Tryd.f90,Tryd.func90,by kernel_rfl,by kernel_rfl⟩
 ·exact ⟨hf',Tryd.f132,Tryd.func132,by kernel_rfl,by kernel_rfl⟩
 ·exact ⟨hf',Tryd.f39,Tryd.func39,by kernel_rfl,by kernel_rfl⟩
 ·exact ⟨hf',Tryd.f54,Tryd.func54,by kernel_rfl,by kernel_rfl⟩
 ·exact ⟨hf',Tryd.f78,Tryd.func78,by kernel_rfl,by kernel_rfl⟩
 ·exact ⟨hf',Tryd.f17,Tryd.func17,by kernel_rfl,by kernel_rfl⟩
 ·exact ⟨hf',Tryd.f23,Tryd.func23,by kernel_rfl,by kernel_rfl⟩
 ·exact ⟨hf',Tryd.f70,Tryd.func70,by kernel_rfl,by kernel_rfl⟩
 ·exact ⟨hf',Tryd.f26,Tryd.func26,by kernel_rfl,by kernel_rfl⟩
 ·exact ⟨hf',Tryd.f59,Tryd.func59,by kernel_rfl,by kernel_rfl⟩
 ·exact ⟨hf',Tryd.f103,Tryd.func103,by kernel_rfl,by kernel_rfl⟩
 ·exact ⟨hf',Tryd.f92,Tryd.func92,by kernel_rfl,by kernel_rfl⟩
 ·exact ⟨hf',Tryd.f32,Tryd.func32,by kernel_rfl,by kernel_rfl⟩
 ·exact ⟨hf',Tryd.f19,Tryd.func19,by kernel_rfl,by kernel_rfl⟩
 ·exact ⟨hf',Tryd.f58,Tryd.func58,by kernel_rfl,by kernel_rfl⟩
 ·exact ⟨hf',Tryd.f30,Tryd.func30,by kernel_rfl,by kernel_rfl⟩
 ·exact ⟨hf',Tryd.f20,Tryd.func20,by kernel_rfl,by kernel_rfl⟩
 ·exact ⟨hf',Tryd.f21,Tryd.func21,by kernel_rfl,by kernel_rfl⟩
 ·exact ⟨hf',Tryd.f22,Tryd.func22,by kernel_rfl,by kernel_rfl⟩
 ·exact ⟨hf',Tryd.f27,Tryd.func27,by kernel_rfl,by kernel_rfl⟩
 ·exact ⟨hf',Tryd.f31,Tryd.func31,by kernel_rfl,by kernel_rfl⟩
 ·exact ⟨hf',Tryd.f34,Tryd.func34,by kernel_rfl,by kernel_rfl⟩
 ·exact ⟨hf',Tryd.f35,Tryd.func35,by kernel_rfl,by kernel_rfl⟩
 ·exact ⟨hf',Tryd.f36,Tryd.func36,by kernel_rfl,by kernel_rfl⟩
 ·exact ⟨hf',Tryd.f37,Tryd.func37,by kernel_rfl,by kernel_rfl⟩
 ·exact ⟨hf',Tryd.f38,Tryd.func38,by kernel_rfl,by kernel_rfl⟩
 ·exact ⟨hf',Tryd.f44,Tryd.func44,by kernel_rfl,by kernel_rfl⟩
 ·exact ⟨hf',Tryd.f45,Tryd.func45,by kernel_rfl,by kernel_rfl⟩
 ·exact ⟨hf',Tryd.f46,Tryd.func46,by kernel_rfl,by kernel_rfl⟩
 ·exact ⟨hf',Tryd.f47,Tryd.func47,by kernel_rfl,by kernel_rfl⟩
 ·exact ⟨hf',Tryd.f48,Tryd.func48,by kernel_rfl,by kernel_rfl⟩
 ·exact ⟨hf',Tryd.f53,Tryd.func53,by kernel_rfl,by kernel_rfl⟩
 ·exact ⟨hf',Tryd.f56,Tryd.func56,by kernel_rfl,by kernel_rfl⟩
 ·exact ⟨hf',Tryd.f24,Tryd.func24,by kernel_rfl,by kernel_rfl⟩
 ·exact ⟨hf',Tryd.f49,Tryd.func49,by kernel_rfl,by kernel_rfl⟩
 ·exact ⟨hf',Tryd.f50,Tryd.func50,by kernel_rfl,by kernel_rfl⟩
 ·exact ⟨hf',Tryd.f82,Tryd.func82,by kernel_rfl,by kernel_rfl⟩
 ·exact ⟨hf',Tryd.f83,Tryd.func83,by kernel_rfl,by kernel_rfl⟩
 ·exact ⟨hf',Tryd.f84,Tryd.func84,by kernel_rfl,by kernel_rfl⟩
 ·exact ⟨hf',Tryd.f85,Tryd.func85,by kernel_rfl,by kernel_rfl⟩
 ·exact ⟨hf',Tryd.f113,Tryd.func113,by kernel_rfl,by kernel_rfl⟩
 ·exact ⟨hf',Tryd.f114,Tryd.func114,by kernel_rfl,by kernel_rfl⟩
 ·exact ⟨hf',Tryd.f115,Tryd.func115,by kernel_rfl,by kernel_rfl⟩
 ·exact ⟨hf',Tryd.f116,Tryd.func116,by kernel_rfl,by kernel_rfl⟩
 ·exact ⟨hf',Tryd.f117,Tryd.func117,by kernel_rfl,by kernel_rfl⟩
 ·exact ⟨hf',Tryd.f133,Tryd.func133,by kernel_rfl,by kernel_rfl⟩
 ·exact ⟨hf',Tryd.f134,Tryd.func134,by kernel_rfl,by kernel_rfl⟩
 ·exact ⟨hf',Tryd.f135,Tryd.func135,by kernel_rfl,by kernel_rfl⟩
 ·exact ⟨hf',Tryd.f158,Tryd.func158,by kernel_rfl,by kernel_rfl⟩
 ·exact ⟨hf',Tryd.f159,Tryd.func159,by kernel_rfl,by kernel_rfl⟩
 ·exact ⟨hf',Tryd.f91,Tryd.func91,by kernel_rfl,by kernel_rfl⟩
 ·exact ⟨hf',Tryd.f96,Tryd.func96,by kernel_rfl,by kernel_rfl⟩
theorem fineV:∀ f,LV f→fineFn Tryd.prog true LV f:=by
 intro f hf
 simp only [LV,plainV,List.mem_cons,List.not_mem_nil,or_false] at hf
 rcases hf with rfl|rfl|rfl|rfl|rfl|rfl|rfl|rfl|rfl|rfl|rfl|rfl|rfl|rfl|rfl|rfl|rfl|rfl|rfl|rfl|rfl|rfl|rfl|rfl|rfl|rfl|rfl|rfl|rfl|rfl|rfl|rfl|rfl|rfl|rfl|rfl|rfl|rfl|rfl|rfl|rfl|rfl|rfl|rfl|rfl|rfl|rfl|rfl|rfl|rfl|rfl|rfl|rfl|rfl|rfl|rfl|rfl|rfl|rfl|rfl|rfl|rfl|rfl|rfl|rfl|rfl|rfl|rfl|rfl|rfl
 ·exact fineFn_askS callV extT Tryd.func62 (c:=Tryd.f62.body.getD .skip) (by rfl) (by kernel_rfl)
 ·exact fineFn_askS callV extT Tryd.func104 (c:=Tryd.f104.body.getD .skip) (by rfl) (by kernel_rfl)
 ·exact fineFn_askS callV extT Tryd.func108 (c:=Tryd.f108.body.getD .skip) (by rfl) (by kernel_rfl)
 ·exact fineFn_askS callV extT Tryd.func111 (c:=Tryd.f111.body.getD .skip) (by rfl) (by kernel_rfl)
 ·exact fineFn_askS callV extT Tryd.func107 (c:=Tryd.f107.body.getD .skip) (by rfl) (by kernel_rfl)
 ·exact fineFn_askS callV extT Tryd.func128 (c:=Tryd.f128.body.getD .skip) (by rfl) (by kernel_rfl)
 ·exact fineFn_askS callV extT Tryd.func118 (c:=Tryd.f118.body.getD .skip) (by rfl) (by kernel_rfl)
 ·exact fineFn_askS callV extT Tryd.func157 (c:=Tryd.f157.body.getD .skip) (by rfl) (by kernel_rfl)
 ·exact fineFn_askS callV extT Tryd.func74 (c:=Tryd.f74.body.getD .skip) (by rfl) (by kernel_rfl)
 ·exact fineFn_askS callV extT Tryd.func109 (c:=Tryd.f109.body.getD .skip) (by rfl) (by kernel_rfl)
 ·exact fineFn_askS callV extT Tryd.func110 (c:=Tryd.f110.body.getD .skip) (by rfl) (by kernel_rfl)
 ·exact fineFn_askS callV extT Tryd.func105 (c:=Tryd.f105.body.getD .skip) (by rfl) (by kernel_rfl)
 ·exact fineFn_askS callV extT Tryd.func68 (c:=Tryd.f68.body.getD .skip) (by rfl) (by kernel_rfl)
 ·exact fineFn_askS callV extT Tryd.func99 (c:=Tryd.f99.body.getD .skip) (by rfl) (by kernel_rfl)
 ·exact fineFn_askS callV extT Tryd.func71 (c:=Tryd.f71.body.getD .skip) (by rfl) (by kernel_rfl)
 ·exact fineFn_askS callV extT Tryd.func72 (c:=Tryd.f72.body.getD .skip) (by rfl) (by kernel_rfl)
 ·exact fineFn_askS callV extT Tryd.func87 (c:=Tryd.f87.body.getD .skip) (by rfl) (by kernel_rfl)
 ·exact fineFn_askS callV extT Tryd.func89 (c:=Tryd.f89.body.getD .skip) (by rfl) (by kernel_rfl)
 ·exact fineFn_askS callV extT Tryd.func90 (c:=Tryd.f90.body.getD .skip) (by rfl) (by kernel_rfl)
 ·exact fineFn_askS callV extT Tryd.func132 (c:=Tryd.f132.body.getD .skip) (by rfl) (by kernel_rfl)
 ·exact fineFn_askS callV extT Tryd.func39 (c:=Tryd.f39.body.getD .skip) (by rfl) (by kernel_rfl)
 ·exact fineFn_askS callV extT Tryd.func54 (c:=Tryd.f54.body.getD .skip) (by rfl) (by kernel_rfl)
 ·exact fineFn_askS callV extT Tryd.func78 (c:=Tryd.f78.body.getD .skip) (by rfl) (by kernel_rfl)
 ·exact fineFn_askS callV extT Tryd.func17 (c:=Tryd.f17.body.getD .skip) (by rfl) (by kernel_rfl)
 ·exact fineFn_askS callV extT Tryd.func23 (c:=Tryd.f23.body.getD .skip) (by rfl) (by kernel_rfl)
 ·exact fineFn_askS callV extT Tryd.func70 (c:=Tryd.f70.body.getD .skip) (by rfl) (by kernel_rfl)
 ·exact fineFn_askS callV extT Tryd.func26 (c:=Tryd.f26.body.getD .skip) (by rfl) (by kernel_rfl)
 ·exact fineFn_askS callV extT Tryd.func59 (c:=Tryd.f59.body.getD .skip) (by rfl) (by kernel_rfl)
 ·exact fineFn_askS callV extT Tryd.func103 (c:=Tryd.f103.body.getD .skip) (by rfl) (by kernel_rfl)
 ·exact fineFn_askS callV extT Tryd.func92 (c:=Tryd.f92.body.getD .skip) (by rfl) (by kernel_rfl)
 ·exact fineFn_askS callV extT Tryd.func32 (c:=Tryd.f32.body.getD .skip) (by rfl) (by kernel_rfl)
 ·exact fineFn_askS callV extT Tryd.func19 (c:=Tryd.f19.body.getD .skip) (by rfl) (by kernel_rfl)
 ·exact fineFn_askS callV extT Tryd.func58 (c:=Tryd.f58.body.getD .skip) (by rfl) (by kernel_rfl)
 ·exact fineFn_askS callV extT Tryd.func30 (c:=Tryd.f30.body.getD .skip) (by rfl) (by kernel_rfl)
 ·exact fineFn_askS callV extT Tryd.func20 (c:=Tryd.f20.body.getD .skip) (by rfl) (by kernel_rfl)
 ·exact fineFn_askS callV extT Tryd.func21 (c:=Tryd.f21.body.getD .skip) (by rfl) (by kernel_rfl)
 ·exact fineFn_askS callV extT Tryd.func22 (c:=Tryd.f22.body.getD .skip) (by rfl) (by kernel_rfl)
 ·exact fineFn_askS callV extT Tryd.func27 (c:=Tryd.f27.body.getD .skip) (by rfl) (by kernel_rfl)
 ·exact fineFn_askS callV extT Tryd.func31 (c:=Tryd.f31.body.getD .skip) (by rfl) (by kernel_rfl)
 ·exact fineFn_askS callV extT Tryd.func34 (c:=Tryd.f34.body.getD .skip) (by rfl) (by kernel_rfl)
 ·exact fineFn_askS callV extT Tryd.func35 (c:=Tryd.f35.body.getD .skip) (by rfl) (by kernel_rfl)
 ·exact fineFn_askS callV extT Tryd.func36 (c:=Tryd.f36.body.getD .skip) (by rfl) (by kernel_rfl)
 ·exact fineFn_askS callV extT Tryd.func37 (c:=Tryd.f37.body.getD .skip) (by rfl) (by kernel_rfl)
 ·exact fineFn_askS callV extT Tryd.func38 (c:=Tryd.f38.body.getD .skip) (by rfl) (by kernel_rfl)
 ·exact fineFn_askS callV extT Tryd.func44 (c:=Tryd.f44.body.getD .skip) (by rfl) (by kernel_rfl)
 ·exact fineFn_askS callV extT Tryd.func45 (c:=Tryd.f45.body.getD .skip) (by rfl) (by kernel_rfl)
 ·exact fineFn_askS callV extT Tryd.func46 (c:=Tryd.f46.body.getD .skip) (by rfl) (by kernel_rfl)
 ·exact fineFn_askS callV extT Tryd.func47 (c:=Tryd.f47.body.getD .skip) (by rfl) (by kernel_rfl)
 ·exact fineFn_askS callV extT Tryd.func48 (c:=Tryd.f48.body.getD .skip) (by rfl) (by kernel_rfl)
 ·exact fineFn_askS callV extT Tryd.func53 (c:=Tryd.f53.body.getD .skip) (by rfl) (by kernel_rfl)
 ·exact fineFn_askS callV extT Tryd.func56 (c:=Tryd.f56.body.getD .skip) (by rfl) (by kernel_rfl)
 ·exact fineFn_askS callV extT Tryd.func24 (c:=Tryd.f24.body.getD .skip) (by rfl) (by kernel_rfl)
 ·exact fineFn_askS callV extT Tryd.func49 (c:=Tryd.f49.body.getD .skip) (by rfl) (by kernel_rfl)
 ·exact fineFn_askS callV extT Tryd.func50 (c:=Tryd.f50.body.getD .skip) (by rfl) (by kernel_rfl)
 ·exact fineFn_askS callV extT Tryd.func82 (c:=Tryd.f82.body.getD .skip) (by rfl) (by kernel_rfl)
 ·exact fineFn_askS callV extT Tryd.func83 (c:=Tryd.f83.body.getD .skip) (by rfl) (by kernel_rfl)
 ·exact fineFn_askS callV extT Tryd.func84 (c:=Tryd.f84.body.getD .skip) (by rfl) (by kernel_rfl)
 ·exact fineFn_askS callV extT Tryd.func85 (c:=Tryd.f85.body.getD .skip) (by rfl) (by kernel_rfl)
 ·exact fineFn_askS callV extT Tryd.func113 (c:=Tryd.f113.body.getD .skip) (by rfl) (by kernel_rfl)
 ·exact fineFn_askS callV extT Tryd.func114 (c:=Tryd.f114.body.getD .skip) (by rfl) (by kernel_rfl)
 ·exact fineFn_askS callV extT Tryd.func115 (c:=Tryd.f115.body.getD .skip) (by rfl) (by kernel_rfl)
 ·exact fineFn_askS callV extT Tryd.func116 (c:=Tryd.f116.body.getD .skip) (by rfl) (by kernel_rfl)
 ·exact fineFn_askS callV extT Tryd.func117 (c:=Tryd.f117.body.getD .skip) (by rfl) (by kernel_rfl)
 ·exact fineFn_askS callV extT Tryd.func133 (c:=Tryd.f133.body.getD .skip) (by rfl) (by kernel_rfl)
 ·exact fineFn_askS callV extT Tryd.func134 (c:=Tryd.f134.body.getD .skip) (by rfl) (by kernel_rfl)
 ·exact fineFn_askS callV extT Tryd.func135 (c:=Tryd.f135.body.getD .skip) (by rfl) (by kernel_rfl)
 ·exact fineFn_askS callV extT Tryd.func158 (c:=Tryd.f158.body.getD .skip) (by rfl) (by kernel_rfl)
 ·exact fineFn_askS callV extT Tryd.func159 (c:=Tryd.f159.body.getD .skip) (by rfl) (by kernel_rfl)
 ·exact fineFn_askS callV extT Tryd.func91 (c:=Tryd.f91.body.getD .skip) (by rfl) (by kernel_rfl)
 ·exact fineFn_askS callV extT Tryd.func96 (c:=Tryd.f96.body.getD .skip) (by rfl) (by kernel_rfl)
end Go.Proofs.YtfjjoohflcchnaaDoor
