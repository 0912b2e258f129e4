/- Of the proof of CounterTimes. Part 16 of 31. (Joined, by program, and written short, of: Alone, Run20, Run20b, Cell24, Check, GRun20b.) -/
import Derived.Test.YtfjjoohflcchnaaDoorCounterTimes09
import Derived.Laws.MakeOwn
import Derived.Deep.OwnRows
set_option linter.unusedSimpArgs false
set_option linter.unusedVariables false
set_option maxHeartbeats 4000000
set_option maxRecDepth 100000
namespace Go.Proofs.YtfjjoohflcchnaaDoor
open Go Go.Lift Go.Conc Go.RowKit
structure Alone (gs:Array Goroutine) (w:World) (T:Trace) (q:Nat→Nat):Prop where
 left:Leavers Tryd.prog T gs q
 past:∃ B,B≤w.heap.size∧Past (fun _=>False) B T
theorem alone_goes {gs:Array Goroutine} {w:World} {T:Trace} {q:Nat→Nat} (A:Alone gs w T q) {a:Goroutine} {Stop:Goroutine→World→Prop} (hg:gs[0]? = some a) (sl:Option (Nat×Nat)) (hG:GoesI Tryd.prog true (DT (ScZ zn) (fun _=>False)) Stop a w) :
 ∃ (N':Nat) (gs':Array Goroutine) (a':Goroutine) (w':World) (sl':Option (Nat×Nat)) (T':Trace) (q':Nat→Nat),runNT Tryd.prog N' (crowd gs w sl) T=(.next (crowd gs' w' sl'),T')∧gs'.size=gs.size∧gs'[0]? = some a'∧Stop a' w'∧Alone gs' w' T' q':=by
 obtain ⟨B,hB,hP⟩:=A.past
 have hno:∀ a,¬ ScZ zn a:=fun a ha=>by have:=ha.2;cases this
 have C0:Ring Tryd.prog (KC (ScZ zn) (fun _=>undef)) (StillC (ScZ zn)) B (fun g=>g=0) (fun _=>none) 0 T gs w q:=ring_begin (fun x hx=>by obtain ⟨a,_,h⟩:=hx;exact absurd h (hno a)) A.left hP (fun a ha=>absurd ha (hno a))
 obtain ⟨N1,gs1,a1,w1,sl1,T1,q1,B1,r1,z1,h1,hs1,⟨hB1,hB1b,hB1c⟩,C1⟩:=hold_goes (Inb:=fun _=>none) (Mem:=fun g=>g=0) (h:=0) (fun w d h=>kc_at w d h) (dh_of_dt (fun i s c e=>by cases e)) hG gs sl T q B hg C0
 obtain ⟨hL,hP'⟩:=ring_end C1 rfl (fun _ _=>rfl)
 exact ⟨N1,gs1,a1,w1,sl1,T1,q1,r1,z1,h1,hs1,hL,B1,by omega,hP'⟩
noncomputable def B20:Code:=Tryd.f60.body.getD .skip
noncomputable def a200:Code:=seq1 B20
noncomputable def a201:Code:=seq1 (seq2 B20)
noncomputable def a202:Code:=seq1 (seq2 (seq2 B20))
noncomputable def a203:Code:=seq1 (seq2 (seq2 (seq2 B20)))
theorem fine200:fineCode Tryd.prog true LT a200:=fineCode_ask callT extT (by kernel_rfl)
theorem fine201:fineCode Tryd.prog true LT a201:=fineCode_ask callT extT (by kernel_rfl)
theorem fine202:fineCode Tryd.prog true LT a202:=fineCode_ask callT extT (by kernel_rfl)
theorem fine203:fineCode Tryd.prog true LT a203:=fineCode_ask callT extT (by kernel_rfl)
theorem info40:(Tryd.prog.info? 31).map (fun i=>(i.zero,i.size,i.bytes))=some (some (.slice none 0 0),1,24):=by kernel_rfl
theorem info42:(Tryd.prog.info? 38).map (fun i=>(i.zero,i.size,i.bytes))=some (some (.agg #[I 0,I 0]),2,16):=by kernel_rfl
theorem mk27 (n:Nat) (hn:n≤8) (w:World) :
 (Instr.makeSlice 27 (.int .i64 (n:Int)) (.int .i64 (n:Int))).run Tryd.prog w=.ok (.slice (some ⟨w.heap.size,0,none⟩) n n) (w.alloc (.cells (madeCells #[.slice none 0 0] n) 31)):=by
 obtain ⟨i,hq,hz,hs,hb⟩:=info_parts info40
 have:=run_make (P:=Tryd.prog) w 27 31 i _ Tryd.underlying27 hq hz .i64 .i64 (n:Int) (n:Int) (by omega) (by omega) (by rw [hb];omega) (by omega)
 rw [hs] at this
 rw [this]
 simp [Value.cells]
theorem mk40 (n:Nat) (hn:n≤64) (w:World) :
 (Instr.makeSlice 31 (.int .i64 (n:Int)) (.int .i64 (n:Int))).run Tryd.prog w=.ok (.slice (some ⟨w.heap.size,0,none⟩) n n) (w.alloc (.cells (madeCells #[I 0,I 0] (n*2)) 38)):=by
 obtain ⟨i,hq,hz,hs,hb⟩:=info_parts info42
 have:=run_make (P:=Tryd.prog) w 31 38 i _ Tryd.underlying31 hq hz .i64 .i64 (n:Int) (n:Int) (by omega) (by omega) (by rw [hb];omega) (by omega)
 rw [hs] at this
 rw [this]
 simp [Value.cells]
theorem a201_wp (v:World) (wb p2 n:Nat) (p:Option Addr) (cap:Nat) (F:Value) (hn:n≤8) :
 a201.wp Tryd.prog (fun e a w'=>e=.normal∧a={ tmps:=#[Pt wb 0,.slice p n cap,F,undef,undef,Pt p2 0,.slice none 0 0,Pt (v.heap.size+1) 0,undef,undef,undef,.slice p n cap,I n,.slice (some ⟨v.heap.size,0,none⟩) n n]++Array.replicate 25 undef,defers:=[] }∧w'.heap=(v.heap.push (.cells (madeCells #[.slice none 0 0] n) 31)).push (.cells #[.slice (some ⟨v.heap.size,0,none⟩) n n] 27)∧w'.os=v.os∧w'.output=v.output)
  { tmps:=#[Pt wb 0,.slice p n cap,F,undef,undef,Pt p2 0,.slice none 0 0]++Array.replicate 32 undef,defers:=[] } v:=by
 have hmk:=mk27 n hn
 show Code.wp Tryd.prog (seq1 (seq2 (Tryd.f60.body.getD .skip))) _ _ _
 unfold Tryd.f60 seq1 seq2
 simp only [Option.getD_some,Array.replicate_succ,Array.replicate_zero,List.push_toArray,List.append_toArray,List.nil_append,List.cons_append]
 go_wp2_with fail
 exact ⟨rfl,rfl,rfl⟩
theorem info80:(Tryd.prog.info? 143).map (fun i=>(i.zero,i.size,i.bytes))=some (some .nilFunc,1,8):=by kernel_rfl
theorem mk78 (n:Nat) (hn:n≤8) (w:World) :
 (Instr.makeSlice 141 (.int .i64 (n:Int)) (.int .i64 (n:Int))).run Tryd.prog w=.ok (.slice (some ⟨w.heap.size,0,none⟩) n n) (w.alloc (.cells (madeCells #[.nilFunc] n) 143)):=by
 obtain ⟨i,hq,hz,hs,hb⟩:=info_parts info80
 have:=run_make (P:=Tryd.prog) w 141 143 i _ Tryd.underlying141 hq hz .i64 .i64 (n:Int) (n:Int) (by omega) (by omega) (by rw [hb];omega) (by omega)
 rw [hs] at this
 rw [this]
 simp [Value.cells]
theorem a200_wp (v:World) (wb n:Nat) (p:Option Addr) (cap:Nat) (fx:Nat) :
 a200.wp Tryd.prog (fun e a w'=>e=.normal∧a={ tmps:=#[Pt wb 0,.slice p n cap,.func (.func 0) #[] #[Pt fx 0],undef,undef,Pt v.heap.size 0,.slice none 0 0]++Array.replicate 32 undef,defers:=[] }∧w'.heap=v.heap.push (.cells #[.func (.func 0) #[] #[Pt fx 0]] 101)∧w'.os=v.os∧w'.output=v.output)
  { tmps:=#[Pt wb 0,.slice p n cap,.func (.func 0) #[] #[Pt fx 0]]++Array.replicate 36 undef,defers:=[] } v:=by
 show Code.wp Tryd.prog (seq1 (Tryd.f60.body.getD .skip)) _ _ _
 unfold Tryd.f60 seq1
 simp only [Option.getD_some,Array.replicate_succ,Array.replicate_zero,List.push_toArray,List.append_toArray,List.nil_append,List.cons_append]
 go_wp2_with fail
 exact ⟨rfl,rfl,rfl⟩
theorem a202_wp (v:World) (wb p2 p3 rr n:Nat) (p:Option Addr) (cap:Nat) (F:Value) (hn:n≤8) :
 a202.wp Tryd.prog (fun e a w'=>e=.normal∧a={ tmps:=#[Pt wb 0,.slice p n cap,F,undef,undef,Pt p2 0,.slice none 0 0,Pt p3 0,.slice (some ⟨v.heap.size,0,none⟩) n n,undef,undef,.slice p n cap,I n,.slice (some ⟨rr,0,none⟩) n n,.slice p n cap,I n,.slice (some ⟨v.heap.size,0,none⟩) n n]++Array.replicate 22 undef,defers:=[] }∧w'.heap=v.heap.push (.cells (madeCells #[.nilFunc] n) 143)∧w'.os=v.os∧w'.output=v.output)
  { tmps:=#[Pt wb 0,.slice p n cap,F,undef,undef,Pt p2 0,.slice none 0 0,Pt p3 0,undef,undef,undef,.slice p n cap,I n,.slice (some ⟨rr,0,none⟩) n n]++Array.replicate 25 undef,defers:=[] } v:=by
 have hmk:=mk78 n hn
 show Code.wp Tryd.prog (seq1 (seq2 (seq2 (Tryd.f60.body.getD .skip)))) _ _ _
 unfold Tryd.f60 seq1 seq2
 simp only [Option.getD_some,Array.replicate_succ,Array.replicate_zero,List.push_toArray,List.append_toArray,List.nil_append,List.cons_append]
 go_wp2_with fail
 exact ⟨rfl,rfl,rfl⟩
structure Laid (v:World) (n p2 p3 rr bb:Nat) (pc:Nat→Option Addr) (ln cp:Nat→Nat) (k:Nat) (u:World):Prop where
 size:u.heap.size=v.heap.size+3*k
 rrow:u.rowIs rr 31 n (fun j=>if j<k then .slice (some ⟨v.heap.size+3*j+2,0,none⟩) (ln j) (ln j) else .slice none 0 0)
 brow:u.rowIs bb 143 n (fun j=>if j<k then .func (.func 93) #[] #[Pt (v.heap.size+3*j+1) 0,Pt p2 0,Pt p3 0,Pt (v.heap.size+3*j) 0] else .nilFunc)
 blk:∀ j,j<k→u.heap[v.heap.size+3*j]? = some (.cells #[I j] 3)∧u.heap[v.heap.size+3*j+1]? = some (.cells #[.slice (pc j) (ln j) (cp j)] 33)∧u.heap[v.heap.size+3*j+2]? = some (.cells (madeCells #[I 0,I 0] (ln j*2)) 38)
 old:∀ b,b<v.heap.size→b≠rr→b≠bb→u.heap[b]? = v.heap[b]?
 os:u.os=v.os
 out:u.output=v.output
theorem laid_next {v wr W U:World} {n p2 p3 rr bb k:Nat} {pc:Nat→Option Addr} {ln cp:Nat→Nat} (h:Laid v n p2 p3 rr bb pc ln cp k wr) (hk:k<n) (hne:rr≠bb) (hW:W.heap=(wr.heap.push (.cells #[I k] 3)).push (.cells #[.slice (pc k) (ln k) (cp k)] 33)) (ho:W.os=wr.os) (hu:W.output=wr.output)
 (hU:U.heap=((((W.alloc (.cells (madeCells #[I 0,I 0] (ln k*2)) 38)).setCell ⟨rr,k,none⟩ (.slice (some ⟨W.heap.size,0,none⟩) (ln k) (ln k)))).setCell ⟨bb,k,none⟩ (.func (.func 93) #[] #[Pt (wr.heap.size+1) 0,Pt p2 0,Pt p3 0,Pt wr.heap.size 0])).heap) (hUo:U.os=W.os) (hUu:U.output=W.output):Laid v n p2 p3 rr bb pc ln cp (k+1) U:=by
 have hs:=h.size
 have lr:=h.rrow.lt
 have lb:=h.brow.lt
 have hWs:W.heap.size=wr.heap.size+2:=by rw [hW];simp
 have hold:∀ b,b<wr.heap.size→W.heap[b]? = wr.heap[b]?:=fun b hb=>by rw [hW,Array.getElem?_push,if_neg (by simp;omega),Array.getElem?_push,if_neg (by omega)]
 have hA:∀ b,b<W.heap.size→(W.alloc (.cells (madeCells #[I 0,I 0] (ln k*2)) 38)).heap[b]? = W.heap[b]?:=fun b hb=>by
  show (W.heap.push _)[b]? = _
  rw [Array.getElem?_push,if_neg (by omega)]
 have hUb:∀ b,b≠rr→b≠bb→U.heap[b]? = (W.alloc (.cells (madeCells #[I 0,I 0] (ln k*2)) 38)).heap[b]?:=fun b h1 h2=>by rw [hU,Below.heap_setCell _ _ _ _ h2,Below.heap_setCell _ _ _ _ h1]
 refine ⟨?_,?_,?_,fun j hj=>?_,fun b hb h1 h2=>?_,hUo.trans (ho.trans h.os),hUu.trans (hu.trans h.out)⟩
 ·rw [hU]
  show ((((W.alloc (.cells (madeCells #[I 0,I 0] (ln k*2)) 38)).setCell _ _).setCell _ _).heap).size=_
  simp only [World.setCell,Array.size_modify]
  show (W.heap.push _).size=_
  rw [Array.size_push];omega
 ·have r1:=((h.rrow.of_block (w':=(W.alloc (.cells (madeCells #[I 0,I 0] (ln k*2)) 38))) (by rw [hA rr (by omega),hold rr lr])).set k (.slice (some ⟨W.heap.size,0,none⟩) (ln k) (ln k))).setOther (a:=⟨bb,k,none⟩) hne (.func (.func 93) #[] #[Pt (wr.heap.size+1) 0,Pt p2 0,Pt p3 0,Pt wr.heap.size 0])
  refine (r1.of_block (by rw [hU])).congr fun i hi=>?_
  by_cases e:i=k
  ·subst e
   rw [if_pos rfl,if_pos (by omega),show v.heap.size+3*i+2=W.heap.size by omega]
  ·rw [if_neg e]
   by_cases hlt:i<k
   ·rw [if_pos hlt,if_pos (by omega)]
   ·rw [if_neg hlt,if_neg (by omega)]
 ·have r1:=((h.brow.of_block (w':=(W.alloc (.cells (madeCells #[I 0,I 0] (ln k*2)) 38))) (by rw [hA bb (by omega),hold bb lb])).setOther (a:=⟨rr,k,none⟩) (Ne.symm hne) (.slice (some ⟨W.heap.size,0,none⟩) (ln k) (ln k))).set k (.func (.func 93) #[] #[Pt (wr.heap.size+1) 0,Pt p2 0,Pt p3 0,Pt wr.heap.size 0])
  refine (r1.of_block (by rw [hU])).congr fun i hi=>?_
  by_cases e:i=k
  ·subst e
   rw [if_pos rfl,if_pos (by omega),hs]
  ·rw [if_neg e]
   by_cases hlt:i<k
   ·rw [if_pos hlt,if_pos (by omega)]
   ·rw [if_neg hlt,if_neg (by omega)]
 ·by_cases e:j=k
  ·subst e
   rw [←hs]
   refine ⟨?_,?_,?_⟩
   ·rw [hUb _ (by omega) (by omega),hA _ (by omega),hW,Array.getElem?_push,if_neg (by simp),Array.getElem?_push,if_pos rfl]
   ·rw [hUb _ (by omega) (by omega),hA _ (by omega),hW,Array.getElem?_push,if_pos (by simp)]
   ·rw [hUb _ (by omega) (by omega)]
    show (W.heap.push _)[wr.heap.size+2]? = _
    rw [←hWs]
    exact Array.getElem?_push_size
  ·have hj':j<k:=by omega
   obtain ⟨q1,q2,q3⟩:=h.blk j hj'
   have hne1:∀ b x,wr.heap[b]? = some x→(∃ c,x=.cells c 3 (0,0))∨(∃ c,x=.cells c 33 (0,0))∨(∃ c,x=.cells c 38 (0,0))→b≠rr∧b≠bb:=fun b x hb hx=>by
    obtain ⟨c1,r1,_⟩:=h.rrow
    obtain ⟨c2,r2,_⟩:=h.brow
    refine ⟨fun e=>?_,fun e=>?_⟩<;>subst e
    ·rw [r1] at hb;cases hb;rcases hx with ⟨c,hx⟩|⟨c,hx⟩|⟨c,hx⟩<;>cases hx
    ·rw [r2] at hb;cases hb;rcases hx with ⟨c,hx⟩|⟨c,hx⟩|⟨c,hx⟩<;>cases hx
   have n1:=hne1 _ _ q1 (.inl ⟨_,rfl⟩)
   have n2:=hne1 _ _ q2 (.inr (.inl ⟨_,rfl⟩))
   have n3:=hne1 _ _ q3 (.inr (.inr ⟨_,rfl⟩))
   refine ⟨?_,?_,?_⟩
   ·rw [hUb _ n1.1 n1.2,hA _ (by omega),hold _ (by omega)];exact q1
   ·rw [hUb _ n2.1 n2.2,hA _ (by omega),hold _ (by omega)];exact q2
   ·rw [hUb _ n3.1 n3.2,hA _ (by omega),hold _ (by omega)];exact q3
 ·rw [hUb b h1 h2,hA b (by omega),hold b (by omega)]
  exact h.old b hb h1 h2
theorem a203_wp (v:World) (wb p2 p3 rr bb sb so n:Nat) (cap:Nat) (F:Value) (hn:n≤8) (pc:Nat→Option Addr) (ln cp:Nat→Nat) (hln:∀ k,k<n→ln k≤64) (hs:∀ k,k<n→v.cell? ⟨sb,so+k,none⟩=some (.slice (pc k) (ln k) (cp k)))
 (hrr:v.rowIs rr 31 n (fun _=>.slice none 0 0)) (hbb:v.rowIs bb 143 n (fun _=>.nilFunc)) (h3:v.cell? ⟨p3,0,none⟩=some (.slice (some ⟨rr,0,none⟩) n n)) (hne:rr≠bb∧rr≠sb∧bb≠sb∧p3≠rr∧p3≠bb) :
 a203.wp Tryd.prog (fun e a w'=>e=.normal∧(∃ u:Nat→Value,a={ tmps:=#[Pt wb 0,.slice (some ⟨sb,so,none⟩) n cap,F,undef,undef,Pt p2 0,.slice none 0 0,Pt p3 0,.slice (some ⟨bb,0,none⟩) n n,u 9,u 10,u 11,u 12,u 13,u 14,u 15,u 16,u 17,u 18,u 19,u 20,u 21,u 22,u 23,u 24,u 25,u 26,u 27,u 28,u 29,u 30,u 31,u 32,u 33,u 34,u 35,u 36,u 37,u 38],defers:=[] })∧Laid v n p2 p3 rr bb pc ln cp n w')
  { tmps:=#[Pt wb 0,.slice (some ⟨sb,so,none⟩) n cap,F,undef,undef,Pt p2 0,.slice none 0 0,Pt p3 0,.slice (some ⟨bb,0,none⟩) n n,undef,undef,.slice (some ⟨sb,so,none⟩) n cap,I n,.slice (some ⟨rr,0,none⟩) n n,.slice (some ⟨sb,so,none⟩) n cap,I n,.slice (some ⟨bb,0,none⟩) n n]++Array.replicate 22 undef,defers:=[] } v:=by
 show Code.wp Tryd.prog (seq1 (seq2 (seq2 (seq2 (Tryd.f60.body.getD .skip))))) _ _ _
 unfold Tryd.f60 seq1 seq2
 simp only [Option.getD_some,Array.replicate_succ,Array.replicate_zero,List.push_toArray,List.append_toArray,List.nil_append,List.cons_append]
 have HS:Hid (∀ k,k<n→v.cell? ⟨sb,so+k,none⟩=some (.slice (pc k) (ln k) (cp k))):=⟨hs⟩
 have HLn:Hid (∀ k,k<n→ln k≤64):=⟨hln⟩
 have H0:Hid (Laid v n p2 p3 rr bb pc ln cp 0 v):=⟨⟨rfl,hrr.congr fun i _=>by simp,hbb.congr fun i _=>by simp,fun j hj=>by omega,fun _ _ _ _=>rfl,rfl,rfl⟩⟩
 have H3:Hid (v.cell? ⟨p3,0,none⟩=some (.slice (some ⟨rr,0,none⟩) n n)):=⟨h3⟩
 clear hs hln hrr hbb h3
 go_wp2_with fail
 go_loopw [19] (fun i u=>∃ k:Nat,k≤n∧i=.int .i64 k∧Laid v n p2 p3 rr bb pc ln cp k u) (fun i _=>n - (intOf i).toNat)
 case atStart=>exact ⟨0,Nat.zero_le _,rfl,H0.out⟩
 case round =>
  obtain ⟨k,hk,rfl,hL⟩:=hrel
  have HL:Hid (Laid v n p2 p3 rr bb pc ln cp k wr):=⟨hL⟩
  by_cases hlt:k<n
  ·have hsk:wr.cell? ⟨sb,so+k,none⟩=some (.slice (pc k) (ln k) (cp k)):=by
    have:=HS.out k hlt
    rw [World.cell?_of_block (hL.old sb (World.block_lt_of_cell? _ _ this) (Ne.symm hne.2.1) (Ne.symm hne.2.2.1))]
    exact this
   have h3k:wr.cell? ⟨p3,0,none⟩=some (.slice (some ⟨rr,0,none⟩) n n):=by
    rw [World.cell?_of_block (hL.old p3 (World.block_lt_of_cell? _ _ H3.out) hne.2.2.2.1 hne.2.2.2.2)]
    exact H3.out
   have hmk:=mk40 (ln k) (HLn.out k hlt)
   have hlt':(k:Int)<(n:Int):=by omega
   have r0:wr.cell? ⟨rr,k,none⟩=some (.slice none 0 0):=by rw [hL.rrow.cell hlt];simp
   have r1:wr.frozen? ⟨rr,k,none⟩=false:=hL.rrow.frozen k
   have b0:wr.cell? ⟨bb,k,none⟩=some .nilFunc:=by rw [hL.brow.cell hlt];simp
   have b1:wr.frozen? ⟨bb,k,none⟩=false:=hL.brow.frozen k
   have lr:=hL.rrow.lt
   have lb:=hL.brow.lt
   have l3:p3<wr.heap.size:=World.block_lt_of_cell? _ _ h3k
   have HW:Hid ((fun W:World=>W.heap=(wr.heap.push (.cells #[I k] 3)).push (.cells #[.slice (pc k) (ln k) (cp k)] 33)∧W.os=wr.os∧W.output=wr.output∧W.cell? ⟨p3,0,none⟩=some (.slice (some ⟨rr,0,none⟩) n n)∧W.cell? ⟨wr.heap.size,0,none⟩=some (I k)∧W.cell? ⟨wr.heap.size+1,0,none⟩=some (.slice (pc k) (ln k) (cp k))∧W.cell? ⟨rr,k,none⟩=some (.slice none 0 0)∧W.frozen? ⟨rr,k,none⟩=false∧W.cell? ⟨bb,k,none⟩=some .nilFunc∧W.frozen? ⟨bb,k,none⟩=false∧W.heap.size=wr.heap.size+2) ((wr.alloc (.cells #[I k] 3)).alloc (.cells #[.slice (pc k) (ln k) (cp k)] 33))):=⟨by
    have ho:∀ b,b<wr.heap.size→((wr.alloc (.cells #[I k] 3)).alloc (.cells #[.slice (pc k) (ln k) (cp k)] 33)).heap[b]? = wr.heap[b]?:=fun b hb=>by
     show ((wr.heap.push _).push _)[b]? = _
     rw [Array.getElem?_push,if_neg (by simp;omega),Array.getElem?_push,if_neg (by omega)]
    have hN:((wr.alloc (.cells #[I k] 3)).alloc (.cells #[.slice (pc k) (ln k) (cp k)] 33)).heap[wr.heap.size]? = some (.cells #[I k] 3):=by
     show ((wr.heap.push _).push _)[wr.heap.size]? = _
     rw [Array.getElem?_push,if_neg (by simp),Array.getElem?_push,if_pos rfl]
    have hN1:((wr.alloc (.cells #[I k] 3)).alloc (.cells #[.slice (pc k) (ln k) (cp k)] 33)).heap[wr.heap.size+1]? = some (.cells #[.slice (pc k) (ln k) (cp k)] 33):=by
     show ((wr.heap.push _).push _)[wr.heap.size+1]? = _
     rw [Array.getElem?_push,if_pos (by simp)]
    refine ⟨rfl,rfl,rfl,?_,by unfold World.cell?;rw [hN];rfl,by unfold World.cell?;rw [hN1];rfl,?_,?_,?_,?_,by show ((wr.heap.push _).push _).size=_;simp⟩
    ·rw [World.cell?_of_block (ho p3 l3)];exact h3k
    ·rw [World.cell?_of_block (ho rr lr)];exact r0
    ·rw [World.frozen?_of_block (ho rr lr)];exact r1
    ·rw [World.cell?_of_block (ho bb lb)];exact b0
    ·rw [World.frozen?_of_block (ho bb lb)];exact b1⟩
   have e9:rr≠bb:=hne.1
   have e10:bb≠rr:=fun e=>hne.1 e.symm
   have Hl:Hid (rr<wr.heap.size∧bb<wr.heap.size∧p3<wr.heap.size):=⟨⟨lr,lb,l3⟩⟩
   clear hL lr lb l3 r0 r1 b0 b1 h3k
   go_wp2_with fail
   refine (show ∀ W:World,(W.heap=(wr.heap.push (.cells #[I k] 3)).push (.cells #[.slice (pc k) (ln k) (cp k)] 33)∧W.os=wr.os∧W.output=wr.output∧W.cell? ⟨p3,0,none⟩=some (.slice (some ⟨rr,0,none⟩) n n)∧W.cell? ⟨wr.heap.size,0,none⟩=some (I k)∧W.cell? ⟨wr.heap.size+1,0,none⟩=some (.slice (pc k) (ln k) (cp k))∧W.cell? ⟨rr,k,none⟩=some (.slice none 0 0)∧W.frozen? ⟨rr,k,none⟩=false∧W.cell? ⟨bb,k,none⟩=some .nilFunc∧W.frozen? ⟨bb,k,none⟩=false∧W.heap.size=wr.heap.size+2)→Code.wp Tryd.prog _ _ _ W from fun W hW=>?_) _ HW.out
   clear hsk
   obtain ⟨hWh,hWo,hWu,g3,g0,g1,gr,gf,gb,gbf,hWs⟩:=hW
   have HH:Hid (W.heap=(wr.heap.push (.cells #[I k] 3)).push (.cells #[.slice (pc k) (ln k) (cp k)] 33)∧W.os=wr.os∧W.output=wr.output∧W.heap.size=wr.heap.size+2):=⟨⟨hWh,hWo,hWu,hWs⟩⟩
   have x1:p3≠W.heap.size:=by have:=Hl.out;omega
   have x2:rr≠W.heap.size:=by have:=Hl.out;omega
   have x3:bb≠W.heap.size:=by have:=Hl.out;omega
   have x4:wr.heap.size≠W.heap.size:=by omega
   have x5:wr.heap.size+1≠W.heap.size:=by omega
   have hA:∀ b,b<W.heap.size→(W.alloc (.cells (madeCells #[I 0,I 0] (ln k*2)) 38)).heap[b]? = W.heap[b]?:=fun b hb=>by
    show (W.heap.push _)[b]? = _
    rw [Array.getElem?_push,if_neg (by omega)]
   have lA:p3<W.heap.size∧rr<W.heap.size∧bb<W.heap.size:=by have:=Hl.out;omega
   have a3:(W.alloc (.cells (madeCells #[I 0,I 0] (ln k*2)) 38)).cell? ⟨p3,0,none⟩=some (.slice (some ⟨rr,0,none⟩) n n):=by rw [World.cell?_of_block (hA p3 lA.1)];exact g3
   have a0:(W.alloc (.cells (madeCells #[I 0,I 0] (ln k*2)) 38)).cell? ⟨wr.heap.size,0,none⟩=some (I k):=by rw [World.cell?_of_block (hA wr.heap.size (by omega))];exact g0
   have a1:(W.alloc (.cells (madeCells #[I 0,I 0] (ln k*2)) 38)).cell? ⟨wr.heap.size+1,0,none⟩=some (.slice (pc k) (ln k) (cp k)):=by rw [World.cell?_of_block (hA (wr.heap.size+1) (by omega))];exact g1
   have ar:(W.alloc (.cells (madeCells #[I 0,I 0] (ln k*2)) 38)).cell? ⟨rr,k,none⟩=some (.slice none 0 0):=by rw [World.cell?_of_block (hA rr lA.2.1)];exact gr
   have af:(W.alloc (.cells (madeCells #[I 0,I 0] (ln k*2)) 38)).frozen? ⟨rr,k,none⟩=false:=by rw [World.frozen?_of_block (hA rr lA.2.1)];exact gf
   have hZ:∀ b,b<W.heap.size→b≠rr→((W.alloc (.cells (madeCells #[I 0,I 0] (ln k*2)) 38)).setCell ⟨rr,k,none⟩ (.slice (some ⟨W.heap.size,0,none⟩) (ln k) (ln k))).heap[b]? = W.heap[b]?:=fun b hb hb2=>by rw [Below.heap_setCell _ _ _ _ hb2,hA b hb]
   have z0:((W.alloc (.cells (madeCells #[I 0,I 0] (ln k*2)) 38)).setCell ⟨rr,k,none⟩ (.slice (some ⟨W.heap.size,0,none⟩) (ln k) (ln k))).cell? ⟨wr.heap.size,0,none⟩=some (I k):=by rw [World.cell?_of_block (hZ wr.heap.size (by omega) (by have:=Hl.out;omega))];exact g0
   have zb:((W.alloc (.cells (madeCells #[I 0,I 0] (ln k*2)) 38)).setCell ⟨rr,k,none⟩ (.slice (some ⟨W.heap.size,0,none⟩) (ln k) (ln k))).cell? ⟨bb,k,none⟩=some .nilFunc:=by rw [World.cell?_of_block (hZ bb lA.2.2 e10)];exact gb
   have zf:((W.alloc (.cells (madeCells #[I 0,I 0] (ln k*2)) 38)).setCell ⟨rr,k,none⟩ (.slice (some ⟨W.heap.size,0,none⟩) (ln k) (ln k))).frozen? ⟨bb,k,none⟩=false:=by rw [World.frozen?_of_block (hZ bb lA.2.2 e10)];exact gbf
   have hst:(store ⟨bb,k,none⟩ (.func (.func 93) #[] #[Pt (wr.heap.size+1) 0,Pt p2 0,Pt p3 0,Pt wr.heap.size 0])).run Tryd.prog ((W.alloc (.cells (madeCells #[I 0,I 0] (ln k*2)) 38)).setCell ⟨rr,k,none⟩ (.slice (some ⟨W.heap.size,0,none⟩) (ln k) (ln k))).drew=.ok () (((W.alloc (.cells (madeCells #[I 0,I 0] (ln k*2)) 38)).setCell ⟨rr,k,none⟩ (.slice (some ⟨W.heap.size,0,none⟩) (ln k) (ln k))).setCell ⟨bb,k,none⟩ (.func (.func 93) #[] #[Pt (wr.heap.size+1) 0,Pt p2 0,Pt p3 0,Pt wr.heap.size 0])).drew:=by
    have zb':((W.alloc (.cells (madeCells #[I 0,I 0] (ln k*2)) 38)).setCell ⟨rr,k,none⟩ (.slice (some ⟨W.heap.size,0,none⟩) (ln k) (ln k))).drew.cell? ⟨bb,k,none⟩=some .nilFunc:=zb
    have zf':((W.alloc (.cells (madeCells #[I 0,I 0] (ln k*2)) 38)).setCell ⟨rr,k,none⟩ (.slice (some ⟨W.heap.size,0,none⟩) (ln k) (ln k))).drew.frozen? ⟨bb,k,none⟩=false:=zf
    show Sem.run Tryd.prog (Sem.store .plain _ _ (Sem.pure ())) _=_
    simp only [Sem.run,zb',zf',Bool.false_eq_true,if_false]
    rfl
   clear hWh hWo hWu hWs hA lA hZ
   go_region
   go_wp2_with fail
   go_roundw
   case rel =>
    refine ⟨k+1,by omega,by go_num,?_⟩
    exact laid_next HL.out hlt e9 HH.out.1 HH.out.2.1 HH.out.2.2.1 rfl rfl rfl
   case measure=>simp [intOf];omega
  ·have hkk:k=n:=by omega
   subst hkk
   clear hL
   go_wp2_with fail
   exact ⟨⟨fun m=>match m with|9=>u9|10=>u10|11=>.slice (some ⟨sb,so,none⟩) k cap|12=>I k|13=>.slice (some ⟨rr,0,none⟩) k k|14=>.slice (some ⟨sb,so,none⟩) k cap|15=>I k|16=>.slice (some ⟨bb,0,none⟩) k k|17=>.slice (some ⟨sb,so,none⟩) k cap|18=>I k|19=>I k|20=>.bool false|21=>u21|22=>u22|23=>u23|24=>u24|25=>u25|26=>u26|27=>u27|28=>u28|29=>u29|30=>u30|31=>u31|32=>u32|33=>u33|34=>u34|_=>undef,by simp⟩,HL.out⟩
structure Set20 (v:World) (xb n:Nat) (pc:Nat→Option Addr) (ln cp:Nat→Nat) (u:World):Prop where
 size:u.heap.size=v.heap.size+4+3*n
 p2:u.heap[v.heap.size]? = some (.cells #[.func (.func 0) #[] #[Pt xb 0]] 101)
 rrow:u.rowIs (v.heap.size+1) 31 n (fun j=>.slice (some ⟨v.heap.size+4+3*j+2,0,none⟩) (ln j) (ln j))
 p3:u.heap[v.heap.size+2]? = some (.cells #[.slice (some ⟨v.heap.size+1,0,none⟩) n n] 27)
 brow:u.rowIs (v.heap.size+3) 143 n (fun j=>.func (.func 93) #[] #[Pt (v.heap.size+4+3*j+1) 0,Pt v.heap.size 0,Pt (v.heap.size+2) 0,Pt (v.heap.size+4+3*j) 0])
 blk:∀ j,j<n→u.heap[v.heap.size+4+3*j]? = some (.cells #[I j] 3)∧u.heap[v.heap.size+4+3*j+1]? = some (.cells #[.slice (pc j) (ln j) (cp j)] 33)∧u.heap[v.heap.size+4+3*j+2]? = some (.cells (madeCells #[I 0,I 0] (ln j*2)) 38)
 old:∀ b,b<v.heap.size→u.heap[b]? = v.heap[b]?
 os:u.os=v.os
 out:u.output=v.output
noncomputable def R20:Code:=seq2 (seq2 (seq2 (seq2 B20)))
theorem eB20:B20=.seq a200 (.seq a201 (.seq a202 (.seq a203 R20))):=by kernel_rfl
theorem run20_in {Ch:Nat→Prop} {Stop:Goroutine→World→Prop} {main:Bool} {v w:World} (wb xb sb so n cap:Nat) (hn8:n≤8) (pc:Nat→Option Addr) (ln cp:Nat→Nat) (hln:∀ k,k<n→ln k≤64) (hs:∀ k,k<n→v.cell? ⟨sb,so+k,none⟩=some (.slice (pc k) (ln k) (cp k))) (cs:List Frame) {bc:Frame} {ac:Act} {ops:Array Oper} {q:Nat} {rest:List Nat} {oc:Oper} {k:List Item} (hoc:ops[q]? = some oc)
 (hsb:sb<v.heap.size) (hvw:Rel zn v w) (hn:NoRow Ch v)
 (hk:∀ v' w' (bd:Frame) (ad:Act) (od:Array Oper) (qd:Nat) (rd:List Nat) (oe:Oper) (kd:List Item),Rel zn v' w'→NoRow Ch v'→Set20 v xb n pc ln cp v'→od[qd]? = some oe →
   (∀ (Ch:Nat→Prop) (Stop:Goroutine→World→Prop) (w:World) (x:Value),w.cell? ⟨v.heap.size+2,0,none⟩=some x→(∀ d,GoesI Tryd.prog main (DT (ScZ zn) Ch) Stop (G (bc.at (ac.put oc.dst x) (.inRegion ops rest :: k)) cs) (w.at d))→GoesI Tryd.prog main (DT (ScZ zn) Ch) Stop (G (bd.at (ad.put oe.dst (.tuple #[])) (.inRegion od rd :: kd)) (bc.at ac (.inRegion ops (q :: rest) :: k) :: cs)) w) →
   GoesI Tryd.prog main (DT (ScZ zn) Ch) Stop (G ((base 95).at { tmps:=#[Pt wb 0,.slice (some ⟨v.heap.size+3,0,none⟩) n n]++Array.replicate 60 undef,defers:=[] } [.code B35]) (bd.at ad (.inRegion od (qd :: rd) :: kd) :: bc.at ac (.inRegion ops (q :: rest) :: k) :: cs)) w') :
 GoesI Tryd.prog main (DT (ScZ zn) Ch) Stop (G ((base 60).at { tmps:=#[Pt wb 0,.slice (some ⟨sb,so,none⟩) n cap,.func (.func 0) #[] #[Pt xb 0]]++Array.replicate 36 undef,defers:=[] } [.code B20]) (bc.at ac (.inRegion ops (q :: rest) :: k) :: cs)) w:=by
 rw [eB20]
 refine goesI_seq (dt_idle _ _) ?_
 refine goesI_plain (z:=zn) (wr:=true) (L:=LT) (I:=NoRow Ch) hE fineT noRow_keeps (fun v v' w w' es hi hr ho he=>dt_of_z v v' w w' es hi hr ho he) hvw fine200 rfl (by simp [base]) hn
  (Q:=fun a w'=>a={ tmps:=#[Pt wb 0,.slice (some ⟨sb,so,none⟩) n cap,.func (.func 0) #[] #[Pt xb 0],undef,undef,Pt v.heap.size 0,.slice none 0 0]++Array.replicate 32 undef,defers:=[] }∧w'.heap=v.heap.push (.cells #[.func (.func 0) #[] #[Pt xb 0]] 101)∧w'.os=v.os∧w'.output=v.output) (fun τ=>a200_wp (onTape v τ 0) wb n (some ⟨sb,so,none⟩) cap xb) ?_
 rintro a1 v1 w1 ⟨rfl,e1,o1,u1⟩ hr1 hn1 -
 have s1:v1.heap.size=v.heap.size+1:=by rw [e1];simp
 refine goesI_seq (dt_idle _ _) ?_
 refine goesI_plain (z:=zn) (wr:=true) (L:=LT) (I:=NoRow Ch) hE fineT noRow_keeps (fun v v' w w' es hi hr ho he=>dt_of_z v v' w w' es hi hr ho he) hr1 fine201 rfl (by simp [base]) hn1
  (Q:=fun a w'=>a={ tmps:=#[Pt wb 0,.slice (some ⟨sb,so,none⟩) n cap,.func (.func 0) #[] #[Pt xb 0],undef,undef,Pt v.heap.size 0,.slice none 0 0,Pt (v1.heap.size+1) 0,undef,undef,undef,.slice (some ⟨sb,so,none⟩) n cap,I n,.slice (some ⟨v1.heap.size,0,none⟩) n n]++Array.replicate 25 undef,defers:=[] }∧w'.heap=(v1.heap.push (.cells (madeCells #[.slice none 0 0] n) 31)).push (.cells #[.slice (some ⟨v1.heap.size,0,none⟩) n n] 27)∧w'.os=v1.os∧w'.output=v1.output) (fun τ=>a201_wp (onTape v1 τ 0) wb v.heap.size n (some ⟨sb,so,none⟩) cap _ hn8) ?_
 rintro a2 v2 w2 ⟨rfl,e2,o2,u2⟩ hr2 hn2 -
 have s2:v2.heap.size=v.heap.size+3:=by rw [e2];simp;omega
 refine goesI_seq (dt_idle _ _) ?_
 refine goesI_plain (z:=zn) (wr:=true) (L:=LT) (I:=NoRow Ch) hE fineT noRow_keeps (fun v v' w w' es hi hr ho he=>dt_of_z v v' w w' es hi hr ho he) hr2 fine202 rfl (by simp [base]) hn2
  (Q:=fun a w'=>a={ tmps:=#[Pt wb 0,.slice (some ⟨sb,so,none⟩) n cap,.func (.func 0) #[] #[Pt xb 0],undef,undef,Pt v.heap.size 0,.slice none 0 0,Pt (v1.heap.size+1) 0,.slice (some ⟨v2.heap.size,0,none⟩) n n,undef,undef,.slice (some ⟨sb,so,none⟩) n cap,I n,.slice (some ⟨v1.heap.size,0,none⟩) n n,.slice (some ⟨sb,so,none⟩) n cap,I n,.slice (some ⟨v2.heap.size,0,none⟩) n n]++Array.replicate 22 undef,defers:=[] }∧w'.heap=v2.heap.push (.cells (madeCells #[.nilFunc] n) 143)∧w'.os=v2.os∧w'.output=v2.output) (fun τ=>a202_wp (onTape v2 τ 0) wb v.heap.size (v1.heap.size+1) v1.heap.size n (some ⟨sb,so,none⟩) cap _ hn8) ?_
 rintro a3 v3 w3 ⟨rfl,e3,o3,u3⟩ hr3 hn3 -
 have s3:v3.heap.size=v.heap.size+4:=by rw [e3];simp;omega
 have k1:∀ b,b<v.heap.size→v1.heap[b]? = v.heap[b]?:=fun b hb=>by rw [e1,Array.getElem?_push,if_neg (by omega)]
 have k2:∀ b,b<v.heap.size+1→v2.heap[b]? = v1.heap[b]?:=fun b hb=>by rw [e2,Array.getElem?_push,if_neg (by simp;omega),Array.getElem?_push,if_neg (by omega)]
 have k3:∀ b,b<v.heap.size+3→v3.heap[b]? = v2.heap[b]?:=fun b hb=>by rw [e3,Array.getElem?_push,if_neg (by omega)]
 have f0:v3.heap[v.heap.size]? = some (.cells #[.func (.func 0) #[] #[Pt xb 0]] 101):=by rw [k3 _ (by omega),k2 _ (by omega),e1];exact Array.getElem?_push_size
 have f1:v3.heap[v.heap.size+1]? = some (.cells (madeCells #[.slice none 0 0] n) 31):=by rw [k3 _ (by omega),e2,Array.getElem?_push,if_neg (by simp;omega),Array.getElem?_push,if_pos (by omega)]
 have f2:v3.heap[v.heap.size+2]? = some (.cells #[.slice (some ⟨v.heap.size+1,0,none⟩) n n] 27):=by rw [k3 _ (by omega),e2,Array.getElem?_push,if_pos (by simp;omega),s1]
 have f3:v3.heap[v.heap.size+3]? = some (.cells (madeCells #[.nilFunc] n) 143):=by rw [e3,Array.getElem?_push,if_pos (by omega)]
 have ko:∀ b,b<v.heap.size→v3.heap[b]? = v.heap[b]?:=fun b hb=>by rw [k3 b (by omega),k2 b (by omega),k1 b hb]
 refine goesI_seq (dt_idle _ _) ?_
 rw [s1,s2]
 refine goesI_plain (z:=zn) (wr:=true) (L:=LT) (I:=NoRow Ch) hE fineT noRow_keeps (fun v v' w w' es hi hr ho he=>dt_of_z v v' w w' es hi hr ho he) hr3 fine203 rfl (by simp [base]) hn3
  (Q:=fun a w'=>(∃ u:Nat→Value,a={ tmps:=#[Pt wb 0,.slice (some ⟨sb,so,none⟩) n cap,.func (.func 0) #[] #[Pt xb 0],undef,undef,Pt v.heap.size 0,.slice none 0 0,Pt (v.heap.size+1+1) 0,.slice (some ⟨v.heap.size+3,0,none⟩) n n,u 9,u 10,u 11,u 12,u 13,u 14,u 15,u 16,u 17,u 18,u 19,u 20,u 21,u 22,u 23,u 24,u 25,u 26,u 27,u 28,u 29,u 30,u 31,u 32,u 33,u 34,u 35,u 36,u 37,u 38],defers:=[] })∧Laid v3 n v.heap.size (v.heap.size+1+1) (v.heap.size+1) (v.heap.size+3) pc ln cp n w') (fun τ=>?_) ?_
 ·refine wp_mono (a203_wp (onTape v3 τ 0) wb v.heap.size (v.heap.size+1+1) (v.heap.size+1) (v.heap.size+3) sb so n cap _ hn8 pc ln cp hln (fun k hk=>?_) ?_ ?_ ?_ ⟨by omega,by omega,by omega,by omega,by omega⟩) (fun e a w' hq=>⟨hq.1,hq.2.1,?_⟩)
  ·show v3.cell? _=_
   rw [World.cell?_of_block (w:=v) (w':=v3) (ko sb hsb)]
   exact hs k hk
  ·exact ⟨_,f1,size_madeCells _ _,fun i hi=>by simp [madeCells,hi,Nat.mod_one]⟩
  ·exact ⟨_,f3,size_madeCells _ _,fun i hi=>by simp [madeCells,hi,Nat.mod_one]⟩
  ·show v3.cell? _=_
   unfold World.cell?
   rw [show (⟨v.heap.size+1+1,0,none⟩:Addr).block=v.heap.size+2 from rfl,f2]
   rfl
  ·have:=hq.2.2
   exact ⟨this.size,this.rrow,this.brow,this.blk,this.old,this.os,this.out⟩
 rintro a4 v4 w4 ⟨⟨u,rfl⟩,hL⟩ hr4 hn4 -
 have hset:Set20 v xb n pc ln cp v4:=by
  refine ⟨by rw [hL.size,s3],by rw [hL.old _ (by omega) (by omega) (by omega)];exact f0,hL.rrow.congr fun i hi=>by rw [if_pos hi,s3],by rw [hL.old _ (by omega) (by omega) (by omega)];exact f2,hL.brow.congr fun i hi=>by rw [if_pos hi,s3],fun j hj=>by have:=hL.blk j hj;rw [s3] at this;exact this,fun b hb=>by rw [hL.old b (by omega) (by omega) (by omega)];exact ko b hb,by rw [hL.os,o3,o2,o1],by rw [hL.out,u3,u2,u1]⟩
 clear hL hr1 hr2 hr3 hn1 hn2 hn3 e1 e2 e3 o1 o2 o3 u1 u2 u3 k1 k2 k3 f0 f1 f2 f3 ko hvw hn hs hln s1 s2 s3
 unfold R20 B20 Tryd.f60 seq2
 simp only [Option.getD_some]
 refine goesI_seq (dt_idle _ _) ?_
 refine goesI_region (dt_idle _ _) ?_
 simp only [List.size_toArray,List.length_cons,List.length_nil,Nat.reduceAdd,Nat.zero_add,List.range,List.range.loop]
 iterate 2
  (refine goesI_oper rfl rfl (by decide) (fun d K hK=>?_)
   go_simp
   refine hK _ _ ⟨dt_reads (fun e he=>?_),GoesI.at ?_ d⟩
   ·have hm:=mem_listed he
    simp [go_sem, *] at hm
    try exact ⟨_,_,hm⟩
   clear hK K)
 refine goesI_into (f:=95) (fn:=Tryd.f95) (args:=#[Pt wb 0,.slice (some ⟨v.heap.size+3,0,none⟩) n n]) (dt_idle _ _) rfl rfl (by decide) rfl (by simp [Act.eval]) Tryd.func95 (by decide) rfl ?_
 refine hk v4 w4 _ _ _ _ _ _ _ hr4 hn4 hset rfl (fun Ch Stop w x hx hg=>?_)
 clear hk hset hr4 hn4
 refine goesI_regionEnd (dt_idle _ _) ?_
 refine goesI_seq (dt_idle _ _) ?_
 refine goesI_region (dt_idle _ _) ?_
 simp only [List.size_toArray,List.length_cons,List.length_nil,Nat.reduceAdd,Nat.zero_add,List.range,List.range.loop]
 have hx':w.cell? ⟨v.heap.size+1+1,0,none⟩=some x:=hx
 iterate 2
  (refine goesI_oper rfl rfl (by decide) (fun d K hK=>?_)
   go_simp
   refine hK _ _ ⟨dt_reads (fun e he=>?_),GoesI.at ?_ d⟩
   ·have hm:=mem_listed he
    simp [go_sem, *] at hm
    try exact ⟨_,_,hm⟩
   clear hK K)
 refine goesI_regionEnd (dt_idle _ _) ?_
 refine GoesI.ctl rfl (fun _=>stepG_ret') (dt_idle _ _) ?_
 refine goesI_leave (b:=base 60) (fn:=Tryd.f60) (v:=x) rfl rfl Tryd.func60 (fun w=>?_) (fun w=>by simp [results,go_sem,Tryd.f60]) hoc (dt_idle _ _) ?_
 ·rw [results_tmp (t:=6) rfl]
  simp
 ·have:=hg w.drawn
  exact this
def Celled (wb:Nat) (tv:Value) (n base:Nat) (xs:List Value) (x:Value) (w w':World):Prop :=
 ∃ g cap,(∀ c t f,w.heap[wb]? = some (.cells c t f)→w'.heap[wb]? = some (.cells (c.setIfInBounds 3 (.slice (some ⟨g,0,none⟩) (n+1) cap)) t f)) ∧
   w'.ownsRow base 3 1 (.slice (some ⟨g,0,none⟩) (n+1) cap) (n+1) (xs++[x])∧(tv.ownBlock=some g∨w.heap.size≤g)∧Fr (fun b=>b=wb∨some b=tv.ownBlock) w w'
theorem celled_of {wb:Nat} {tv x:Value} {n base:Nat} {xs:List Value} {w u w6:World} {g cap:Nat} (hb:Below w.heap.size w u) (hw:wb<w.heap.size) (hg:u.grownBy w6 tv.ownBlock) (hown:w6.ownsRow base 3 1 (.slice (some ⟨g,0,none⟩) (n+1) cap) (n+1) (xs++[x]))
 (hat:tv.ownBlock=some g∨g=u.heap.size) (hne:tv.ownBlock≠some wb):Celled wb tv n base xs x w (w6.setCell ⟨wb,3,none⟩ (.slice (some ⟨g,0,none⟩) (n+1) cap)):=by
 have hgw:g≠wb:=by
  rcases hat with h|h
  ·exact fun e=>hne (by rw [h,e])
  ·have:=hb.size;omega
 have e6:w6.heap[wb]? = w.heap[wb]?:=(hg.block wb (Nat.lt_of_lt_of_le hw hb.size) (Ne.symm hne)).trans (hb.block wb hw)
 refine ⟨g,cap,fun c t f h=>heap_setCell_same (by rw [e6];exact h) _,own_set hown _ _ (fun e=>hgw (Option.some.inj e)),?_,?_⟩
 ·rcases hat with h|h
  ·exact .inl h
  ·exact .inr (by have:=hb.size;omega)
 ·refine ⟨by show w6.os=_;rw [hg.os,hb.os],by show w6.output=_;rw [hg.output,hb.output],?_,fun b hlt hs=>?_⟩
  ·have:=hb.size
   have:=hg.size
   simp only [World.setCell,Array.size_modify]
   omega
  ·rw [Below.heap_setCell _ _ _ _ (fun e=>hs (.inl e)),hg.block b (Nat.lt_of_lt_of_le hlt hb.size) (fun e=>hs (.inr e)),hb.block b hlt]
def celledS (S:TS) (cv:Value):TS:={ S with cv:=cv,chg:=S.chg++[0] }
theorem celled_ev {z:Nat→Option Nat} {S:TS} {v v':World} (h:Rep z S v) (hN:Celled S.wb S.cv S.chg.length S.base (S.chg.map I) (I 0) v v'):∃ cv',Ev z S v (celledS S cv') v':=by
 obtain ⟨g,cap,hw,hown,hat,hfr⟩:=hN
 have hst:∀ k b,blk S k=some b→k≠0→k≠1→v'.heap[b]? = v.heap[b]?:=fun k b hk h0 h3=>hfr.block b (h.lt hk) (fun hS=>by
  rcases hS with rfl|hS
  ·exact h0 (h.apart k 0 _ hk rfl)
  ·exact h3 (h.apart k 1 b hk hS.symm))
 have hnew:∀ k b,blk (celledS S (.slice (some ⟨g,0,none⟩) (S.chg.length+1) cap)) k=some b→(blk S k=some b)∨(k=1∧b=g):=fun k b hk=>by
  match k,hk with
  |0,hk=>exact .inl hk
  |1,hk=>cases hk;exact .inr ⟨rfl,rfl⟩
  |2,hk=>exact .inl hk
  |3,hk=>exact .inl hk
  |4,hk=>exact .inl hk
  |k+5,hk=>exact .inl hk
 refine ⟨.slice (some ⟨g,0,none⟩) (S.chg.length+1) cap,⟨?_,fun j t' ht'=>?_,own_stay (fun b hb=>hst 3 b hb (by omega) (by omega)) h.own,?_,own_stay (fun b hb=>hst 2 b hb (by omega) (by omega)) h.ths,own_stay (fun b hb=>hst 4 b hb (by omega) (by omega)) h.sch,Nat.le_trans h.bs hfr.size,fun j k b hj hk=>?_,h.kept⟩,hfr.mono (fun x _ hx=>?_),fun b ⟨k,hk⟩=>?_⟩
 ·have:=hw _ _ _ h.wor
  simpa [celledS] using this
 ·rw [hst (j+5) t'.tb (by simp only [blk];rw [show S.thr[j]? = some t' from ht'];rfl) (by omega) (by omega)]
  exact h.thr j t' ht'
 ·show v'.ownsRow S.base 3 1 _ (S.chg++[0]).length ((S.chg++[0]).map I)
  rw [List.length_append,List.map_append]
  exact hown
 ·rcases hnew j b hj with e1|⟨rfl,rfl⟩<;>rcases hnew k b hk with e2|⟨rfl,e2⟩
  ·exact h.apart j k b e1 e2
  ·subst e2
   rcases hat with ha|ha
   ·exact h.apart j 1 b e1 ha
   ·have:=h.lt e1;omega
  ·rcases hat with ha|ha
   ·exact h.apart 1 k b ha e2
   ·have:=h.lt e2;omega
  ·rfl
 ·rcases hx with rfl|hx
  ·exact ⟨0,rfl⟩
  ·exact ⟨1,hx.symm⟩
 ·rcases hnew k b hk with e1|⟨_,rfl⟩
  ·exact .inl ⟨k,e1⟩
  ·rcases hat with ha|ha
   ·exact .inl ⟨1,ha⟩
   ·exact .inr ha
theorem info3:(Tryd.prog.info? 3).map (fun i=>(i.zero,i.size,i.bytes))=some (some (I 0),1,8):=by kernel_rfl
theorem newsI (w:World) (x:Int) (t:TypeId):∀ j u,[I x][j]? = some u→(w.alloc (.cells #[I x] t)).cell? ((⟨w.heap.size,0,none⟩:Addr).add j)=some u:=by
 intro j u hj
 have hb:(w.alloc (.cells #[I x] t)).heap[w.heap.size]? = some (.cells #[I x] t):=Array.getElem?_push_size
 exact World.news_of_block hb j u hj
theorem oneI (x:Int):∀ u∈[I x],u.oneCell'=true:=by
 intro u hu
 simp at hu
 subst hu
 rfl
theorem body24 {z:Nat→Option Nat} {S:TS} {v:World} (h:Rep z S v) (hn:S.chg.length≤17592186043904):Body Tryd.f103 #[Pt S.wb 0] v (fun r v'=>r=I S.chg.length∧∃ cv,Ev z S v (celledS S cv) v'):=by
 intro code hb
 obtain rfl:=Option.some.inj hb
 clear hb
 have c3:=h.wcell.2.2.2.1
 have f3:=fz_off h 3 (by omega)
 have HR:Hid (Rep z S v):=⟨h⟩
 have q3:S.wb<v.heap.size:=World.block_lt_of_cell? _ _ c3
 have qb:S.base≤v.heap.size:=h.bs
 obtain ⟨tp,tc,htv⟩:=own_form h.chg
 have HO:Hid (v.ownsRow S.base 3 1 (.slice tp S.chg.length tc) S.chg.length (S.chg.map I)):=⟨by rw [←htv];exact h.chg⟩
 have n1:(Value.slice tp S.chg.length tc).ownBlock≠some S.wb:=by
  rw [←htv]
  exact fun e=>by have:=h.apart 1 0 S.wb e rfl;omega
 have HT:Hid (S.cv=.slice tp S.chg.length tc):=⟨htv⟩
 rw [htv] at c3
 obtain ⟨j0,hj,hj0,hj1,hj2⟩:=info_parts info3
 have hne:S.wb≠v.heap.size:=by omega
 have hne':v.heap.size≠S.wb:=by omega
 have K3:Hid (v.cell? ⟨S.wb,3,none⟩=some (.slice tp S.chg.length tc)∧v.frozen? ⟨S.wb,3,none⟩=false):=⟨⟨c3,f3⟩⟩
 clear h htv
 simp only [Tryd.ntmps103,List.size_toArray,List.length_cons,List.length_nil,Nat.reduceAdd,Nat.reduceSub,Array.replicate_succ,Array.replicate_zero,List.push_toArray,List.append_toArray,List.nil_append,List.cons_append]
 go_wp2_with (first
  |(refine wpList_append_lies _ rfl (.tmp 9) (.tmp 10) 22 rfl S.base 3 j0 _ 1 8 Tryd.underlying22 hj hj0 hj1 hj2 rfl (by decide) (.slice tp S.chg.length tc) S.chg.length (S.chg.map I) rfl (own_later (below_alloc (Below.refl _ _) _) HO.out) ⟨_,0,none⟩ 1 1 [I 0] rfl rfl (newsI _ _ _) (oneI _) (by decide) (by unfold maxLen;omega) (by omega) (by simp;omega) _ rfl ?_
    intro g cpg w6 hown6 hgrow6 hat6 hlt6
    obtain ⟨k5,k6⟩:=keep2g ⟨kcell (below_alloc (Below.refl _ _) _) K3.out.1,by rw [(below_alloc (Below.refl _ _) _).frozen q3];exact K3.out.2⟩ hgrow6 n1))
 go_ret
 exact ⟨_,rfl,rfl,celled_ev HR.out (by rw [HT.out];exact celled_of (below_alloc (Below.refl _ _) _) q3 hgrow6 hown6 hat6 n1)⟩
theorem mem_newcell {z:Nat→Option Nat} {S:TS} {K:List (Nat×Int)} {v v1 v3:World} {cv:Value} {x:Int} (hm:Mem z S K v) (he:Ev z S v (celledS S cv) v1) (hh:v3.heap=v1.heap.push (.cells #[I S.chg.length,I x] 158)) (ho:v3.os=v1.os) (hu:v3.output=v1.output) :
 Mem z (celledS S cv) (K++[(v1.heap.size,x)]) v3∧Fr (Own S K) v v3∧∀ b,Own (celledS S cv) (K++[(v1.heap.size,x)]) b→Own S K b∨v.heap.size≤b:=by
 have hold:∀ b,b<v1.heap.size→v3.heap[b]? = v1.heap[b]?:=fun b hb=>by rw [hh,Array.getElem?_push,if_neg (by omega)]
 have hs3:v3.heap.size=v1.heap.size+1:=by rw [hh];simp
 have hrep:Rep z (celledS S cv) v3:=he.rep.grows (by omega) hold
 have hKl:K.length=S.chg.length:=hm.len.symm
 have hget:∀ (j:Nat) (c:Nat×Int),(K++[(v1.heap.size,x)])[j]? = some c→(j<K.length∧K[j]? = some c)∨(j=K.length∧c=(v1.heap.size,x)):=fun j c hj=>by
  rcases Nat.lt_trichotomy j K.length with h1|h1|h1
  ·rw [List.getElem?_append_left h1] at hj;exact .inl ⟨h1,hj⟩
  ·subst h1
   rw [List.getElem?_append_right (Nat.le_refl _)] at hj
   simp at hj
   exact .inr ⟨rfl,hj.symm⟩
  ·rw [List.getElem?_append_right (by omega)] at hj
   have:j - K.length≠0:=by omega
   simp [this] at hj
 have hKlt:∀ (j:Nat) (c:Nat×Int),K[j]? = some c→c.1<v.heap.size:=fun j c hc=>hm.lt (.inr ⟨j,c,hc,rfl⟩)
 have hits:∀ b,Its (celledS S cv) b→b<v1.heap.size:=fun b ⟨k,hk⟩=>he.rep.lt hk
 refine ⟨⟨hrep,fun j c hj=>?_,fun j c hj hi=>?_,fun i j c d hi hj e=>?_,?_⟩,⟨ho.trans he.fr.os,hu.trans he.fr.output,by have:=he.fr.size;omega,fun b hb hs=>?_⟩,fun b hb=>?_⟩
 ·rcases hget j c hj with ⟨h1,h2⟩|⟨rfl,rfl⟩
  ·have hlt:=hKlt j c h2
   rw [hold c.1 (by have:=he.fr.size;omega),he.fr.block c.1 hlt (hm.far j c h2)]
   exact hm.cel j c h2
  ·show v3.heap[v1.heap.size]? = _
   rw [hh,hKl]
   exact Array.getElem?_push_size
 ·rcases hget j c hj with ⟨h1,h2⟩|⟨rfl,rfl⟩
  ·rcases he.new _ hi with h3|h3
   ·exact hm.far j c h2 h3
   ·have:=hKlt j c h2;omega
  ·have h9:=hits _ hi
   exact Nat.lt_irrefl _ h9
 ·rcases hget i c hi with ⟨h1,h2⟩|⟨rfl,rfl⟩<;>rcases hget j d hj with ⟨h3,h4⟩|⟨rfl,rfl⟩
  ·exact hm.inj i j c d h2 h4 e
  ·have:=hKlt i c h2
   have:=he.fr.size
   have e':c.1=v1.heap.size:=e
   omega
  ·have:=hKlt j d h4
   have:=he.fr.size
   have e':v1.heap.size=d.1:=e
   omega
  ·rfl
 ·show (S.chg++[0]).length=(K++[_]).length
  simp [hKl]
 ·rw [hold b (by have:=he.fr.size;omega),he.fr.block b hb (fun hi=>hs (.inl hi))]
 ·rcases hb with hb|⟨j,c,hj,rfl⟩
  ·exact (he.new b hb).imp .inl id
  ·rcases hget j c hj with ⟨h1,h2⟩|⟨rfl,rfl⟩
   ·exact .inl (.inr ⟨j,c,h2,rfl⟩)
   ·right;exact he.fr.size
theorem body10 {z:Nat→Option Nat} {S:TS} {K:List (Nat×Int)} {v:World} (hm:Mem z S K v) (x:Int) (hn:S.chg.length≤17592186043904):Body Tryd.f70 #[Pt S.wb 0,I x] v (fun r v'=>∃ cb cv,r=Pt cb 0∧Mem z (celledS S cv) (K++[(cb,x)]) v'∧Fr (Own S K) v v'∧∀ b,Own (celledS S cv) (K++[(cb,x)]) b→Own S K b∨v.heap.size≤b):=by
 intro code hb
 obtain rfl:=Option.some.inj hb
 clear hb
 have HM:Hid (Mem z S K v):=⟨hm⟩
 have h24:=(body24 hm.rep hn).calls Tryd.func103 rfl
 have H24:Hid _:=⟨h24⟩
 clear hm h24
 simp only [Tryd.ntmps70,List.size_toArray,List.length_cons,List.length_nil,Nat.reduceAdd,Nat.reduceSub,Array.replicate_succ,Array.replicate_zero,List.push_toArray,List.append_toArray,List.nil_append,List.cons_append]
 go_wp2_with (first
  |(go_at_call 103;refine H24.out.mono ?_;rintro e w1 ⟨r1,rfl,rfl,cv,hev⟩;have HEV:Hid (Ev z S v (celledS S cv) w1):=⟨hev⟩;clear hev)
  |(go_at_call 104
    have hb:(w1.alloc (.cells #[I S.chg.length,I 0] 158)).heap[w1.heap.size]? = some (.cells #[I S.chg.length,I 0] 158):=Array.getElem?_push_size
    refine ((body25 w1.heap.size 0 x _ (by unfold World.cell?;rw [hb];rfl) (by unfold World.frozen?;rw [hb];rfl)).calls Tryd.func104 rfl).mono ?_;rintro e w2 ⟨r2,rfl,rfl,rfl⟩))
 go_ret
 exact ⟨_,rfl,w1.heap.size,cv,rfl,mem_newcell HM.out HEV.out rfl rfl rfl⟩
theorem body32 {z:Nat→Option Nat} {S:TS} {v:World} (h:Rep z S v):Body Tryd.f92 #[Pt S.wb 0] v (fun r v'=>r=.bool S.ran∧v'=v):=by
 intro code hb
 obtain rfl:=Option.some.inj hb
 clear hb
 have c7:=h.wcell.2.2.2.2.2.2.2.1
 clear h
 simp only [Tryd.ntmps92,List.size_toArray,List.length_cons,List.length_nil,Nat.reduceAdd,Nat.reduceSub,Array.replicate_succ,Array.replicate_zero,List.push_toArray,List.append_toArray,List.nil_append,List.cons_append]
 go_wp2
 go_ret
 exact ⟨_,rfl,rfl,rfl⟩
def checkE (n:Nat) (ran:Bool):Int:=if n=0∨8<n∨ran=true then 1 else 0
def checkS (n:Nat):Int:=if n=0∨8<n then 1 else 0
theorem body57 {v:World} (p:Option Addr) (n cap:Nat) (hn:n≤17592186043904) (pc:Nat→Option Addr) (ln cp:Nat→Nat) (hs:∀ k,k<n→∃ sb so,p=some ⟨sb,so,none⟩∧v.cell? ⟨sb,so+k,none⟩=some (.slice (pc k) (ln k) (cp k))) :
 Body Tryd.f91 #[.slice p n cap] v (fun r v'=>v'=v∧(((∃ k,k<n∧64<ln k)∧r=I 2)∨((∀ k,k<n→ln k≤64)∧r=I (checkS n)))):=by
 intro code hb
 obtain rfl:=Option.some.inj hb
 clear hb
 have HS:Hid (∀ k,k<n→∃ sb so,p=some ⟨sb,so,none⟩∧v.cell? ⟨sb,so+k,none⟩=some (.slice (pc k) (ln k) (cp k))):=⟨hs⟩
 clear hs
 simp only [Tryd.ntmps91,List.size_toArray,List.length_cons,List.length_nil,Nat.reduceAdd,Nat.reduceSub,Array.replicate_succ,Array.replicate_zero,List.push_toArray,List.append_toArray,List.nil_append,List.cons_append]
 go_wp2_with fail
 go_loopw [7] (fun i u=>u=v∧∃ k:Nat,k≤n∧i=.int .i64 k∧∀ j,j<k→ln j≤64) (fun i _=>n - (intOf i).toNat)
 case atStart=>exact ⟨rfl,0,Nat.zero_le _,rfl,fun j hj=>by omega⟩
 case round =>
  obtain ⟨rfl,k,hk,rfl,hL⟩:=hrel
  have HL:Hid (∀ j,j<k→ln j≤64):=⟨hL⟩
  clear hL
  by_cases hlt:k<n
  ·obtain ⟨sb,so,rfl,hc⟩:=HS.out k hlt
   have hlt':(k:Int)<(n:Int):=by omega
   by_cases hb:(64:Int)<(ln k:Int)
   ·go_wp2_with fail
    go_ret
    exact ⟨_,rfl,rfl,.inl ⟨⟨k,hlt,by omega⟩,rfl⟩⟩
   ·go_wp2_with fail
    go_roundw
    case rel =>
     refine ⟨trivial,k+1,by omega,by go_num,fun j hj=>?_⟩
     rcases Nat.lt_or_ge j k with h1|h1
     ·exact HL.out j h1
     ·have:j=k:=by omega
      subst this
      omega
    case measure=>simp [intOf];omega
  ·have hkk:k=n:=by omega
   subst hkk
   have hb0:(I (k:Int):Value)=.int .i64 (k:Int):=rfl
   by_cases e0:(k:Int)=0
   ·go_wp2_with fail
    go_ret
    exact ⟨_,rfl,rfl,.inr ⟨HL.out,by unfold checkS;rw [if_pos (.inl (by omega))];rfl⟩⟩
   ·by_cases e8:(8:Int)<(k:Int)
    ·go_wp2_with fail
     go_ret
     exact ⟨_,rfl,rfl,.inr ⟨HL.out,by unfold checkS;rw [if_pos (.inr (by omega))];rfl⟩⟩
    ·go_wp2_with fail
     go_ret
     exact ⟨_,rfl,rfl,.inr ⟨HL.out,by unfold checkS;rw [if_neg (by omega)];rfl⟩⟩
theorem body19 {z:Nat→Option Nat} {S:TS} {v:World} (h:Rep z S v) (p:Option Addr) (n cap:Nat) (hn:n≤17592186043904) (pc:Nat→Option Addr) (ln cp:Nat→Nat) (hs:∀ k,k<n→∃ sb so,p=some ⟨sb,so,none⟩∧v.cell? ⟨sb,so+k,none⟩=some (.slice (pc k) (ln k) (cp k))) :
 Body Tryd.f59 #[Pt S.wb 0,.slice p n cap] v (fun r v'=>v'=v∧(((∃ k,k<n∧64<ln k)∧r=I 2)∨((∀ k,k<n→ln k≤64)∧r=I (checkE n S.ran)))):=by
 intro code hb
 obtain rfl:=Option.some.inj hb
 clear hb
 have h57:=(body57 (v:=v) p n cap hn pc ln cp hs).calls Tryd.func91 rfl
 have H57:Hid _:=⟨h57⟩
 have h32:=(body32 h).calls Tryd.func92 rfl
 have H32:Hid _:=⟨h32⟩
 clear h hs h32 h57
 simp only [Tryd.ntmps59,List.size_toArray,List.length_cons,List.length_nil,Nat.reduceAdd,Nat.reduceSub,Array.replicate_succ,Array.replicate_zero,List.push_toArray,List.append_toArray,List.nil_append,List.cons_append]
 go_wp2_with fail
 go_at_call 91
 refine H57.out.mono ?_
 rintro e w1 ⟨r1,rfl,rfl,hq⟩
 rcases hq with ⟨hq,rfl⟩|⟨hq,rfl⟩
 ·have HQ:Hid _:=⟨hq⟩
  clear hq
  go_wp2_with fail
  go_ret
  exact ⟨_,rfl,rfl,.inl ⟨HQ.out,rfl⟩⟩
 ·have HQ:Hid _:=⟨hq⟩
  clear hq
  by_cases hc:n=0∨8<n
  ·have e1:checkS n=1:=by unfold checkS;rw [if_pos hc]
   rw [e1]
   go_wp2_with fail
   go_ret
   exact ⟨_,rfl,rfl,.inr ⟨HQ.out,by unfold checkE;rw [if_pos (by omega)];rfl⟩⟩
  ·have e1:checkS n=0:=by unfold checkS;rw [if_neg hc]
   rw [e1]
   go_wp2_with (first
    |(go_at_call 92;refine H32.out.mono ?_;rintro e w1 ⟨r1,rfl,rfl,rfl⟩))
   ·rename_i hq
    go_ret
    refine ⟨_,rfl,rfl,.inr ⟨HQ.out,?_⟩⟩
    unfold checkE
    rw [if_pos (.inr (.inr hq))]
    rfl
   ·rename_i hq
    go_ret
    refine ⟨_,rfl,rfl,.inr ⟨HQ.out,?_⟩⟩
    unfold checkE
    rw [if_neg (by rintro (h1|h1|h1)<;>first|omega|(rw [hq] at h1;cases h1))]
    rfl
end Go.Proofs.YtfjjoohflcchnaaDoor
namespace Go.Proofs.YtfjjoohflcchnaaDoor.Gen
open Go Go.Lift Go.Conc Go.RowKit
theorem a200_any (v:World) (wb n:Nat) (p:Option Addr) (cap:Nat) (fid:FuncId) (bn fr:Array Value) :
 a200.wp Tryd.prog (fun e a w'=>e=.normal∧a={ tmps:=#[Pt wb 0,.slice p n cap,.func (.func fid) bn fr,undef,undef,Pt v.heap.size 0,.slice none 0 0]++Array.replicate 32 undef,defers:=[] }∧w'.heap=v.heap.push (.cells #[.func (.func fid) bn fr] 101)∧w'.os=v.os∧w'.output=v.output)
  { tmps:=#[Pt wb 0,.slice p n cap,.func (.func fid) bn fr]++Array.replicate 36 undef,defers:=[] } v:=by
 show Code.wp Tryd.prog (seq1 (Tryd.f60.body.getD .skip)) _ _ _
 unfold Tryd.f60 seq1
 simp only [Option.getD_some,Array.replicate_succ,Array.replicate_zero,List.push_toArray,List.append_toArray,List.nil_append,List.cons_append]
 go_wp2_with fail
 exact ⟨rfl,rfl,rfl⟩
structure Set20 (v:World) (fid:FuncId) (bn fr:Array Value) (n:Nat) (pc:Nat→Option Addr) (ln cp:Nat→Nat) (u:World):Prop where
 size:u.heap.size=v.heap.size+4+3*n
 p2:u.heap[v.heap.size]? = some (.cells #[.func (.func fid) bn fr] 101)
 rrow:u.rowIs (v.heap.size+1) 31 n (fun j=>.slice (some ⟨v.heap.size+4+3*j+2,0,none⟩) (ln j) (ln j))
 p3:u.heap[v.heap.size+2]? = some (.cells #[.slice (some ⟨v.heap.size+1,0,none⟩) n n] 27)
 brow:u.rowIs (v.heap.size+3) 143 n (fun j=>.func (.func 93) #[] #[Pt (v.heap.size+4+3*j+1) 0,Pt v.heap.size 0,Pt (v.heap.size+2) 0,Pt (v.heap.size+4+3*j) 0])
 blk:∀ j,j<n→u.heap[v.heap.size+4+3*j]? = some (.cells #[I j] 3)∧u.heap[v.heap.size+4+3*j+1]? = some (.cells #[.slice (pc j) (ln j) (cp j)] 33)∧u.heap[v.heap.size+4+3*j+2]? = some (.cells (madeCells #[I 0,I 0] (ln j*2)) 38)
 old:∀ b,b<v.heap.size→u.heap[b]? = v.heap[b]?
 os:u.os=v.os
 out:u.output=v.output
noncomputable def R20:Code:=seq2 (seq2 (seq2 (seq2 B20)))
theorem eB20:B20=.seq a200 (.seq a201 (.seq a202 (.seq a203 R20))):=by kernel_rfl
theorem run20_in {Ch:Nat→Prop} {Stop:Goroutine→World→Prop} {main:Bool} {v w:World} (fid:FuncId) (bn fr:Array Value) (wb sb so n cap:Nat) (hn8:n≤8) (pc:Nat→Option Addr) (ln cp:Nat→Nat) (hln:∀ k,k<n→ln k≤64) (hs:∀ k,k<n→v.cell? ⟨sb,so+k,none⟩=some (.slice (pc k) (ln k) (cp k))) (cs:List Frame) {bc:Frame} {ac:Act} {ops:Array Oper} {q:Nat} {rest:List Nat} {oc:Oper} {k:List Item} (hoc:ops[q]? = some oc)
 (hsb:sb<v.heap.size) (hvw:Rel zn v w) (hn:NoRow Ch v)
 (hk:∀ v' w' (bd:Frame) (ad:Act) (od:Array Oper) (qd:Nat) (rd:List Nat) (oe:Oper) (kd:List Item),Rel zn v' w'→NoRow Ch v'→Set20 v fid bn fr n pc ln cp v'→od[qd]? = some oe →
   (∀ (Ch:Nat→Prop) (Stop:Goroutine→World→Prop) (w:World) (x:Value),w.cell? ⟨v.heap.size+2,0,none⟩=some x→(∀ d,GoesI Tryd.prog main (DT (ScZ zn) Ch) Stop (G (bc.at (ac.put oc.dst x) (.inRegion ops rest :: k)) cs) (w.at d))→GoesI Tryd.prog main (DT (ScZ zn) Ch) Stop (G (bd.at (ad.put oe.dst (.tuple #[])) (.inRegion od rd :: kd)) (bc.at ac (.inRegion ops (q :: rest) :: k) :: cs)) w) →
   GoesI Tryd.prog main (DT (ScZ zn) Ch) Stop (G ((base 95).at { tmps:=#[Pt wb 0,.slice (some ⟨v.heap.size+3,0,none⟩) n n]++Array.replicate 60 undef,defers:=[] } [.code B35]) (bd.at ad (.inRegion od (qd :: rd) :: kd) :: bc.at ac (.inRegion ops (q :: rest) :: k) :: cs)) w') :
 GoesI Tryd.prog main (DT (ScZ zn) Ch) Stop (G ((base 60).at { tmps:=#[Pt wb 0,.slice (some ⟨sb,so,none⟩) n cap,.func (.func fid) bn fr]++Array.replicate 36 undef,defers:=[] } [.code B20]) (bc.at ac (.inRegion ops (q :: rest) :: k) :: cs)) w:=by
 rw [eB20]
 refine goesI_seq (dt_idle _ _) ?_
 refine goesI_plain (z:=zn) (wr:=true) (L:=LT) (I:=NoRow Ch) hE fineT noRow_keeps (fun v v' w w' es hi hr ho he=>dt_of_z v v' w w' es hi hr ho he) hvw fine200 rfl (by simp [base]) hn
  (Q:=fun a w'=>a={ tmps:=#[Pt wb 0,.slice (some ⟨sb,so,none⟩) n cap,.func (.func fid) bn fr,undef,undef,Pt v.heap.size 0,.slice none 0 0]++Array.replicate 32 undef,defers:=[] }∧w'.heap=v.heap.push (.cells #[.func (.func fid) bn fr] 101)∧w'.os=v.os∧w'.output=v.output) (fun τ=>a200_any (onTape v τ 0) wb n (some ⟨sb,so,none⟩) cap fid bn fr) ?_
 rintro a1 v1 w1 ⟨rfl,e1,o1,u1⟩ hr1 hn1 -
 have s1:v1.heap.size=v.heap.size+1:=by rw [e1];simp
 refine goesI_seq (dt_idle _ _) ?_
 refine goesI_plain (z:=zn) (wr:=true) (L:=LT) (I:=NoRow Ch) hE fineT noRow_keeps (fun v v' w w' es hi hr ho he=>dt_of_z v v' w w' es hi hr ho he) hr1 fine201 rfl (by simp [base]) hn1
  (Q:=fun a w'=>a={ tmps:=#[Pt wb 0,.slice (some ⟨sb,so,none⟩) n cap,.func (.func fid) bn fr,undef,undef,Pt v.heap.size 0,.slice none 0 0,Pt (v1.heap.size+1) 0,undef,undef,undef,.slice (some ⟨sb,so,none⟩) n cap,I n,.slice (some ⟨v1.heap.size,0,none⟩) n n]++Array.replicate 25 undef,defers:=[] }∧w'.heap=(v1.heap.push (.cells (madeCells #[.slice none 0 0] n) 31)).push (.cells #[.slice (some ⟨v1.heap.size,0,none⟩) n n] 27)∧w'.os=v1.os∧w'.output=v1.output) (fun τ=>a201_wp (onTape v1 τ 0) wb v.heap.size n (some ⟨sb,so,none⟩) cap _ hn8) ?_
 rintro a2 v2 w2 ⟨rfl,e2,o2,u2⟩ hr2 hn2 -
 have s2:v2.heap.size=v.heap.size+3:=by rw [e2];simp;omega
 refine goesI_seq (dt_idle _ _) ?_
 refine goesI_plain (z:=zn) (wr:=true) (L:=LT) (I:=NoRow Ch) hE fineT noRow_keeps (fun v v' w w' es hi hr ho he=>dt_of_z v v' w w' es hi hr ho he) hr2 fine202 rfl (by simp [base]) hn2
  (Q:=fun a w'=>a={ tmps:=#[Pt wb 0,.slice (some ⟨sb,so,none⟩) n cap,.func (.func fid) bn fr,undef,undef,Pt v.heap.size 0,.slice none 0 0,Pt (v1.heap.size+1) 0,.slice (some ⟨v2.heap.size,0,none⟩) n n,undef,undef,.slice (some ⟨sb,so,none⟩) n cap,I n,.slice (some ⟨v1.heap.size,0,none⟩) n n,.slice (some ⟨sb,so,none⟩) n cap,I n,.slice (some ⟨v2.heap.size,0,none⟩) n n]++Array.replicate 22 undef,defers:=[] }∧w'.heap=v2.heap.push (.cells (madeCells #[.nilFunc] n) 143)∧w'.os=v2.os∧w'.output=v2.output) (fun τ=>a202_wp (onTape v2 τ 0) wb v.heap.size (v1.heap.size+1) v1.heap.size n (some ⟨sb,so,none⟩) cap _ hn8) ?_
 rintro a3 v3 w3 ⟨rfl,e3,o3,u3⟩ hr3 hn3 -
 have s3:v3.heap.size=v.heap.size+4:=by rw [e3];simp;omega
 have k1:∀ b,b<v.heap.size→v1.heap[b]? = v.heap[b]?:=fun b hb=>by rw [e1,Array.getElem?_push,if_neg (by omega)]
 have k2:∀ b,b<v.heap.size+1→v2.heap[b]? = v1.heap[b]?:=fun b hb=>by rw [e2,Array.getElem?_push,if_neg (by simp;omega),Array.getElem?_push,if_neg (by omega)]
 have k3:∀ b,b<v.heap.size+3→v3.heap[b]? = v2.heap[b]?:=fun b hb=>by rw [e3,Array.getElem?_push,if_neg (by omega)]
 have f0:v3.heap[v.heap.size]? = some (.cells #[.func (.func fid) bn fr] 101):=by rw [k3 _ (by omega),k2 _ (by omega),e1];exact Array.getElem?_push_size
 have f1:v3.heap[v.heap.size+1]? = some (.cells (madeCells #[.slice none 0 0] n) 31):=by rw [k3 _ (by omega),e2,Array.getElem?_push,if_neg (by simp;omega),Array.getElem?_push,if_pos (by omega)]
 have f2:v3.heap[v.heap.size+2]? = some (.cells #[.slice (some ⟨v.heap.size+1,0,none⟩) n n] 27):=by rw [k3 _ (by omega),e2,Array.getElem?_push,if_pos (by simp;omega),s1]
 have f3:v3.heap[v.heap.size+3]? = some (.cells (madeCells #[.nilFunc] n) 143):=by rw [e3,Array.getElem?_push,if_pos (by omega)]
 have ko:∀ b,b<v.heap.size→v3.heap[b]? = v.heap[b]?:=fun b hb=>by rw [k3 b (by omega),k2 b (by omega),k1 b hb]
 refine goesI_seq (dt_idle _ _) ?_
 rw [s1,s2]
 refine goesI_plain (z:=zn) (wr:=true) (L:=LT) (I:=NoRow Ch) hE fineT noRow_keeps (fun v v' w w' es hi hr ho he=>dt_of_z v v' w w' es hi hr ho he) hr3 fine203 rfl (by simp [base]) hn3
  (Q:=fun a w'=>(∃ u:Nat→Value,a={ tmps:=#[Pt wb 0,.slice (some ⟨sb,so,none⟩) n cap,.func (.func fid) bn fr,undef,undef,Pt v.heap.size 0,.slice none 0 0,Pt (v.heap.size+1+1) 0,.slice (some ⟨v.heap.size+3,0,none⟩) n n,u 9,u 10,u 11,u 12,u 13,u 14,u 15,u 16,u 17,u 18,u 19,u 20,u 21,u 22,u 23,u 24,u 25,u 26,u 27,u 28,u 29,u 30,u 31,u 32,u 33,u 34,u 35,u 36,u 37,u 38],defers:=[] })∧Laid v3 n v.heap.size (v.heap.size+1+1) (v.heap.size+1) (v.heap.size+3) pc ln cp n w') (fun τ=>?_) ?_
 ·refine wp_mono (a203_wp (onTape v3 τ 0) wb v.heap.size (v.heap.size+1+1) (v.heap.size+1) (v.heap.size+3) sb so n cap _ hn8 pc ln cp hln (fun k hk=>?_) ?_ ?_ ?_ ⟨by omega,by omega,by omega,by omega,by omega⟩) (fun e a w' hq=>⟨hq.1,hq.2.1,?_⟩)
  ·show v3.cell? _=_
   rw [World.cell?_of_block (w:=v) (w':=v3) (ko sb hsb)]
   exact hs k hk
  ·exact ⟨_,f1,size_madeCells _ _,fun i hi=>by simp [madeCells,hi,Nat.mod_one]⟩
  ·exact ⟨_,f3,size_madeCells _ _,fun i hi=>by simp [madeCells,hi,Nat.mod_one]⟩
  ·show v3.cell? _=_
   unfold World.cell?
   rw [show (⟨v.heap.size+1+1,0,none⟩:Addr).block=v.heap.size+2 from rfl,f2]
   rfl
  ·have:=hq.2.2
   exact ⟨this.size,this.rrow,this.brow,this.blk,this.old,this.os,this.out⟩
 rintro a4 v4 w4 ⟨⟨u,rfl⟩,hL⟩ hr4 hn4 -
 have hset:Set20 v fid bn fr n pc ln cp v4:=by
  refine ⟨by rw [hL.size,s3],by rw [hL.old _ (by omega) (by omega) (by omega)];exact f0,hL.rrow.congr fun i hi=>by rw [if_pos hi,s3],by rw [hL.old _ (by omega) (by omega) (by omega)];exact f2,hL.brow.congr fun i hi=>by rw [if_pos hi,s3],fun j hj=>by have:=hL.blk j hj;rw [s3] at this;exact this,fun b hb=>by rw [hL.old b (by omega) (by omega) (by omega)];exact ko b hb,by rw [hL.os,o3,o2,o1],by rw [hL.out,u3,u2,u1]⟩
 clear hL hr1 hr2 hr3 hn1 hn2 hn3 e1 e2 e3 o1 o2 o3 u1 u2 u3 k1 k2 k3 f0 f1 f2 f3 ko hvw hn hs hln s1 s2 s3
 unfold R20 B20 Tryd.f60 seq2
 simp only [Option.getD_some]
 refine goesI_seq (dt_idle _ _) ?_
 refine goesI_region (dt_idle _ _) ?_
 simp only [List.size_toArray,List.length_cons,List.length_nil,Nat.reduceAdd,Nat.zero_add,List.range,List.range.loop]
 iterate 2
  (refine goesI_oper rfl rfl (by decide) (fun d K hK=>?_)
   go_simp
   refine hK _ _ ⟨dt_reads (fun e he=>?_),GoesI.at ?_ d⟩
   ·have hm:=mem_listed he
    simp [go_sem, *] at hm
    try exact ⟨_,_,hm⟩
   clear hK K)
 refine goesI_into (f:=95) (fn:=Tryd.f95) (args:=#[Pt wb 0,.slice (some ⟨v.heap.size+3,0,none⟩) n n]) (dt_idle _ _) rfl rfl (by decide) rfl (by simp [Act.eval]) Tryd.func95 (by decide) rfl ?_
 refine hk v4 w4 _ _ _ _ _ _ _ hr4 hn4 hset rfl (fun Ch Stop w x hx hg=>?_)
 clear hk hset hr4 hn4
 refine goesI_regionEnd (dt_idle _ _) ?_
 refine goesI_seq (dt_idle _ _) ?_
 refine goesI_region (dt_idle _ _) ?_
 simp only [List.size_toArray,List.length_cons,List.length_nil,Nat.reduceAdd,Nat.zero_add,List.range,List.range.loop]
 have hx':w.cell? ⟨v.heap.size+1+1,0,none⟩=some x:=hx
 iterate 2
  (refine goesI_oper rfl rfl (by decide) (fun d K hK=>?_)
   go_simp
   refine hK _ _ ⟨dt_reads (fun e he=>?_),GoesI.at ?_ d⟩
   ·have hm:=mem_listed he
    simp [go_sem, *] at hm
    try exact ⟨_,_,hm⟩
   clear hK K)
 refine goesI_regionEnd (dt_idle _ _) ?_
 refine GoesI.ctl rfl (fun _=>stepG_ret') (dt_idle _ _) ?_
 refine goesI_leave (b:=base 60) (fn:=Tryd.f60) (v:=x) rfl rfl Tryd.func60 (fun w=>?_) (fun w=>by simp [results,go_sem,Tryd.f60]) hoc (dt_idle _ _) ?_
 ·rw [results_tmp (t:=6) rfl]
  simp
 ·have:=hg w.drawn
  exact this
end Go.Proofs.YtfjjoohflcchnaaDoor.Gen
