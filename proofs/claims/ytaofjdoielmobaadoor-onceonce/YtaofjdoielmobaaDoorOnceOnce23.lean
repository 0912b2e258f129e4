/- Of the proof of OnceOnce. Part 23 of 35. (Joined, by program, and written short, of: OnF, OnF2, GEnd, La5a, La3a.) -/
import Derived.Test.YtaofjdoielmobaaDoorOnceOnce16
import Derived.Test.YtaofjdoielmobaaDoorOnceOnce17
import Derived.Test.YtaofjdoielmobaaDoorOnceOnce19
import Derived.Test.YtaofjdoielmobaaDoorOnceOnce20
import Derived.Test.YtaofjdoielmobaaDoorOnceOnce21
import Derived.Test.YtaofjdoielmobaaDoorOnceOnce22
set_option linter.unusedSimpArgs false
set_option linter.unusedVariables false
set_option maxHeartbeats 4000000
set_option maxRecDepth 100000
namespace Go.Proofs.YtaofjdoielmobaaDoor.Gen
open Go Go.Lift Go.Conc Go.RowKit
theorem Fm.grows {tb cb:Nat} {x:Int} {v v':World} (h:Fm tb cb x v) (g:Grows v v'):Fm tb cb x v':=⟨g.cell h.thr,h.ne,by rw [g.old cb (Array.getElem?_eq_some_iff.1 h.cel).1];exact h.cel⟩
structure Gx (cw cv:Nat) (v v':World):Prop where
 size:v.heap.size≤v'.heap.size
 old:∀ b,b<v.heap.size→b≠cw→b≠cv→v'.heap[b]? = v.heap[b]?
 os:v'.os=v.os
 output:v'.output=v.output
structure FO (ob kp cw cv tb i:Nat) (x y:Int) (v:World):Prop where
 hob:v.heap[ob]? = some (.cells #[Pt kp 0] 79 (0,0))
 hkp:v.heap[kp]? = some (.cells #[Pt cw 0,Pt cv 0] 103 (0,0))
 hcw:v.heap[cw]? = some (.cells #[I 0,I x] 149 (0,0))
 hcv:v.heap[cv]? = some (.cells #[I 0,I y] 149 (0,0))
 htb:v.heap[tb]? = some (.cells #[.pointer none,I i,.chan none,I 0,I 0,I 0,I 0] 81 (0,0))
 fl:R1.Flds v
 ne:cw≠cv
 lo:2<cw∧2<cv
section
variable {ob kp cw cv tb i cb rb:Nat} {x y x' y' e a:Int} {v v' u u':World}
theorem Gx.refl:Gx cw cv v v:=⟨Nat.le_refl _,fun _ _ _ _=>rfl,rfl,rfl⟩
theorem Gx.trans (h:Gx cw cv v u) (k:Gx cw cv u u'):Gx cw cv v u':=⟨Nat.le_trans h.size k.size,fun b hb h1 h2=>by rw [k.old b (Nat.lt_of_lt_of_le hb h.size) h1 h2,h.old b hb h1 h2],k.os.trans h.os,k.output.trans h.output⟩
theorem Gx.of (g:Grows v v'):Gx cw cv v v':=⟨g.size,fun b hb _ _=>g.old b hb,g.os,g.output⟩
theorem Gx.ans (h:Gx cw cv v u) (hr:v.heap.size≤rb):Gx cw cv v (ansW u rb e a):=⟨by rw [ans_size];exact h.size,fun b hb h1 h2=>by rw [ans_far _ _ _ _ _ (by omega)];exact h.old b hb h1 h2,h.os,h.output⟩
theorem blt {o:Obj} {b:Nat} (h:v.heap[b]? = some o):b<v.heap.size:=(Array.getElem?_eq_some_iff.1 h).1
theorem Gx.at {o:Obj} {b:Nat} (g:Gx cw cv v v') (h:v.heap[b]? = some o) (h1:b≠cw) (h2:b≠cv):v'.heap[b]? = some o:=by rw [g.old b (blt h) h1 h2];exact h
theorem grows_at {o:Obj} {b:Nat} (g:Grows v v') (h:v.heap[b]? = some o):v'.heap[b]? = some o:=by rw [g.old b (blt h)];exact h
theorem FO.fmw (h:FO ob kp cw cv tb i x y v):Fm tb cw x v:=⟨cell_of h.htb rfl,fun e=>by have:=h.htb;rw [e,h.hcw] at this;simp at this,h.hcw⟩
theorem FO.fmv (h:FO ob kp cw cv tb i x y v):Fm tb cv y v:=⟨cell_of h.htb rfl,fun e=>by have:=h.htb;rw [e,h.hcv] at this;simp at this,h.hcv⟩
theorem FO.gx (h:FO ob kp cw cv tb i x y v) (g:Gx cw cv v v') (hw:v'.heap[cw]? = some (.cells #[I 0,I x'] 149 (0,0))) (hv:v'.heap[cv]? = some (.cells #[I 0,I y'] 149 (0,0))):FO ob kp cw cv tb i x' y' v':=by
 have e1:ob≠cw:=fun e=>by have:=h.hob;rw [e,h.hcw] at this;simp at this
 have e2:ob≠cv:=fun e=>by have:=h.hob;rw [e,h.hcv] at this;simp at this
 have e3:kp≠cw:=fun e=>by have:=h.hkp;rw [e,h.hcw] at this;simp at this
 have e4:kp≠cv:=fun e=>by have:=h.hkp;rw [e,h.hcv] at this;simp at this
 have hl:=h.lo
 have hc:∀ b j X,b<3→v.cell? ⟨b,j,none⟩=some X→v'.cell? ⟨b,j,none⟩=some X:=fun b j X hb hX=>by
  rw [World.cell?_of_block (w:=v) (w':=v') (g.old b (World.block_lt_of_cell? _ _ hX) (by omega) (by omega))];exact hX
 exact ⟨g.at h.hob e1 e2,g.at h.hkp e3 e4,hw,hv,g.at h.htb h.fmw.ne h.fmv.ne,⟨hc _ _ _ (by decide) h.fl.s0,hc _ _ _ (by decide) h.fl.s1,hc _ _ _ (by decide) h.fl.c0,hc _ _ _ (by decide) h.fl.c1,hc _ _ _ (by decide) h.fl.w0,hc _ _ _ (by decide) h.fl.w1⟩,h.ne,hl⟩
theorem FO.grows (h:FO ob kp cw cv tb i x y v) (g:Grows v v'):FO ob kp cw cv tb i x y v':=h.gx (Gx.of g) (grows_at g h.hcw) (grows_at g h.hcv)
theorem FO.back (h0:FO ob kp cw cv tb i x y v) (g:Gx cw cv v u) (hw:u.heap[cw]? = some (.cells #[I 0,I x'] 149 (0,0))) (hv:u.heap[cv]? = some (.cells #[I 0,I y'] 149 (0,0))) (hr:v.heap.size≤rb):FO ob kp cw cv tb i x' y' (ansW u rb e a) :=
 h0.gx (g.ans hr) (by rw [ans_far _ _ _ _ _ (by have:=blt h0.hcw;omega)];exact hw) (by rw [ans_far _ _ _ _ _ (by have:=blt h0.hcv;omega)];exact hv)
end
section
variable {Ch:Nat→Prop} {Stop:Goroutine→World→Prop} {main:Bool} {v w:World} {ob kp cw cv tb i:Nat} {x y kd b:Int}
end
theorem goesI_retZ {Ch:Nat→Prop} {Stop:Goroutine→World→Prop} {main:Bool} {f:FuncId} {c:Code} {act:Act} {more:List Item} {cs:List Frame} {v w:World} {Q:Act→World→Prop} (hvw:Rel zn v w) (hn:NoRow Ch v) (hc:fineCode Tryd.prog true LV c) (ha:act.defers=[])
 (hwp:∀ τ,c.wp Tryd.prog (fun e a w'=>e=.ret∧Q a w') act (onTape v τ 0))
 (h:∀ a' v' w' todo,Q a' v'→a'.defers=[]→Rel zn v' w'→NoRow Ch v'→GoesI Tryd.prog main (DT (ScZ zn) Ch) Stop (G { (base f).at a' todo with mode:=.returning } cs) w') :
 GoesI Tryd.prog main (DT (ScZ zn) Ch) Stop (G ((base f).at act (.code c :: more)) cs) w:=by
 have hfin:=lift_code (P:=Tryd.prog) (z:=zn) (wr:=true) (L:=LV) (D:=DT (ScZ zn) Ch) (I:=NoRow Ch) (main:=main) (b:=base f) (k:=more) (cs:=cs) hE fineV noRow_keeps (fun v v' w w' es hi hr ho he=>dt_of_z v v' w w' es hi hr ho he) hvw hc ha (by simp [base]) hn
  (Q:=fun e a w'=>e=.ret∧Q a w') hwp (fun e a w hq=>.inr hq.1)
 refine hfin.then ?_
 rintro g w' ⟨a',v',hr,hiv,hd,⟨⟨hq,_⟩,_⟩|⟨⟨_,hQ⟩,todo,rfl⟩⟩
 ·cases hq
 ·exact h a' v' w' todo hQ hd hr hiv
theorem _root_.Go.Proofs.YtaofjdoielmobaaDoor.Grows.toAt {W v w:World} (h:Grows W v) (hr:Rel zn v w) (d:Nat):Grows W (w.at d):=by
 have e:(w.at d).heap=v.heap:=hr.eq
 exact ⟨by rw [e];exact h.size,fun b hb=>by rw [e];exact h.old b hb,hr.os.trans h.os,hr.output.trans h.output⟩
theorem _root_.Go.Proofs.YtaofjdoielmobaaDoor.Grows.andThen {W v w:World} (h:Grows W v) (k:Grows v w):Grows W w:=⟨Nat.le_trans h.size k.size,fun b hb=>by rw [k.old b (by have:=h.size;omega),h.old b hb],k.os.trans h.os,k.output.trans h.output⟩
def PostT (W:World) (r:Value) (w':World):Prop:=r=.bool true∧Grows W w'
structure NwO (v w':World):Prop where
 kp:w'.heap[v.heap.size]? = some (.cells #[Pt (v.heap.size+1) 0,Pt (v.heap.size+2) 0] 103 (0,0))
 cw:w'.heap[v.heap.size+1]? = some (.cells #[I 0,I 0] 149 (0,0))
 cv:w'.heap[v.heap.size+2]? = some (.cells #[I 0,I 0] 149 (0,0))
 ob:w'.heap[v.heap.size+3]? = some (.cells #[Pt v.heap.size 0] 79 (0,0))
 g:Grows v w'
theorem acts1 (v:World) (b:Int):Calls Tryd.prog 12 #[I 1,I b] v (fun e w'=>e=.returned (.agg #[I 0,I b])∧Hid (Grows v w')):=by
 go_enter Tryd.func12,Tryd.ntmps12
 go_wp2_with fail
 have hrow:(v.alloc (.cells #[I 0,I b] 38)).heap[v.heap.size]? = some (.cells #[I 0,I b] 38 (0,0)):=Array.getElem?_push_size
 have k0:(v.alloc (.cells #[I 0,I b] 38)).cell? ⟨v.heap.size,0,none⟩=some (I 0):=cell_of hrow rfl
 have k1:(v.alloc (.cells #[I 0,I b] 38)).cell? ⟨v.heap.size,1,none⟩=some (I b):=cell_of hrow rfl
 refine ⟨rfl,.agg #[I 0,I b],?_,rfl,⟨⟨by simp,fun b hb=>by show (v.heap.push _)[b]? = _;rw [Array.getElem?_push,if_neg (by omega)],rfl,rfl⟩⟩⟩
 show (results Tryd.f12 _).run Tryd.prog (v.alloc (.cells #[I 0,I b] 38))=_
 generalize v.alloc (.cells #[I 0,I b] 38)=V at k0 k1
 simp [results,go_sem,Tryd.f12, *]
theorem acts2 (v:World) (b:Int):Calls Tryd.prog 12 #[I 2,I b] v (fun e w'=>e=.returned (.agg #[I 70,I b])∧Hid (Grows v w')):=by
 go_enter Tryd.func12,Tryd.ntmps12
 go_wp2_with fail
 have hrow:(v.alloc (.cells #[I 70,I b] 38)).heap[v.heap.size]? = some (.cells #[I 70,I b] 38 (0,0)):=Array.getElem?_push_size
 have k0:(v.alloc (.cells #[I 70,I b] 38)).cell? ⟨v.heap.size,0,none⟩=some (I 70):=cell_of hrow rfl
 have k1:(v.alloc (.cells #[I 70,I b] 38)).cell? ⟨v.heap.size,1,none⟩=some (I b):=cell_of hrow rfl
 refine ⟨rfl,.agg #[I 70,I b],?_,rfl,⟨⟨by simp,fun b hb=>by show (v.heap.push _)[b]? = _;rw [Array.getElem?_push,if_neg (by omega)],rfl,rfl⟩⟩⟩
 show (results Tryd.f12 _).run Tryd.prog (v.alloc (.cells #[I 70,I b] 38))=_
 generalize v.alloc (.cells #[I 70,I b] 38)=V at k0 k1
 simp [results,go_sem,Tryd.f12, *]
theorem acts3 (v:World) (b:Int):Calls Tryd.prog 12 #[I 3,I b] v (fun e w'=>e=.returned (.agg #[I 71,I b])∧Hid (Grows v w')):=by
 go_enter Tryd.func12,Tryd.ntmps12
 go_wp2_with fail
 have hrow:(v.alloc (.cells #[I 71,I b] 38)).heap[v.heap.size]? = some (.cells #[I 71,I b] 38 (0,0)):=Array.getElem?_push_size
 have k0:(v.alloc (.cells #[I 71,I b] 38)).cell? ⟨v.heap.size,0,none⟩=some (I 71):=cell_of hrow rfl
 have k1:(v.alloc (.cells #[I 71,I b] 38)).cell? ⟨v.heap.size,1,none⟩=some (I b):=cell_of hrow rfl
 refine ⟨rfl,.agg #[I 71,I b],?_,rfl,⟨⟨by simp,fun b hb=>by show (v.heap.push _)[b]? = _;rw [Array.getElem?_push,if_neg (by omega)],rfl,rfl⟩⟩⟩
 show (results Tryd.f12 _).run Tryd.prog (v.alloc (.cells #[I 71,I b] 38))=_
 generalize v.alloc (.cells #[I 71,I b] 38)=V at k0 k1
 simp [results,go_sem,Tryd.f12, *]
theorem acts4 (v:World) (b:Int):Calls Tryd.prog 12 #[I 4,I b] v (fun e w'=>e=.returned (.agg #[I 70,I 72])∧Hid (Grows v w')):=by
 go_enter Tryd.func12,Tryd.ntmps12
 go_wp2_with fail
 have hrow:(v.alloc (.cells #[I 70,I 72] 38)).heap[v.heap.size]? = some (.cells #[I 70,I 72] 38 (0,0)):=Array.getElem?_push_size
 have k0:(v.alloc (.cells #[I 70,I 72] 38)).cell? ⟨v.heap.size,0,none⟩=some (I 70):=cell_of hrow rfl
 have k1:(v.alloc (.cells #[I 70,I 72] 38)).cell? ⟨v.heap.size,1,none⟩=some (I 72):=cell_of hrow rfl
 refine ⟨rfl,.agg #[I 70,I 72],?_,rfl,⟨⟨by simp,fun b hb=>by show (v.heap.push _)[b]? = _;rw [Array.getElem?_push,if_neg (by omega)],rfl,rfl⟩⟩⟩
 show (results Tryd.f12 _).run Tryd.prog (v.alloc (.cells #[I 70,I 72] 38))=_
 generalize v.alloc (.cells #[I 70,I 72] 38)=V at k0 k1
 simp [results,go_sem,Tryd.f12, *]
theorem place_body (a:Int) (n:Nat) (h0:0<n) (hb:(n:Int)<9223372036854775808) (w:World):Body Tryd.f11 #[I a,I n] w (fun v w'=>v=I (which a n)∧w'=w):=by
 intro code hb'
 obtain rfl:=Option.some.inj hb'
 clear hb'
 simp only [Tryd.ntmps11,List.size_toArray,List.length_cons,List.length_nil,Nat.reduceAdd,Nat.reduceSub,Array.replicate_succ,Array.replicate_zero,List.push_toArray,List.append_toArray,List.nil_append,List.cons_append]
 have hne:¬ ((n:Int)=0):=by omega
 have HB:Hid ((n:Int)<9223372036854775808∧0<n):=⟨⟨hb,h0⟩⟩
 clear hb h0
 go_wp2_with fail
 all_goals
  go_ret
  rename_i h
  first
   |exact ⟨_,rfl,congrArg I (which_pos h),rfl⟩
   |exact ⟨_,rfl,congrArg I (which_neg h HB.out.2 HB.out.1),rfl⟩
theorem acts_any (v:World) (c:Cl) (h:isO c):Calls Tryd.prog 12 #[I c.po,I c.cb] v (fun e w'=>e=.returned (.agg #[I (actR c).1,I (actR c).2])∧Hid (Grows v w')):=by
 obtain ⟨h1,h2⟩:=h
 obtain ⟨po,ca,cb,cc⟩:=c
 have h1:1≤po:=h1
 have h2:po≤4:=h2
 have:po=1∨po=2∨po=3∨po=4:=by omega
 rcases this with rfl|rfl|rfl|rfl
 ·exact acts1 v cb
 ·exact acts2 v cb
 ·exact acts3 v cb
 ·exact acts4 v cb
end Go.Proofs.YtaofjdoielmobaaDoor.Gen
