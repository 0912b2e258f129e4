/- Of the proof of OnceAlone. Part 26 of 30. (Joined, by program, and written short, of: GObj, OnF2, GEnd, La5a.) -/
import Derived.Test.YtfjjoohflcchnaaDoorOnceAlone16
import Derived.Test.YtfjjoohflcchnaaDoorOnceAlone17
import Derived.Test.YtfjjoohflcchnaaDoorOnceAlone25
set_option linter.unusedSimpArgs false
set_option linter.unusedVariables false
set_option maxHeartbeats 4000000
set_option maxRecDepth 100000
namespace Go.Proofs.YtfjjoohflcchnaaDoor.Gen
open Go Go.Lift Go.Conc Go.RowKit
def padd (pk:Nat→Option Obj) (b:Nat) (o:Obj):Nat→Option Obj:=fun x=>if x=b then some o else pk x
theorem padd_at (pk:Nat→Option Obj) (b:Nat) (o:Obj):padd pk b o b=some o:=by unfold padd;rw [if_pos rfl]
theorem padd_ne {pk:Nat→Option Obj} {b x:Nat} {o:Obj} (h:x≠b):padd pk b o x=pk x:=by unfold padd;rw [if_neg h]
theorem cell_of {v:World} {b j:Nat} {c:Array Value} {t:TypeId} {f:Nat×Nat} {x:Value} (h:v.heap[b]? = some (.cells c t f)) (hj:c[j]? = some x):v.cell? ⟨b,j,none⟩=some x:=by
 unfold World.cell?
 rw [h]
 exact hj
section
variable {v u u':World} {S S1:TS} {K:List (Nat×Int)} {xs:List Int} {pk:Nat→Option Obj}
theorem Objs.start (hm:Mem zn S [] v) (hch:S.chg=[]):Objs v S [] (fun _=>none) S [] v :=
 ⟨Cel.refl hm,rfl,⟨S.cv,by unfold cellsS;rw [List.length_nil,List.replicate_zero,←hch]⟩,fun b o h=>(by cases h),fun b h=>absurd rfl h,fun b o h=>(by cases h)⟩
theorem Objs.startG (hm:Mem zn S [] v) (hch:S.chg=[]) (hpk:Has pk v) (hf:∀ b,pk b≠none→¬ Own S [] b∧b≠S.bk) (hr:∀ b o,pk b=some o→∃ c e f,o=.cells c e f):Objs v S [] pk S [] v :=
 ⟨Cel.refl hm,rfl,⟨S.cv,by unfold cellsS;rw [List.length_nil,List.replicate_zero,←hch]⟩,hpk,fun b h=>⟨.inr (hf b h).2,(hf b h).1⟩,hr⟩
theorem Objs.push (h:Objs v S xs pk S1 K u) {c:Array Value} {t:TypeId} (e:u'.heap=u.heap.push (.cells c t)) (e1:u'.os=u.os) (e2:u'.output=u.output):Objs v S xs (padd pk u.heap.size (.cells c t)) S1 K u':=by
 refine ⟨h.cel.push e e1 e2,h.vals,h.st,fun b o hb=>?_,fun b hb=>?_,fun b o hb=>?_⟩
 ·by_cases hbu:b=u.heap.size
  ·subst hbu
   rw [padd_at] at hb
   cases hb
   rw [e]
   exact Array.getElem?_push_size
  ·rw [padd_ne hbu] at hb
   have:=h.has b o hb
   have hl:=(Array.getElem?_eq_some_iff.1 this).1
   rw [e,Array.getElem?_push,if_neg (by omega)]
   exact this
 ·by_cases hbu:b=u.heap.size
  ·subst hbu
   exact ⟨.inl h.cel.fr.size,fun ho=>by have:=h.cel.mem.lt ho;omega⟩
  ·rw [padd_ne hbu] at hb
   exact h.new b hb
 ·by_cases hbu:b=u.heap.size
  ·subst hbu
   rw [padd_at] at hb
   cases hb
   exact ⟨_,_,_,rfl⟩
  ·rw [padd_ne hbu] at hb
   exact h.row b o hb
theorem Objs.more (h:Objs v S xs pk S1 K u) {S2:TS} {K2:List (Nat×Int)} {ys:List Int} (c:Cel zn S1 K u S2 K2 u') (hv:K2.map (·.2)=ys) (hs:∃ cv,S2=cellsS S cv ys.length):Objs v S ys pk S2 K2 u':=by
 have hl:∀ b o,pk b=some o→b<u.heap.size:=fun b o hb=>(Array.getElem?_eq_some_iff.1 (h.has b o hb)).1
 refine ⟨h.cel.trans c,hv,hs,fun b o hb=>?_,fun b hb=>?_,h.row⟩
 ·rw [c.fr.block b (hl b o hb) (h.new b (by rw [hb];simp)).2]
  exact h.has b o hb
 ·obtain ⟨o,ho⟩:=Option.ne_none_iff_exists'.1 hb
  refine ⟨(h.new b hb).1,fun ho'=>?_⟩
  rcases c.own b ho' with e|e
  ·exact (h.new b hb).2 e
  ·have:=hl b o ho;omega
theorem Objs.cell (h:Objs v S xs pk S1 K u) (x:Int) (hl:xs.length≤1000000):Calls Tryd.prog 70 #[Pt S.wb 0,I x] u (fun e w'=>∃ cb,e=.returned (Pt cb 0)∧u.heap.size≤w'.heap.size∧∃ S2,Objs v S (xs++[x]) pk S2 (K++[(cb,x)]) w'):=by
 obtain ⟨cv,rfl⟩:=h.st
 have h10:=(body10 h.cel.mem x (by show (List.replicate xs.length (0:Int)).length≤_;simp;omega)).calls Tryd.func70 rfl
 refine h10.mono ?_
 rintro e w' ⟨r,rfl,cb,cv',rfl,hm1,hf1,hn1⟩
 refine ⟨cb,rfl,hf1.size,_,h.more ⟨hm1,hf1,hn1⟩ (by rw [List.map_append,h.vals];rfl) ⟨cv',?_⟩⟩
 unfold celledS cellsS
 simp only [List.length_append,List.length_cons,List.length_nil,Nat.zero_add,List.replicate_succ']
end
structure Gx (cw cv:Nat) (v v':World):Prop where
 size:v.heap.size≤v'.heap.size
 old:∀ b,b<v.heap.size→b≠cw→b≠cv→v'.heap[b]? = v.heap[b]?
 os:v'.os=v.os
 output:v'.output=v.output
structure FO (ob kp cw cv tb i:Nat) (x y:Int) (v:World):Prop where
 hob:v.heap[ob]? = some (.cells #[Pt kp 0] 105 (0,0))
 hkp:v.heap[kp]? = some (.cells #[Pt cw 0,Pt cv 0] 146 (0,0))
 hcw:v.heap[cw]? = some (.cells #[I 0,I x] 158 (0,0))
 hcv:v.heap[cv]? = some (.cells #[I 0,I y] 158 (0,0))
 htb:v.heap[tb]? = some (.cells #[.pointer none,I i,.chan none,I 0,I 0,I 0,I 0] 107 (0,0))
 fl:R1.Flds v
 ne:cw≠cv
 lo:3<cw∧3<cv
section
variable {ob kp cw cv tb i cb rb:Nat} {x y x' y' e a:Int} {v v' u u':World}
theorem Gx.refl:Gx cw cv v v:=⟨Nat.le_refl _,fun _ _ _ _=>rfl,rfl,rfl⟩
theorem Gx.trans (h:Gx cw cv v u) (k:Gx cw cv u u'):Gx cw cv v u':=⟨Nat.le_trans h.size k.size,fun b hb h1 h2=>by rw [k.old b (Nat.lt_of_lt_of_le hb h.size) h1 h2,h.old b hb h1 h2],k.os.trans h.os,k.output.trans h.output⟩
theorem Gx.of (g:Grows v v'):Gx cw cv v v':=⟨g.size,fun b hb _ _=>g.old b hb,g.os,g.output⟩
theorem Gx.fto (f:Fto tb cb x v v') (h:cb=cw∨cb=cv):Gx cw cv v v':=⟨by rw [f.size];exact Nat.le_refl _,fun b _ h1 h2=>f.old b (by rcases h with rfl|rfl<;>assumption),f.os,f.out⟩
theorem Gx.ans (h:Gx cw cv v u) (hr:v.heap.size≤rb):Gx cw cv v (ansW u rb e a):=⟨by rw [ans_size];exact h.size,fun b hb h1 h2=>by rw [ans_far _ _ _ _ _ (by omega)];exact h.old b hb h1 h2,h.os,h.output⟩
theorem grows_ans (h:Grows v u) (hr:v.heap.size≤rb):Grows v (ansW u rb e a):=⟨by rw [ans_size];exact h.size,fun b hb=>by rw [ans_far _ _ _ _ _ (by omega)];exact h.old b hb,h.os,h.output⟩
theorem grows_of_fto (f:Fto tb cb x v v') (m:Fm tb cb x v):Grows v v':=⟨by rw [f.size];exact Nat.le_refl _,fun b _=>by rw [f.stay m],f.os,f.out⟩
theorem blt {o:Obj} {b:Nat} (h:v.heap[b]? = some o):b<v.heap.size:=(Array.getElem?_eq_some_iff.1 h).1
theorem Gx.at {o:Obj} {b:Nat} (g:Gx cw cv v v') (h:v.heap[b]? = some o) (h1:b≠cw) (h2:b≠cv):v'.heap[b]? = some o:=by rw [g.old b (blt h) h1 h2];exact h
theorem grows_at {o:Obj} {b:Nat} (g:Grows v v') (h:v.heap[b]? = some o):v'.heap[b]? = some o:=by rw [g.old b (blt h)];exact h
theorem FO.fmw (h:FO ob kp cw cv tb i x y v):Fm tb cw x v:=⟨cell_of h.htb rfl,fun e=>by have:=h.htb;rw [e,h.hcw] at this;simp at this,h.hcw⟩
theorem FO.fmv (h:FO ob kp cw cv tb i x y v):Fm tb cv y v:=⟨cell_of h.htb rfl,fun e=>by have:=h.htb;rw [e,h.hcv] at this;simp at this,h.hcv⟩
theorem FO.gx (h:FO ob kp cw cv tb i x y v) (g:Gx cw cv v v') (hw:v'.heap[cw]? = some (.cells #[I 0,I x'] 158 (0,0))) (hv:v'.heap[cv]? = some (.cells #[I 0,I y'] 158 (0,0))):FO ob kp cw cv tb i x' y' v':=by
 have e1:ob≠cw:=fun e=>by have:=h.hob;rw [e,h.hcw] at this;simp at this
 have e2:ob≠cv:=fun e=>by have:=h.hob;rw [e,h.hcv] at this;simp at this
 have e3:kp≠cw:=fun e=>by have:=h.hkp;rw [e,h.hcw] at this;simp at this
 have e4:kp≠cv:=fun e=>by have:=h.hkp;rw [e,h.hcv] at this;simp at this
 have hl:=h.lo
 have hc:∀ b j X,b<4→v.cell? ⟨b,j,none⟩=some X→v'.cell? ⟨b,j,none⟩=some X:=fun b j X hb hX=>by
  rw [World.cell?_of_block (w:=v) (w':=v') (g.old b (World.block_lt_of_cell? _ _ hX) (by omega) (by omega))];exact hX
 exact ⟨g.at h.hob e1 e2,g.at h.hkp e3 e4,hw,hv,g.at h.htb h.fmw.ne h.fmv.ne,⟨hc _ _ _ (by decide) h.fl.s0,hc _ _ _ (by decide) h.fl.s1,hc _ _ _ (by decide) h.fl.c0,hc _ _ _ (by decide) h.fl.c1,hc _ _ _ (by decide) h.fl.w0,hc _ _ _ (by decide) h.fl.w1⟩,h.ne,hl⟩
theorem FO.grows (h:FO ob kp cw cv tb i x y v) (g:Grows v v'):FO ob kp cw cv tb i x y v':=h.gx (Gx.of g) (grows_at g h.hcw) (grows_at g h.hcv)
theorem FO.setw (h:FO ob kp cw cv tb i x y v) (f:Fto tb cw x' v v'):FO ob kp cw cv tb i x' y v':=h.gx (Gx.fto f (.inl rfl)) f.fm.cel (by rw [f.old cv h.ne.symm];exact h.hcv)
theorem FO.setv (h:FO ob kp cw cv tb i x y v) (f:Fto tb cv y' v v'):FO ob kp cw cv tb i x y' v':=h.gx (Gx.fto f (.inr rfl)) (by rw [f.old cw h.ne];exact h.hcw) f.fm.cel
theorem FO.back (h0:FO ob kp cw cv tb i x y v) (g:Gx cw cv v u) (hw:u.heap[cw]? = some (.cells #[I 0,I x'] 158 (0,0))) (hv:u.heap[cv]? = some (.cells #[I 0,I y'] 158 (0,0))) (hr:v.heap.size≤rb):FO ob kp cw cv tb i x' y' (ansW u rb e a) :=
 h0.gx (g.ans hr) (by rw [ans_far _ _ _ _ _ (by have:=blt h0.hcw;omega)];exact hw) (by rw [ans_far _ _ _ _ _ (by have:=blt h0.hcv;omega)];exact hv)
theorem ans_at {o:Obj} {b:Nat} (h:u.heap[b]? = some o) (hb:b≠rb):(ansW u rb e a).heap[b]? = some o:=by rw [ans_far _ _ _ _ _ hb];exact h
end
section
variable {Ch:Nat→Prop} {Stop:Goroutine→World→Prop} {main:Bool} {v w:World} {ob kp cw cv tb i:Nat} {x y kd b:Int}
abbrev gAt (kp tb b3 b4 b5 rb:Nat) (x:Int) (a:Act):Prop:=Fl 62 [(0,Pt kp 0),(1,Pt tb 0),(2,.func (.func 65) #[] #[Pt b3 0,Pt b4 0,Pt b5 0]),(6,Pt rb 0),(7,I x),(16,I (R1.stI x))] a
theorem fdo_in (hF:FO ob kp cw cv tb i x y v) (cs:List Frame) (hvw:Rel zn v w) (hn:NoRow Ch v)
 (hk:∀ v' w' (a a1:Act) (o1:Oper) (b3 b4 b5 rG rD:Nat),Rel zn v' w'→NoRow Ch v'→Grows v v'→v'.heap[b3]? = some (.cells #[Pt ob 0] 46 (0,0))→v'.heap[b4]? = some (.cells #[Pt tb 0] 48 (0,0))→v'.heap[b5]? = some (.cells #[I kd,I b] 52 (0,0))→v.heap.size≤b3∧v.heap.size≤b4∧v.heap.size≤b5→v'.heap[rG]? = some zeroA→v'.heap[rD]? = some zeroA→v.heap.size≤rD→rD<rG→dO1[6]? = some o1→o1.dst=some 13→Fl 14 [(6,Pt rD 0)] a1→gAt kp tb b3 b4 b5 rG x a →
   GoesI Tryd.prog main (DT (ScZ zn) Ch) Stop (G (gSw a) ((base 28).at a1 (.inRegion dO1 [6,7] :: [.code .ret]) :: cs)) w') (code:Code) (hc:Tryd.f28.body=some code) :
 GoesI Tryd.prog main (DT (ScZ zn) Ch) Stop (G ((base 28).at { tmps:=#[Pt ob 0,Pt tb 0,.agg #[I kd,I b]]++Array.replicate 11 undef,defers:=[] } [.code code]) cs) w:=by
 refine do_in (cell_of hF.hob rfl) _ hvw hn (fun a1 v1 w1 o1 hA1 r1 n1 g1 e3 e4 e5 e6 ho1 hd1 code1 hc1=>?_) code hc
 refine get_in _ r1 n1 (fun a2 v2 w2 hA2 r2 n2 g2 hz2=>?_) code1 hc1
 have F2:=(hF.grows g1).grows g2
 refine fget_look (cell_of F2.hkp rfl) hA2 _ r2 n2 F2.fmw (fun a3 v3 w3 hA3 r3 n3 f3=>?_)
 have g3:=grows_of_fto f3 F2.fmw
 have F3:=F2.grows g3
 refine get_st F3.fl hA3 _ r3 n3 (fun a4 v4 w4 hA4 r4 n4 g4=>?_)
 have g24:=gtrans g3 g4
 have g14:=gtrans g2 g24
 have hs:=blt e6
 exact hk v4 w4 a4 a1 o1 v.heap.size (v.heap.size+1) (v.heap.size+2) v1.heap.size (v.heap.size+3) r4 n4 (gtrans g1 g14) (grows_at g14 e3) (grows_at g14 e4) (grows_at g14 e5) ⟨by omega,by omega,by omega⟩ (grows_at g24 hz2) (grows_at g14 e6) (by omega) hs ho1 hd1 hA1 hA4
theorem fdo_done (hF:FO ob kp cw cv tb i x y v) (hx:R1.stI x=2) {bc:Frame} {ac:Act} {ops:Array Oper} {q:Nat} {rest:List Nat} {oc:Oper} {k0:List Item} (cs:List Frame) (hoc:ops[q]? = some oc) (hvw:Rel zn v w) (hn:NoRow Ch v)
 (hk:∀ v' w',Rel zn v' w'→NoRow Ch v'→Grows v v'→GoesI Tryd.prog main (DT (ScZ zn) Ch) Stop (G (bc.at (ac.put oc.dst (.agg #[I (R1.codI x),I y])) (.inRegion ops rest :: k0)) cs) w') (code:Code) (hc:Tryd.f28.body=some code) :
 GoesI Tryd.prog main (DT (ScZ zn) Ch) Stop (G ((base 28).at { tmps:=#[Pt ob 0,Pt tb 0,.agg #[I kd,I b]]++Array.replicate 11 undef,defers:=[] } [.code code]) (bc.at ac (.inRegion ops (q :: rest) :: k0) :: cs)) w:=by
 refine fdo_in hF _ hvw hn (fun v1 w1 a a1 o1 b3 b4 b5 rG rD r1 n1 g1 e3 e4 e5 _ hG hD l1 l2 ho1 hd1 hA1 hA=>?_) code hc
 have F1:=hF.grows g1
 refine fget_done hx F1.fl (cell_of F1.hkp rfl) hA _ r1 n1 F1.fmv (fun a2 v2 v3 w3 hA2 r3 n3 g2 f3=>?_)
 have g3:=gtrans g2 (grows_of_fto f3 (F1.grows g2).fmv)
 refine get_val (bc:=base 28) (ac:=a1) (ops:=dO1) (q:=6) (rest:=[7]) (oc:=o1) (k0:=[.code .ret]) hA2 _ ho1 (grows_at g3 hG) r3 n3 (fun w4 r4 n4=>?_)
 rw [hd1]
 exact do_back hA1 cs hoc (ans_at (grows_at g3 hD) (by omega)) r4 n4 (fun w5 r5 n5=>hk _ w5 r5 n5 (grows_ans (grows_ans (gtrans g1 g3) (by omega)) l1))
theorem fdo_again (hF:FO ob kp cw cv tb i x y v) (hx2:R1.stI x≠2) (hx0:R1.stI x≠0) (hwho:R1.whoI x=i) {bc:Frame} {ac:Act} {ops:Array Oper} {q:Nat} {rest:List Nat} {oc:Oper} {k0:List Item} (cs:List Frame) (hoc:ops[q]? = some oc) (hvw:Rel zn v w) (hn:NoRow Ch v)
 (hk:∀ v' w',Rel zn v' w'→NoRow Ch v'→Grows v v'→GoesI Tryd.prog main (DT (ScZ zn) Ch) Stop (G (bc.at (ac.put oc.dst (.agg #[I 72,I 0])) (.inRegion ops rest :: k0)) cs) w') (code:Code) (hc:Tryd.f28.body=some code) :
 GoesI Tryd.prog main (DT (ScZ zn) Ch) Stop (G ((base 28).at { tmps:=#[Pt ob 0,Pt tb 0,.agg #[I kd,I b]]++Array.replicate 11 undef,defers:=[] } [.code code]) (bc.at ac (.inRegion ops (q :: rest) :: k0) :: cs)) w:=by
 refine fdo_in hF _ hvw hn (fun v1 w1 a a1 o1 b3 b4 b5 rG rD r1 n1 g1 e3 e4 e5 _ hG hD l1 l2 ho1 hd1 hA1 hA=>?_) code hc
 have F1:=hF.grows g1
 refine get_again (bc:=base 28) (ac:=a1) (ops:=dO1) (q:=6) (rest:=[7]) (oc:=o1) (k0:=[.code .ret]) hx2 hx0 hwho F1.fl (cell_of F1.htb rfl) hA _ ho1 hG r1 n1 (fun v2 w2 r2 n2 g2 w4 r4 n4=>?_)
 rw [hd1]
 exact do_back hA1 cs hoc (ans_at (grows_at g2 hD) (by omega)) r4 n4 (fun w5 r5 n5=>hk _ w5 r5 n5 (grows_ans (grows_ans (gtrans g1 g2) (by omega)) l1))
def cmF (kd b:Int):Int×Int:=if kd=0 then (0,b) else if kd=1 then (70,b) else if kd=2 then (71,b) else if kd=3 then (70,72) else (1,0)
theorem cmF_small (kd b:Int):(0≤(cmF kd b).1∧(cmF kd b).1<1048576)∧(cmF kd b).1≠4:=by
 unfold cmF
 repeat' split
 all_goals simp
theorem fcome (hF:FO ob kp cw cv tb i x y v) (hx2:R1.stI x≠2) (hx0:R1.stI x≠0) (hwho:R1.whoI x=i) {bc:Frame} {ac:Act} {ops:Array Oper} {q:Nat} {rest:List Nat} {oc:Oper} {k0:List Item} (cs:List Frame) (hoc:ops[q]? = some oc) (hvw:Rel zn v w) (hn:NoRow Ch v)
 (hk:∀ v' w',Rel zn v' w'→NoRow Ch v'→Grows v v'→GoesI Tryd.prog main (DT (ScZ zn) Ch) Stop (G (bc.at (ac.put oc.dst (.agg #[I (cmF kd b).1,I (cmF kd b).2])) (.inRegion ops rest :: k0)) cs) w') (code:Code) (hc:Tryd.f66.body=some code) :
 GoesI Tryd.prog main (DT (ScZ zn) Ch) Stop (G ((base 66).at { tmps:=#[Pt ob 0,Pt tb 0,.agg #[I kd,I b]]++Array.replicate 31 undef,defers:=[] } [.code code]) (bc.at ac (.inRegion ops (q :: rest) :: k0) :: cs)) w:=by
 unfold cmF at hk
 by_cases h0:kd=0
 ·rw [if_pos h0] at hk
  exact come0 h0 cs hoc hvw hn hk code hc
 rw [if_neg h0] at hk
 by_cases h1:kd=1
 ·rw [if_pos h1] at hk
  exact come1 h1 cs hoc hvw hn hk code hc
 rw [if_neg h1] at hk
 by_cases h2:kd=2
 ·rw [if_pos h2] at hk
  exact come2 h2 cs hoc hvw hn hk code hc
 rw [if_neg h2] at hk
 by_cases h3:kd=3
 ·rw [if_pos h3] at hk
  refine come3f h3 cs hoc hvw hn (fun v1 w1 bd ad od qd rd oe kd r1 n1 g1 hz1 hoe hback code2 hc2=>?_) code hc
  exact fdo_again (hF.grows g1) hx2 hx0 hwho _ hoe r1 n1 (fun v2 w2 r2 n2 g2=>hback v2 w2 (72,0) r2 n2 (grows_at g2 hz1) (fun w3 r3 n3=>hk _ w3 r3 n3 (grows_ans (gtrans g1 g2) (by omega)))) code2 hc2
 ·rw [if_neg h3] at hk
  exact come4 h0 h1 h2 h3 cs hoc hvw hn hk code hc
theorem fdo_new (hF:FO ob kp cw cv tb i x y v) (hx:R1.stI x=0) (hi:i<256) {bc:Frame} {ac:Act} {ops:Array Oper} {q:Nat} {rest:List Nat} {oc:Oper} {k0:List Item} (cs:List Frame) (hoc:ops[q]? = some oc) (hvw:Rel zn v w) (hn:NoRow Ch v)
 (hk:∀ v' w',Rel zn v' w'→NoRow Ch v'→Gx cw cv v v'→FO ob kp cw cv tb i (R1.wordI 2 0 (cmF kd b).1) (cmF kd b).2 v'→GoesI Tryd.prog main (DT (ScZ zn) Ch) Stop (G (bc.at (ac.put oc.dst (.agg #[I (cmF kd b).1,I (cmF kd b).2])) (.inRegion ops rest :: k0)) cs) w') (code:Code) (hc:Tryd.f28.body=some code) :
 GoesI Tryd.prog main (DT (ScZ zn) Ch) Stop (G ((base 28).at { tmps:=#[Pt ob 0,Pt tb 0,.agg #[I kd,I b]]++Array.replicate 11 undef,defers:=[] } [.code code]) (bc.at ac (.inRegion ops (q :: rest) :: k0) :: cs)) w:=by
 have lw:=blt hF.hcw
 have lv:=blt hF.hcv
 refine fdo_in hF _ hvw hn (fun v1 w1 a a1 o1 b3 b4 b5 rG rD r1 n1 g1 e3 e4 e5 lb hG hD l1 l2 ho1 hd1 hA1 hA=>?_) code hc
 have F1:=hF.grows g1
 have s1:=g1.size
 refine fget_new hx F1.fl (cell_of F1.hkp rfl) (cell_of F1.htb rfl) hA _ r1 n1 F1.fmw (fun a2 v2 v3 w3 hA2 r3 n3 g2 f3=>?_)
 have F3:=(F1.grows g2).setw f3
 have x3:Gx cw cv v1 v3:=(Gx.of g2).trans (Gx.fto f3 (.inl rfl))
 refine get_won hA2 _ (fun a4 o4 hA4 ho4 hd4 code4 hc4=>?_)
 refine clo_in (x3.at e3 (by omega) (by omega)) (x3.at e4 (by omega) (by omega)) (x3.at e5 (by omega) (by omega)) _ r3 n3 (fun a5 v5 w5 o5 hA5 r5 n5 g5 hz5 ho5 hd5 code5 hc5=>?_) code4 hc4
 have F5:=F3.grows g5
 have l3:=x3.size
 have hst:R1.stI (R1.wordI 1 i 0)=1:=R1.st_word (by decide) (by decide)
 refine fcome (bc:=base 65) (ac:=a5) (ops:=cO1) (q:=3) (rest:=[4]) (oc:=o5) (k0:=[.code .ret]) F5 (by rw [hst];decide) (by rw [hst];decide) (R1.who_word (by decide) (by decide) (by omega) (by omega) (by decide) (by decide)) _ ho5 r5 n5 (fun v6 w6 r6 n6 g6=>?_) code5 hc5
 obtain ⟨hsm,hs4⟩:=cmF_small kd b
 generalize hce:(cmF kd b).1=e at hsm hs4 hk ⊢
 generalize hcy:(cmF kd b).2=z at hk ⊢
 rw [hd5]
 refine clo_back (bc:=base 64) (ac:=a4) (ops:=gO11) (q:=3) (rest:=[4,5]) (oc:=o4) (k0:=[.code .ret,.inBlock 2,.inBlock 1,.inLoop gL,.inBlock 0]) hA5 _ ho4 (grows_at g6 hz5) r6 n6 (fun w7 r7 n7=>?_)
 rw [hd4]
 have g37:Grows v3 (ansW v6 v3.heap.size e z):=grows_ans (gtrans g5 g6) (Nat.le_refl _)
 generalize hv7:ansW v6 v3.heap.size e z=v7 at r7 n7 g37
 have F7:=F3.grows g37
 have x7:Gx cw cv v1 v7:=x3.trans (Gx.of g37)
 refine get_came hA4 _ (fun a8 o8 hA8 ho8 hd8 code8 hc8=>?_)
 refine keep_in hs4 _ r7 n7 (fun a9 v9 w9 hA9 r9 n9 g9 hbx hrk=>?_) code8 hc8
 have F9:=F7.grows g9
 have l7:=x7.size
 have l9:=blt hrk
 refine fkeep_store (cell_of F9.hkp rfl) (cell_of hbx rfl) hA9 _ r9 n9 F9.fmv (fun a10 v10 v11 w11 hA10 r11 n11 g10 f11=>?_)
 have F11:=(F9.grows g10).setv f11
 have x11:Gx cw cv v9 v11:=(Gx.of g10).trans (Gx.fto f11 (.inr rfl))
 refine fkeep_word F11.fl (cell_of F11.hkp rfl) (cell_of (x11.at hbx (by omega) (by omega)) rfl) hA10 _ _ r11 n11 F11.fmw (fun a12 v12 v13 w13 hA12 r13 n13 g12 f13=>?_)
 have F13:=(F11.grows g12).setw f13
 have x13:Gx cw cv v9 v13:=x11.trans ((Gx.of g12).trans (Gx.fto f13 (.inl rfl)))
 have y13:Gx cw cv v1 v13:=x7.trans ((Gx.of g9).trans x13)
 refine keep_out (bc:=base 64) (ac:=a8) (ops:=gO11) (q:=4) (rest:=[5]) (oc:=o8) (k0:=[.code .ret,.inBlock 2,.inBlock 1,.inLoop gL,.inBlock 0]) hA12 _ _ ho8 (x13.at hbx (by omega) (by omega)) (x13.at hrk (by omega) (by omega)) r13 n13 (fun w14 r14 n14=>?_)
 rw [hd8]
 have lG:=blt hG
 refine get_kept (bc:=base 28) (ac:=a1) (ops:=dO1) (q:=6) (rest:=[7]) (oc:=o1) (k0:=[.code .ret]) hA8 _ ho1 (ans_at (y13.at hG (by omega) (by omega)) (by omega)) r14 n14 (fun w15 r15 n15=>?_)
 rw [hd1]
 refine do_back hA1 cs hoc (ans_at (ans_at (y13.at hD (by omega) (by omega)) (by omega)) (by omega)) r15 n15 (fun w16 r16 n16=>hk _ w16 r16 n16 ?_ ?_)
 ·exact (((((Gx.of g1).trans y13)).ans (by omega)).ans (by omega)).ans l1
 ·exact hF.back ((((Gx.of g1).trans y13).ans (by omega)).ans (by omega)) (ans_at (ans_at F13.hcw (by omega)) (by omega)) (ans_at (ans_at F13.hcv (by omega)) (by omega)) l1
end
theorem goesI_retZ {Ch:Nat→Prop} {Stop:Goroutine→World→Prop} {main:Bool} {f:FuncId} {c:Code} {act:Act} {more:List Item} {cs:List Frame} {v w:World} {Q:Act→World→Prop} (hvw:Rel zn v w) (hn:NoRow Ch v) (hc:fineCode Tryd.prog true LV c) (ha:act.defers=[])
 (hwp:∀ τ,c.wp Tryd.prog (fun e a w'=>e=.ret∧Q a w') act (onTape v τ 0))
 (h:∀ a' v' w' todo,Q a' v'→a'.defers=[]→Rel zn v' w'→NoRow Ch v'→GoesI Tryd.prog main (DT (ScZ zn) Ch) Stop (G { (base f).at a' todo with mode:=.returning } cs) w') :
 GoesI Tryd.prog main (DT (ScZ zn) Ch) Stop (G ((base f).at act (.code c :: more)) cs) w:=by
 have hfin:=lift_code (P:=Tryd.prog) (z:=zn) (wr:=true) (L:=LV) (D:=DT (ScZ zn) Ch) (I:=NoRow Ch) (main:=main) (b:=base f) (k:=more) (cs:=cs) hE fineV noRow_keeps (fun v v' w w' es hi hr ho he=>dt_of_z v v' w w' es hi hr ho he) hvw hc ha (by simp [base]) hn
  (Q:=fun e a w'=>e=.ret∧Q a w') hwp (fun e a w hq=>.inr hq.1)
 refine hfin.then ?_
 rintro g w' ⟨a',v',hr,hiv,hd,⟨⟨hq,_⟩,_⟩|⟨⟨_,hQ⟩,todo,rfl⟩⟩
 ·cases hq
 ·exact h a' v' w' todo hQ hd hr hiv
theorem _root_.Go.Proofs.YtfjjoohflcchnaaDoor.Grows.toAt {W v w:World} (h:Grows W v) (hr:Rel zn v w) (d:Nat):Grows W (w.at d):=by
 have e:(w.at d).heap=v.heap:=hr.eq
 exact ⟨by rw [e];exact h.size,fun b hb=>by rw [e];exact h.old b hb,hr.os.trans h.os,hr.output.trans h.output⟩
theorem _root_.Go.Proofs.YtfjjoohflcchnaaDoor.Grows.andThen {W v w:World} (h:Grows W v) (k:Grows v w):Grows W w:=⟨Nat.le_trans h.size k.size,fun b hb=>by rw [k.old b (by have:=h.size;omega),h.old b hb],k.os.trans h.os,k.output.trans h.output⟩
def PostT (W:World) (r:Value) (w':World):Prop:=r=.bool true∧Grows W w'
structure NwO (v w':World):Prop where
 kp:w'.heap[v.heap.size]? = some (.cells #[Pt (v.heap.size+1) 0,Pt (v.heap.size+2) 0] 146 (0,0))
 cw:w'.heap[v.heap.size+1]? = some (.cells #[I 0,I 0] 158 (0,0))
 cv:w'.heap[v.heap.size+2]? = some (.cells #[I 0,I 0] 158 (0,0))
 ob:w'.heap[v.heap.size+3]? = some (.cells #[Pt v.heap.size 0] 105 (0,0))
 g:Grows v w'
theorem keptN (v:World):Calls Tryd.prog 63 #[.pointer none] v (fun e w'=>e=.returned (Pt v.heap.size 0)∧w'.heap.size=v.heap.size+3∧w'.heap[v.heap.size]? = some (.cells #[Pt (v.heap.size+1) 0,Pt (v.heap.size+2) 0] 146 (0,0))∧w'.heap[v.heap.size+1]? = some (.cells #[I 0,I 0] 158 (0,0))∧w'.heap[v.heap.size+2]? = some (.cells #[I 0,I 0] 158 (0,0))∧Hid (Grows v w')):=by
 have HB:Hid (∀ u,Calls Tryd.prog 70 #[.pointer none,I 0] u (fun e w'=>∃ r,e=.returned r∧(r=Pt u.heap.size 0∧w'.heap=u.heap.push (.cells #[I 0,I 0] 158)∧w'.os=u.os∧w'.output=u.output))):=⟨fun u=>(body10n u 0).calls Tryd.func70 rfl⟩
 go_enter Tryd.func63,Tryd.ntmps63
 go_wp2_with fail
 refine (HB.out _).mono ?_
 rintro e w1 ⟨r,rfl,rfl,h1,o1,u1⟩
 have s1:(v.alloc (.cells #[.pointer none,.pointer none] 146)).heap.size=v.heap.size+1:=by simp
 rw [s1]
 have k1:w1.heap[v.heap.size]? = some (.cells #[.pointer none,.pointer none] 146 (0,0)):=by
  rw [h1,Array.getElem?_push,if_neg (by simp)];exact Array.getElem?_push_size
 have c1:w1.heap[v.heap.size+1]? = some (.cells #[I 0,I 0] 158 (0,0)):=by rw [h1,Array.getElem?_push,if_pos (by simp)]
 have z1:w1.heap.size=v.heap.size+2:=by rw [h1];simp
 have g1:Hid (Grows v w1):=⟨⟨by omega,fun b hb=>by rw [h1,Array.getElem?_push,if_neg (by simp;omega)];show (v.heap.push _)[b]? = _;rw [Array.getElem?_push,if_neg (by omega)],o1,u1⟩⟩
 have p0:w1.cell? ⟨v.heap.size,0,none⟩=some (.pointer none):=by simp [World.cell?,k1]
 have f0:w1.frozen? ⟨v.heap.size,0,none⟩=false:=by simp [World.frozen?,k1]
 have K1:Hid (w1.heap[v.heap.size]? = some (.cells #[.pointer none,.pointer none] 146 (0,0))∧w1.heap[v.heap.size+1]? = some (.cells #[I 0,I 0] 158 (0,0))∧w1.heap.size=v.heap.size+2∧Grows v w1):=⟨⟨k1,c1,z1,g1.out⟩⟩
 clear h1 o1 u1 s1 k1 c1 z1 g1
 generalize hN:v.heap.size=N at p0 f0 K1 ⊢
 have HN:Hid (v.heap.size=N):=⟨hN⟩
 clear hN
 go_wp2_with fail
 refine (HB.out _).mono ?_
 rintro e w2 ⟨r,rfl,rfl,h2,o2,u2⟩
 obtain ⟨k1,c1,z1,g1⟩:=K1.out
 have h2:w2.heap=(w1.setCell ⟨N,0,none⟩ (Pt (N+1) 0)).heap.push (.cells #[I 0,I 0] 158):=h2
 have hk:=heap_setCell_same (o:=0) k1 (Pt (N+1) 0)
 have ho:∀ b,b≠N→(w1.setCell ⟨N,0,none⟩ (Pt (N+1) 0)).heap[b]? = w1.heap[b]?:=fun b hb=>Below.heap_setCell _ _ _ _ hb
 have sz:(w1.setCell ⟨N,0,none⟩ (Pt (N+1) 0)).heap.size=N+2:=by simpa [World.setCell] using z1
 rw [sz]
 have k2:w2.heap[N]? = some (.cells #[Pt (N+1) 0,.pointer none] 146 (0,0)):=by
  rw [h2,Array.getElem?_push,if_neg (by omega)];simpa using hk
 have c2:w2.heap[N+1]? = some (.cells #[I 0,I 0] 158 (0,0)):=by rw [h2,Array.getElem?_push,if_neg (by omega),ho _ (by omega)];exact c1
 have d2:w2.heap[N+2]? = some (.cells #[I 0,I 0] 158 (0,0)):=by rw [h2,Array.getElem?_push,if_pos (by omega)]
 have z2:w2.heap.size=N+3:=by rw [h2];simp;omega
 have p1:w2.cell? ⟨N,1,none⟩=some (.pointer none):=by simp [World.cell?,k2]
 have f1:w2.frozen? ⟨N,1,none⟩=false:=by simp [World.frozen?,k2]
 have KK:Hid ((w2.setCell ⟨N,1,none⟩ (Pt (N+2) 0)).heap.size=N+3∧(w2.setCell ⟨N,1,none⟩ (Pt (N+2) 0)).heap[N]? = some (.cells #[Pt (N+1) 0,Pt (N+2) 0] 146 (0,0))∧(w2.setCell ⟨N,1,none⟩ (Pt (N+2) 0)).heap[N+1]? = some (.cells #[I 0,I 0] 158 (0,0))∧(w2.setCell ⟨N,1,none⟩ (Pt (N+2) 0)).heap[N+2]? = some (.cells #[I 0,I 0] 158 (0,0))∧Grows v (w2.setCell ⟨N,1,none⟩ (Pt (N+2) 0))):=⟨by
  have hk2:=heap_setCell_same (o:=1) k2 (Pt (N+2) 0)
  have ho2:∀ b,b≠N→(w2.setCell ⟨N,1,none⟩ (Pt (N+2) 0)).heap[b]? = w2.heap[b]?:=fun b hb=>Below.heap_setCell _ _ _ _ hb
  refine ⟨by simpa [World.setCell] using z2,by simpa using hk2,by rw [ho2 _ (by omega)];exact c2,by rw [ho2 _ (by omega)];exact d2,⟨by have:=g1.size;have:=HN.out;simp [World.setCell];omega,fun b hb=>?_,o2.trans g1.os,u2.trans g1.output⟩⟩
  have:=HN.out
  rw [ho2 b (by omega),h2,Array.getElem?_push,if_neg (by omega),ho b (by omega)]
  exact g1.old b hb⟩
 clear h2 o2 u2 hk ho sz k2 c2 d2 z2 k1 c1 z1 g1
 go_wp2_with fail
 go_ret
 have e1:=HN.out
 obtain ⟨q1,q2,q3,q4,q5⟩:=KK.out
 rw [e1]
 exact ⟨rfl,q1,q2,q3,q4,⟨q5⟩⟩
theorem onceN (v:World):Calls Tryd.prog 25 #[.pointer none] v (fun e w'=>e=.returned (Pt (v.heap.size+3) 0)∧Hid (NwO v w')):=by
 have HC:=Hid.mk (keptN v)
 go_enter Tryd.func25,Tryd.ntmps25
 go_wp2_with fail
 refine HC.out.mono ?_
 rintro e w1 ⟨rfl,z1,k1,k2,k3,g⟩
 have HN:Hid (NwO v (w1.alloc (.cells #[Pt v.heap.size 0] 105))):=⟨by
  have ho:∀ b,b<w1.heap.size→(w1.alloc (.cells #[Pt v.heap.size 0] 105)).heap[b]? = w1.heap[b]?:=fun b hb=>by
   show (w1.heap.push _)[b]? = _
   rw [Array.getElem?_push,if_neg (by omega)]
  refine ⟨by rw [ho _ (by omega)];exact k1,by rw [ho _ (by omega)];exact k2,by rw [ho _ (by omega)];exact k3,?_,gtrans g.out ⟨by simp,ho,rfl,rfl⟩⟩
  show (w1.heap.push _)[v.heap.size+3]? = _
  rw [←z1]
  exact Array.getElem?_push_size⟩
 have Hz:Hid (w1.heap.size=v.heap.size+3):=⟨z1⟩
 clear z1 k1 k2 k3 g HC
 go_wp2_with fail
 go_ret
 exact ⟨by rw [←Hz.out];rfl,HN⟩
theorem acts1 (v:World) (b:Int):Calls Tryd.prog 21 #[I 1,I b] v (fun e w'=>e=.returned (.agg #[I 0,I b])∧Hid (Grows v w')):=by
 go_enter Tryd.func21,Tryd.ntmps21
 go_wp2_with fail
 have hrow:(v.alloc (.cells #[I 0,I b] 38)).heap[v.heap.size]? = some (.cells #[I 0,I b] 38 (0,0)):=Array.getElem?_push_size
 have k0:(v.alloc (.cells #[I 0,I b] 38)).cell? ⟨v.heap.size,0,none⟩=some (I 0):=cell_of hrow rfl
 have k1:(v.alloc (.cells #[I 0,I b] 38)).cell? ⟨v.heap.size,1,none⟩=some (I b):=cell_of hrow rfl
 refine ⟨rfl,.agg #[I 0,I b],?_,rfl,⟨⟨by simp,fun b hb=>by show (v.heap.push _)[b]? = _;rw [Array.getElem?_push,if_neg (by omega)],rfl,rfl⟩⟩⟩
 show (results Tryd.f21 _).run Tryd.prog (v.alloc (.cells #[I 0,I b] 38))=_
 generalize v.alloc (.cells #[I 0,I b] 38)=V at k0 k1
 simp [results,go_sem,Tryd.f21, *]
theorem acts2 (v:World) (b:Int):Calls Tryd.prog 21 #[I 2,I b] v (fun e w'=>e=.returned (.agg #[I 70,I b])∧Hid (Grows v w')):=by
 go_enter Tryd.func21,Tryd.ntmps21
 go_wp2_with fail
 have hrow:(v.alloc (.cells #[I 70,I b] 38)).heap[v.heap.size]? = some (.cells #[I 70,I b] 38 (0,0)):=Array.getElem?_push_size
 have k0:(v.alloc (.cells #[I 70,I b] 38)).cell? ⟨v.heap.size,0,none⟩=some (I 70):=cell_of hrow rfl
 have k1:(v.alloc (.cells #[I 70,I b] 38)).cell? ⟨v.heap.size,1,none⟩=some (I b):=cell_of hrow rfl
 refine ⟨rfl,.agg #[I 70,I b],?_,rfl,⟨⟨by simp,fun b hb=>by show (v.heap.push _)[b]? = _;rw [Array.getElem?_push,if_neg (by omega)],rfl,rfl⟩⟩⟩
 show (results Tryd.f21 _).run Tryd.prog (v.alloc (.cells #[I 70,I b] 38))=_
 generalize v.alloc (.cells #[I 70,I b] 38)=V at k0 k1
 simp [results,go_sem,Tryd.f21, *]
theorem acts3 (v:World) (b:Int):Calls Tryd.prog 21 #[I 3,I b] v (fun e w'=>e=.returned (.agg #[I 71,I b])∧Hid (Grows v w')):=by
 go_enter Tryd.func21,Tryd.ntmps21
 go_wp2_with fail
 have hrow:(v.alloc (.cells #[I 71,I b] 38)).heap[v.heap.size]? = some (.cells #[I 71,I b] 38 (0,0)):=Array.getElem?_push_size
 have k0:(v.alloc (.cells #[I 71,I b] 38)).cell? ⟨v.heap.size,0,none⟩=some (I 71):=cell_of hrow rfl
 have k1:(v.alloc (.cells #[I 71,I b] 38)).cell? ⟨v.heap.size,1,none⟩=some (I b):=cell_of hrow rfl
 refine ⟨rfl,.agg #[I 71,I b],?_,rfl,⟨⟨by simp,fun b hb=>by show (v.heap.push _)[b]? = _;rw [Array.getElem?_push,if_neg (by omega)],rfl,rfl⟩⟩⟩
 show (results Tryd.f21 _).run Tryd.prog (v.alloc (.cells #[I 71,I b] 38))=_
 generalize v.alloc (.cells #[I 71,I b] 38)=V at k0 k1
 simp [results,go_sem,Tryd.f21, *]
theorem acts4 (v:World) (b:Int):Calls Tryd.prog 21 #[I 4,I b] v (fun e w'=>e=.returned (.agg #[I 70,I 72])∧Hid (Grows v w')):=by
 go_enter Tryd.func21,Tryd.ntmps21
 go_wp2_with fail
 have hrow:(v.alloc (.cells #[I 70,I 72] 38)).heap[v.heap.size]? = some (.cells #[I 70,I 72] 38 (0,0)):=Array.getElem?_push_size
 have k0:(v.alloc (.cells #[I 70,I 72] 38)).cell? ⟨v.heap.size,0,none⟩=some (I 70):=cell_of hrow rfl
 have k1:(v.alloc (.cells #[I 70,I 72] 38)).cell? ⟨v.heap.size,1,none⟩=some (I 72):=cell_of hrow rfl
 refine ⟨rfl,.agg #[I 70,I 72],?_,rfl,⟨⟨by simp,fun b hb=>by show (v.heap.push _)[b]? = _;rw [Array.getElem?_push,if_neg (by omega)],rfl,rfl⟩⟩⟩
 show (results Tryd.f21 _).run Tryd.prog (v.alloc (.cells #[I 70,I 72] 38))=_
 generalize v.alloc (.cells #[I 70,I 72] 38)=V at k0 k1
 simp [results,go_sem,Tryd.f21, *]
theorem comes0 (v:World) {kd:Int} (b:Int) (hkd:kd=0):Calls Tryd.prog 27 #[.agg #[I kd,I b]] v (fun e w'=>e=.returned (.agg #[I 0,I b])∧Hid (Grows v w')):=by
 subst hkd
 have HA:Hid (∀ u,Calls Tryd.prog 21 #[I 1,I b] u (fun e w'=>e=.returned (.agg #[I 0,I b])∧Hid (Grows u w'))):=⟨fun u=>acts1 u b⟩
 go_enter Tryd.func27,Tryd.ntmps27
 go_wp2_with fail
 refine (HA.out _).mono ?_
 rintro e w1 ⟨rfl,g1⟩
 have r1:w1.heap[v.heap.size+1]? = some (.cells #[I 0,I 0] 38 (0,0)):=by
  rw [g1.out.old _ (by show _<((v.heap.push _).push _).size;simp)]
  show ((v.heap.push _).push _)[v.heap.size+1]? = _
  rw [Array.getElem?_push,if_pos (by simp)]
 have g0:Grows v w1:=gtrans (v':=(v.alloc _).alloc _) ⟨by show _≤((v.heap.push _).push _).size;simp;omega,fun b hb=>by
  show ((v.heap.push _).push _)[b]? = _
  simp only [Array.getElem?_push,Array.size_push]
  repeat rw [if_neg (by omega)],rfl,rfl⟩ g1.out
 have p0:w1.cell? ⟨v.heap.size+1,0,none⟩=some (I 0):=by simp [World.cell?,r1]
 have p1:w1.cell? ⟨v.heap.size+1,1,none⟩=some (I 0):=by simp [World.cell?,r1]
 have f0:w1.frozen? ⟨v.heap.size+1,0,none⟩=false:=by simp [World.frozen?,r1]
 have f1:w1.frozen? ⟨v.heap.size+1,1,none⟩=false:=by simp [World.frozen?,r1]
 have hrow:=ans_row r1 (0) (b)
 have HR:Hid ((ansW w1 (v.heap.size+1) (0) (b)).heap[v.heap.size+1]? = some (.cells #[I (0),I (b)] 38 (0,0))∧Grows v (ansW w1 (v.heap.size+1) (0) (b))):=⟨⟨hrow,grows_ans g0 (by omega)⟩⟩
 clear hrow r1 g0 g1 HA
 go_wp2_with fail
 obtain ⟨hrow,hg⟩:=HR.out
 have k0:(ansW w1 (v.heap.size+1) (0) (b)).cell? ⟨v.heap.size+1,0,none⟩=some (I (0)):=cell_of hrow rfl
 have k1:(ansW w1 (v.heap.size+1) (0) (b)).cell? ⟨v.heap.size+1,1,none⟩=some (I (b)):=cell_of hrow rfl
 refine ⟨rfl,.agg #[I 0,I b],?_,rfl,⟨hg⟩⟩
 show (results Tryd.f27 _).run Tryd.prog (ansW w1 (v.heap.size+1) (0) (b))=.ok (.agg #[I 0,I b]) (ansW w1 (v.heap.size+1) (0) (b))
 generalize (ansW w1 (v.heap.size+1) (0) (b))=V at k0 k1
 simp [results,go_sem,Tryd.f27,k0,k1]
theorem comes1 (v:World) {kd:Int} (b:Int) (hkd:kd=1):Calls Tryd.prog 27 #[.agg #[I kd,I b]] v (fun e w'=>e=.returned (.agg #[I 70,I b])∧Hid (Grows v w')):=by
 subst hkd
 have HA:Hid (∀ u,Calls Tryd.prog 21 #[I 2,I b] u (fun e w'=>e=.returned (.agg #[I 70,I b])∧Hid (Grows u w'))):=⟨fun u=>acts2 u b⟩
 go_enter Tryd.func27,Tryd.ntmps27
 go_wp2_with fail
 refine (HA.out _).mono ?_
 rintro e w1 ⟨rfl,g1⟩
 have r1:w1.heap[v.heap.size+1]? = some (.cells #[I 0,I 0] 38 (0,0)):=by
  rw [g1.out.old _ (by show _<((v.heap.push _).push _).size;simp)]
  show ((v.heap.push _).push _)[v.heap.size+1]? = _
  rw [Array.getElem?_push,if_pos (by simp)]
 have g0:Grows v w1:=gtrans (v':=(v.alloc _).alloc _) ⟨by show _≤((v.heap.push _).push _).size;simp;omega,fun b hb=>by
  show ((v.heap.push _).push _)[b]? = _
  simp only [Array.getElem?_push,Array.size_push]
  repeat rw [if_neg (by omega)],rfl,rfl⟩ g1.out
 have p0:w1.cell? ⟨v.heap.size+1,0,none⟩=some (I 0):=by simp [World.cell?,r1]
 have p1:w1.cell? ⟨v.heap.size+1,1,none⟩=some (I 0):=by simp [World.cell?,r1]
 have f0:w1.frozen? ⟨v.heap.size+1,0,none⟩=false:=by simp [World.frozen?,r1]
 have f1:w1.frozen? ⟨v.heap.size+1,1,none⟩=false:=by simp [World.frozen?,r1]
 have hrow:=ans_row r1 (70) (b)
 have HR:Hid ((ansW w1 (v.heap.size+1) (70) (b)).heap[v.heap.size+1]? = some (.cells #[I (70),I (b)] 38 (0,0))∧Grows v (ansW w1 (v.heap.size+1) (70) (b))):=⟨⟨hrow,grows_ans g0 (by omega)⟩⟩
 clear hrow r1 g0 g1 HA
 go_wp2_with fail
 obtain ⟨hrow,hg⟩:=HR.out
 have k0:(ansW w1 (v.heap.size+1) (70) (b)).cell? ⟨v.heap.size+1,0,none⟩=some (I (70)):=cell_of hrow rfl
 have k1:(ansW w1 (v.heap.size+1) (70) (b)).cell? ⟨v.heap.size+1,1,none⟩=some (I (b)):=cell_of hrow rfl
 refine ⟨rfl,.agg #[I 70,I b],?_,rfl,⟨hg⟩⟩
 show (results Tryd.f27 _).run Tryd.prog (ansW w1 (v.heap.size+1) (70) (b))=.ok (.agg #[I 70,I b]) (ansW w1 (v.heap.size+1) (70) (b))
 generalize (ansW w1 (v.heap.size+1) (70) (b))=V at k0 k1
 simp [results,go_sem,Tryd.f27,k0,k1]
theorem comes2 (v:World) {kd:Int} (b:Int) (hkd:kd=2):Calls Tryd.prog 27 #[.agg #[I kd,I b]] v (fun e w'=>e=.returned (.agg #[I 71,I b])∧Hid (Grows v w')):=by
 subst hkd
 have HA:Hid (∀ u,Calls Tryd.prog 21 #[I 3,I b] u (fun e w'=>e=.returned (.agg #[I 71,I b])∧Hid (Grows u w'))):=⟨fun u=>acts3 u b⟩
 go_enter Tryd.func27,Tryd.ntmps27
 go_wp2_with fail
 refine (HA.out _).mono ?_
 rintro e w1 ⟨rfl,g1⟩
 have r1:w1.heap[v.heap.size+1]? = some (.cells #[I 0,I 0] 38 (0,0)):=by
  rw [g1.out.old _ (by show _<((v.heap.push _).push _).size;simp)]
  show ((v.heap.push _).push _)[v.heap.size+1]? = _
  rw [Array.getElem?_push,if_pos (by simp)]
 have g0:Grows v w1:=gtrans (v':=(v.alloc _).alloc _) ⟨by show _≤((v.heap.push _).push _).size;simp;omega,fun b hb=>by
  show ((v.heap.push _).push _)[b]? = _
  simp only [Array.getElem?_push,Array.size_push]
  repeat rw [if_neg (by omega)],rfl,rfl⟩ g1.out
 have p0:w1.cell? ⟨v.heap.size+1,0,none⟩=some (I 0):=by simp [World.cell?,r1]
 have p1:w1.cell? ⟨v.heap.size+1,1,none⟩=some (I 0):=by simp [World.cell?,r1]
 have f0:w1.frozen? ⟨v.heap.size+1,0,none⟩=false:=by simp [World.frozen?,r1]
 have f1:w1.frozen? ⟨v.heap.size+1,1,none⟩=false:=by simp [World.frozen?,r1]
 have hrow:=ans_row r1 (71) (b)
 have HR:Hid ((ansW w1 (v.heap.size+1) (71) (b)).heap[v.heap.size+1]? = some (.cells #[I (71),I (b)] 38 (0,0))∧Grows v (ansW w1 (v.heap.size+1) (71) (b))):=⟨⟨hrow,grows_ans g0 (by omega)⟩⟩
 clear hrow r1 g0 g1 HA
 go_wp2_with fail
 obtain ⟨hrow,hg⟩:=HR.out
 have k0:(ansW w1 (v.heap.size+1) (71) (b)).cell? ⟨v.heap.size+1,0,none⟩=some (I (71)):=cell_of hrow rfl
 have k1:(ansW w1 (v.heap.size+1) (71) (b)).cell? ⟨v.heap.size+1,1,none⟩=some (I (b)):=cell_of hrow rfl
 refine ⟨rfl,.agg #[I 71,I b],?_,rfl,⟨hg⟩⟩
 show (results Tryd.f27 _).run Tryd.prog (ansW w1 (v.heap.size+1) (71) (b))=.ok (.agg #[I 71,I b]) (ansW w1 (v.heap.size+1) (71) (b))
 generalize (ansW w1 (v.heap.size+1) (71) (b))=V at k0 k1
 simp [results,go_sem,Tryd.f27,k0,k1]
theorem comes3 (v:World) {kd:Int} (b:Int) (hkd:kd=3):Calls Tryd.prog 27 #[.agg #[I kd,I b]] v (fun e w'=>e=.returned (.agg #[I 70,I 72])∧Hid (Grows v w')):=by
 subst hkd
 have HA:Hid (∀ u,Calls Tryd.prog 21 #[I 4,I b] u (fun e w'=>e=.returned (.agg #[I 70,I 72])∧Hid (Grows u w'))):=⟨fun u=>acts4 u b⟩
 go_enter Tryd.func27,Tryd.ntmps27
 go_wp2_with fail
 refine (HA.out _).mono ?_
 rintro e w1 ⟨rfl,g1⟩
 have r1:w1.heap[v.heap.size+1]? = some (.cells #[I 0,I 0] 38 (0,0)):=by
  rw [g1.out.old _ (by show _<((v.heap.push _).push _).size;simp)]
  show ((v.heap.push _).push _)[v.heap.size+1]? = _
  rw [Array.getElem?_push,if_pos (by simp)]
 have g0:Grows v w1:=gtrans (v':=(v.alloc _).alloc _) ⟨by show _≤((v.heap.push _).push _).size;simp;omega,fun b hb=>by
  show ((v.heap.push _).push _)[b]? = _
  simp only [Array.getElem?_push,Array.size_push]
  repeat rw [if_neg (by omega)],rfl,rfl⟩ g1.out
 have p0:w1.cell? ⟨v.heap.size+1,0,none⟩=some (I 0):=by simp [World.cell?,r1]
 have p1:w1.cell? ⟨v.heap.size+1,1,none⟩=some (I 0):=by simp [World.cell?,r1]
 have f0:w1.frozen? ⟨v.heap.size+1,0,none⟩=false:=by simp [World.frozen?,r1]
 have f1:w1.frozen? ⟨v.heap.size+1,1,none⟩=false:=by simp [World.frozen?,r1]
 have hrow:=ans_row r1 (70) (72)
 have HR:Hid ((ansW w1 (v.heap.size+1) (70) (72)).heap[v.heap.size+1]? = some (.cells #[I (70),I (72)] 38 (0,0))∧Grows v (ansW w1 (v.heap.size+1) (70) (72))):=⟨⟨hrow,grows_ans g0 (by omega)⟩⟩
 clear hrow r1 g0 g1 HA
 go_wp2_with fail
 obtain ⟨hrow,hg⟩:=HR.out
 have k0:(ansW w1 (v.heap.size+1) (70) (72)).cell? ⟨v.heap.size+1,0,none⟩=some (I (70)):=cell_of hrow rfl
 have k1:(ansW w1 (v.heap.size+1) (70) (72)).cell? ⟨v.heap.size+1,1,none⟩=some (I (72)):=cell_of hrow rfl
 refine ⟨rfl,.agg #[I 70,I 72],?_,rfl,⟨hg⟩⟩
 show (results Tryd.f27 _).run Tryd.prog (ansW w1 (v.heap.size+1) (70) (72))=.ok (.agg #[I 70,I 72]) (ansW w1 (v.heap.size+1) (70) (72))
 generalize (ansW w1 (v.heap.size+1) (70) (72))=V at k0 k1
 simp [results,go_sem,Tryd.f27,k0,k1]
theorem comesA (v:World) {kd:Int} (b:Int) (hkd:kd<0):Calls Tryd.prog 27 #[.agg #[I kd,I b]] v (fun e w'=>e=.returned (.agg #[I 1,I 0])∧Hid (Grows v w')):=by
 have h1:decide (kd<0)=true:=decide_eq_true hkd
 go_enter Tryd.func27,Tryd.ntmps27
 have r1:((v.alloc (.cells #[I kd,I b] 52)).alloc (.cells #[I 1,I 0] 38)).heap[v.heap.size+1]? = some (.cells #[I 1,I 0] 38 (0,0)):=by
  show ((v.heap.push _).push _)[v.heap.size+1]? = _
  rw [Array.getElem?_push,if_pos (by simp)]
 have g0:Grows v ((v.alloc (.cells #[I kd,I b] 52)).alloc (.cells #[I 1,I 0] 38)):=⟨by show _≤((v.heap.push _).push _).size;simp;omega,fun b hb=>by
  show ((v.heap.push _).push _)[b]? = _
  simp only [Array.getElem?_push,Array.size_push]
  repeat rw [if_neg (by omega)],rfl,rfl⟩
 have HR:Hid (((v.alloc (.cells #[I kd,I b] 52)).alloc (.cells #[I 1,I 0] 38)).heap[v.heap.size+1]? = some (.cells #[I 1,I 0] 38 (0,0))∧Grows v ((v.alloc (.cells #[I kd,I b] 52)).alloc (.cells #[I 1,I 0] 38))):=⟨⟨r1,g0⟩⟩
 clear r1 g0
 go_wp2_with fail
 obtain ⟨hrow,hg⟩:=HR.out
 have k0:((v.alloc (.cells #[I kd,I b] 52)).alloc (.cells #[I 1,I 0] 38)).cell? ⟨v.heap.size+1,0,none⟩=some (I (1)):=cell_of hrow rfl
 have k1:((v.alloc (.cells #[I kd,I b] 52)).alloc (.cells #[I 1,I 0] 38)).cell? ⟨v.heap.size+1,1,none⟩=some (I (0)):=cell_of hrow rfl
 refine ⟨rfl,.agg #[I 1,I 0],?_,rfl,⟨hg⟩⟩
 show (results Tryd.f27 _).run Tryd.prog ((v.alloc (.cells #[I kd,I b] 52)).alloc (.cells #[I 1,I 0] 38))=.ok (.agg #[I 1,I 0]) ((v.alloc (.cells #[I kd,I b] 52)).alloc (.cells #[I 1,I 0] 38))
 generalize ((v.alloc (.cells #[I kd,I b] 52)).alloc (.cells #[I 1,I 0] 38))=V at k0 k1
 simp [results,go_sem,Tryd.f27,k0,k1]
theorem comesB (v:World) {kd:Int} (b:Int) (hkd:3<kd):Calls Tryd.prog 27 #[.agg #[I kd,I b]] v (fun e w'=>e=.returned (.agg #[I 1,I 0])∧Hid (Grows v w')):=by
 have h1:decide (kd<0)=false:=decide_eq_false (by omega)
 have h2:decide (kd > 3)=true:=decide_eq_true hkd
 go_enter Tryd.func27,Tryd.ntmps27
 have r1:((v.alloc (.cells #[I kd,I b] 52)).alloc (.cells #[I 1,I 0] 38)).heap[v.heap.size+1]? = some (.cells #[I 1,I 0] 38 (0,0)):=by
  show ((v.heap.push _).push _)[v.heap.size+1]? = _
  rw [Array.getElem?_push,if_pos (by simp)]
 have g0:Grows v ((v.alloc (.cells #[I kd,I b] 52)).alloc (.cells #[I 1,I 0] 38)):=⟨by show _≤((v.heap.push _).push _).size;simp;omega,fun b hb=>by
  show ((v.heap.push _).push _)[b]? = _
  simp only [Array.getElem?_push,Array.size_push]
  repeat rw [if_neg (by omega)],rfl,rfl⟩
 have HR:Hid (((v.alloc (.cells #[I kd,I b] 52)).alloc (.cells #[I 1,I 0] 38)).heap[v.heap.size+1]? = some (.cells #[I 1,I 0] 38 (0,0))∧Grows v ((v.alloc (.cells #[I kd,I b] 52)).alloc (.cells #[I 1,I 0] 38))):=⟨⟨r1,g0⟩⟩
 clear r1 g0
 go_wp2_with fail
 obtain ⟨hrow,hg⟩:=HR.out
 have k0:((v.alloc (.cells #[I kd,I b] 52)).alloc (.cells #[I 1,I 0] 38)).cell? ⟨v.heap.size+1,0,none⟩=some (I (1)):=cell_of hrow rfl
 have k1:((v.alloc (.cells #[I kd,I b] 52)).alloc (.cells #[I 1,I 0] 38)).cell? ⟨v.heap.size+1,1,none⟩=some (I (0)):=cell_of hrow rfl
 refine ⟨rfl,.agg #[I 1,I 0],?_,rfl,⟨hg⟩⟩
 show (results Tryd.f27 _).run Tryd.prog ((v.alloc (.cells #[I kd,I b] 52)).alloc (.cells #[I 1,I 0] 38))=.ok (.agg #[I 1,I 0]) ((v.alloc (.cells #[I kd,I b] 52)).alloc (.cells #[I 1,I 0] 38))
 generalize ((v.alloc (.cells #[I kd,I b] 52)).alloc (.cells #[I 1,I 0] 38))=V at k0 k1
 simp [results,go_sem,Tryd.f27,k0,k1]
theorem comes_any (v:World) (kd b:Int):Calls Tryd.prog 27 #[.agg #[I kd,I b]] v (fun e w'=>e=.returned (.agg #[I (cmF kd b).1,I (cmF kd b).2])∧Hid (Grows v w')):=by
 unfold cmF
 by_cases h0:kd=0
 ·rw [if_pos h0];exact comes0 v b h0
 rw [if_neg h0]
 by_cases h1:kd=1
 ·rw [if_pos h1];exact comes1 v b h1
 rw [if_neg h1]
 by_cases h2:kd=2
 ·rw [if_pos h2];exact comes2 v b h2
 rw [if_neg h2]
 by_cases h3:kd=3
 ·rw [if_pos h3];exact comes3 v b h3
 rw [if_neg h3]
 by_cases h4:kd<0
 ·exact comesA v b h4
 ·exact comesB v b (by omega)
end Go.Proofs.YtfjjoohflcchnaaDoor.Gen
