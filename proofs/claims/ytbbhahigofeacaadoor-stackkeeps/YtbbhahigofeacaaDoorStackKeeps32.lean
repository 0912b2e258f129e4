/- Of the proof of StackKeeps. Part 32 of 33. (Joined, by program, and written short, of: StAw3, StAw4, La7F.) -/
import Derived.Test.YtbbhahigofeacaaDoorStackKeeps14
import Derived.Test.YtbbhahigofeacaaDoorStackKeeps24
import Derived.Test.YtbbhahigofeacaaDoorStackKeeps28
import Derived.Test.YtbbhahigofeacaaDoorStackKeeps29
import Derived.Test.YtbbhahigofeacaaDoorStackKeeps31
set_option linter.unusedSimpArgs false
set_option linter.unusedVariables false
set_option maxHeartbeats 4000000
set_option maxRecDepth 100000
namespace Go.Proofs.YtbbhahigofeacaaDoor.Gen
open Go Go.Lift Go.Conc Go.RowKit
open Go.ConcN (upd upd_same upd_ne)
open R1 (fstI verI hdI)
structure Gl (w:World):Prop where
 a:∃ c t f,w.heap[0]? = some (.cells c t f)∧c[0]? = some (I 0)∧c[1]? = some (I 32)
 b:∃ c t f,w.heap[1]? = some (.cells c t f)∧c[0]? = some (I 32)∧c[1]? = some (I 30)
 c:∃ c t f,w.heap[2]? = some (.cells c t f)∧c[0]? = some (I 0)∧c[1]? = some (I 32)
 d:∃ c t f,w.heap[3]? = some (.cells c t f)∧c[0]? = some (I 32)∧c[1]? = some (I 30)
def glP (w:World) (b:Nat):Option Obj:=if b<4 then w.heap[b]? else none
theorem glP_lt {w:World}{b:Nat}(h:glP w b≠none):b<4:=by
 unfold glP at h
 split at h
 ·assumption
 ·exact absurd rfl h
theorem glP_has (w:World):Has (glP w) w:=fun b o h=>by
 unfold glP at h
 split at h
 ·exact h
 ·cases h
theorem Gl.gf {w:World}(h:Gl w):GF (glP w):=⟨h.a,h.b,h.c,h.d⟩
theorem Gl.row {w:World}(h:Gl w):∀ b o,glP w b=some o->∃ c e f,o=.cells c e f:=fun b o hb=>by
 have hlt:=glP_lt (w:=w) (b:=b) (by rw[hb];simp)
 have hh:=glP_has w b o hb
 match b,hlt with
 |0,_=>obtain ⟨c,t,f,g,_⟩:=h.a;rw[g] at hh;cases hh;exact ⟨_,_,_,rfl⟩
 |1,_=>obtain ⟨c,t,f,g,_⟩:=h.b;rw[g] at hh;cases hh;exact ⟨_,_,_,rfl⟩
 |2,_=>obtain ⟨c,t,f,g,_⟩:=h.c;rw[g] at hh;cases hh;exact ⟨_,_,_,rfl⟩
 |3,_=>obtain ⟨c,t,f,g,_⟩:=h.d;rw[g] at hh;cases hh;exact ⟨_,_,_,rfl⟩
theorem Gl.size {w:World}(h:Gl w):4≤w.heap.size:=by
 obtain ⟨c,t,f,g,_⟩:=h.d
 have:=(Array.getElem?_eq_some_iff.1 g).1
 omega
theorem Gl.grow {w w':World}(h:Gl w) (g:∀ b,b<w.heap.size->w'.heap[b]? = w.heap[b]?):Gl w':=by
 have hs:=h.size
 have e:=fun b (hb:b<4)=>g b (by omega)
 exact ⟨by rw[e 0 (by omega)];exact h.a,by rw[e 1 (by omega)];exact h.b,by rw[e 2 (by omega)];exact h.c,by rw[e 3 (by omega)];exact h.d⟩
theorem taw_y3 {Ch:Nat->Prop}{Stop:Goroutine->World->Prop}{main:Bool}{v w:World}{M:Nat}{a:Act}{cs:List Frame}(hvw:Rel zn v w) (hn:Ah Ch v) (hA:Fl 137 [(0,.bool false),(2,.slice (some ⟨M,0,none⟩) 1 1),(3,I 0)] a)
 (hk:∀ a' v' w',Rel zn v' w'->Ah Ch v'->Grows v v'->Fl 137 [(0,.bool false),(2,.slice (some ⟨M,0,none⟩) 1 1),(3,I 0),(5,I 1)] a'->GoesI Tryd.prog main (DT (ScZ zn) Ch) Stop (G ((base 27).at a' [.code Y4]) cs) w') :
 GoesI Tryd.prog main (DT (ScZ zn) Ch) Stop (G ((base 27).at a [.code Y3]) cs) w:=by
 unfold Y3
 obtain ⟨hsz,hd,hpp⟩:=hA
 obtain ⟨u,rfl,hg⟩:=litN hsz hd
 have u0:=(hg 0).symm.trans (hpp (0,.bool false) (by simp))
 have u2:=(hg 2).symm.trans (hpp (2,.slice (some ⟨M,0,none⟩) 1 1) (by simp))
 have u3:=(hg 3).symm.trans (hpp (3,I 0) (by simp))
 clear hg hpp hsz hd
 refine Ac (Aa _ _) ?_
 generalize hT:Y4=TT at hk ⊢
 unfold y3 hwB Tryd.f27 seq2 seq1
 simp only[Option.getD_some,lits,Nat.reduceAdd,u0,u2,u3]
 clear u0 u2 u3 hT
 refine Ae (Aa _ _) ?_
 simp only[List.size_toArray,List.length_cons,List.length_nil,Nat.reduceAdd,Nat.zero_add,List.range,List.range.loop]
 refine B9 (L:=LV) rfl rfl (by decide) (Bg Bw extT (by kernel_rfl)) hvw hn (v':=v) (x:=.agg #[I 1,I 0,I 0,I 0]) (by go_simp) rfl (fun w2 hr2 hn2=>?_)
 refine B9 (L:=LV) rfl rfl (by decide) (Bg Bw extT (by kernel_rfl)) hr2 hn2 (v':=v.alloc (.cells #[I 1,I 0,I 0,I 0] 50)) (x:=.slice (some ⟨v.heap.size,0,none⟩) 1 1) (by go_simp) rfl (fun w3 hr3 hn3=>?_)
 refine B9 (L:=LV) rfl rfl (by decide) (Bg Bw extT (by kernel_rfl)) hr3 hn3 (v':=(v.alloc (.cells #[I 1,I 0,I 0,I 0] 50)).alloc (.cells #[.slice (some ⟨v.heap.size,0,none⟩) 1 1] 45)) (x:=.slice (some ⟨v.heap.size+1,0,none⟩) 1 1) (by go_simp) rfl (fun w4 hr4 hn4=>?_)
 refine Ao (f:=28) (fn:=Tryd.f28) (args:=#[.pointer none,I 2,.slice (some ⟨v.heap.size+1,0,none⟩) 1 1]) (Aa _ _) rfl rfl (by decide) rfl (by simp[Act.eval,Act.put]) Tryd.func28 (by decide) rfl ?_
 have hb:((v.alloc (.cells #[I 1,I 0,I 0,I 0] 50)).alloc (.cells #[.slice (some ⟨v.heap.size,0,none⟩) 1 1] 45)).heap[v.heap.size+1]? = some (.cells #[.slice (some ⟨v.heap.size,0,none⟩) 1 1] 45):=by
  show ((v.heap.push _).push _)[v.heap.size+1]? = _
  rw[Array.getElem?_push,if_pos (by simp)]
 have gg:Grows v ((v.alloc (.cells #[I 1,I 0,I 0,I 0] 50)).alloc (.cells #[.slice (some ⟨v.heap.size,0,none⟩) 1 1] 45)):=⟨by show _≤((v.heap.push _).push _).size;simp;omega,fun b hb=>by show ((v.heap.push _).push _)[b]? = _;rw[Array.getElem?_push,if_neg (by simp;omega),Array.getElem?_push,if_neg (by omega)],rfl,rfl⟩
 refine tplay_nil 2 (v.heap.size+1) (cell_of hb rfl) cs rfl hr4 hn4 (fun v5 w5 r5 n5 e5 o5 u5=>?_)
 have HK:Hid (∀ a',Fl 137 [(0,.bool false),(2,.slice (some ⟨M,0,none⟩) 1 1),(3,I 0),(5,I 1)] a'->GoesI Tryd.prog main (DT (ScZ zn) Ch) Stop (G ((base 27).at a' [.code TT]) cs) w5):=⟨fun a' h=>hk a' v5 w5 r5 n5 (Ir gg (Jz e5 o5 u5)) h⟩
 clear hk hb gg r5 n5 e5 o5 u5 hr2 hr3 hr4 hn2 hn3 hn4 hvw hn
 iterate 5
  (refine Ad rfl rfl (by decide) (fun d K hK=>?_)
   go_simp
   refine hK _ _ ⟨Af (fun e he=>?_),GoesI.at ?_ d⟩
   ·have hm:=mem_listed he
    simp[go_sem, *] at hm
    try exact ⟨_,_,hm⟩
    try (rcases hm with rfl|rfl<;>exact ⟨_,_,rfl⟩)
   clear hK K)
 refine Ab (Aa _ _) ?_
 exact HK.out _ ⟨rfl,rfl,by
  intro p hp
  simp only[List.mem_cons,List.not_mem_nil,or_false] at hp
  rcases hp with rfl|rfl|rfl|rfl<;>rfl⟩
structure Done9 (M A0:Nat) (u:World):Prop where
 m0:u.cell? ⟨M,0,none⟩=some (.slice (some ⟨A0,0,none⟩) 6 6)
 x4:u.cell? ⟨A0,4,none⟩=some (I 80)
 x7:u.cell? ⟨A0,7,none⟩=some (I 8)
 x9:u.cell? ⟨A0,9,none⟩=some (I 7)
 x10:u.cell? ⟨A0,10,none⟩=some (I 90)
theorem Done9.go {M A0:Nat}{u u':World}(h:Done9 M A0 u) (g:∀ b,b<u.heap.size->u'.heap[b]? = u.heap[b]?):Done9 M A0 u':=by
 have hc:∀ (a:Addr) (x:Value),u.cell? a=some x->u'.cell? a=some x:=fun a x ha=>by rw[World.cell?_of_block (w:=u) (w':=u') (g _ (World.block_lt_of_cell? _ _ ha))];exact ha
 exact ⟨hc _ _ h.m0,hc _ _ h.x4,hc _ _ h.x7,hc _ _ h.x9,hc _ _ h.x10⟩
theorem fst_new {v1 v2:World}{S S2:TS}{K:List (Nat×Int)}{pk':Nat->Option Obj}{tb:Nat}(hG:Gl v1) (ht:v1.heap[tb]? = some (.cells #[.pointer none,I 0,.chan none,I 0,I 0,I 0,I 0] 87)) (ho:ObjN v1 S (sts 1 1) pk' S2 K v2) (hs:StkN (glP v1) pk' 1 (v1.heap.size+1) (v1.heap.size+3) (v1.heap.size+2) v1.heap.size K):Fst 1 (v1.heap.size+1) (v1.heap.size+3) (v1.heap.size+2) v1.heap.size tb (K.map (·.1)) v1.heap.size [hdI 1 0,0,0,0,0,0] v2:=by
 have htb:=(Array.getElem?_eq_some_iff.1 ht).1
 have hM:=mineStk 1 #[Pt (v1.heap.size+1) 0] pk' K ⟨by decide,glP v1,_,_,_,_,hG.gf,rfl,hs,ho.vals⟩ ⟨0,0,0,0,0,[],none,0,0,undef,0,0,0,52,#[Pt (v1.heap.size+1) 0],pk',K.map (·.1)⟩ rfl rfl rfl rfl
 have e0:=ho.vals
 have hl:K.length=6:=by have:=congrArg List.length e0;rw[List.length_map,Fb] at this;exact this
 obtain ⟨c0,q1,q2⟩:=hs.sbox
 obtain ⟨c1,q3,q4⟩:=hs.box
 refine ⟨?_,hG.gf.flds (fun b o hb=>ho.has b o (hs.old b o hb)),cell_of (by rw[ho.old _ htb];exact ht) rfl,fun j cb x hj hx=>?_,ho.nd,fun cb hcb=>?_⟩
 ·have f0:=ho.has _ _ q2
  have f1:=ho.has _ _ q4
  have f2:=ho.has _ _ hs.srow
  have f3:=ho.has _ _ hs.row
  have hkj:∀ j,j<K.length->∃ c,K[j]? = some c∧(K.map (·.1))[j]? = some c.1:=fun j hj=>⟨_,List.getElem?_eq_getElem hj,by rw[List.getElem?_map,List.getElem?_eq_getElem hj];rfl⟩
  refine ⟨⟨⟨c0.1,by rw[List.getElem?_map,q1];rfl,cell_of f0 rfl⟩,cell_of f0 rfl,fun k hk=>?_,fun k hk=>?_⟩,cell_of f1 rfl,⟨c1.1,by unfold hdJ;rw[List.getElem?_map,q3];rfl,cell_of f1 rfl⟩,cell_of f1 rfl,fun k hk=>?_,fun k hk=>?_,by decide⟩
  ·obtain ⟨c,g1,g2⟩:=hkj (1+k*2) (by omega)
   exact ⟨c.1,by unfold nxJ;rw[Nat.mul_comm];exact g2,Hh f2 (by omega) g1⟩
  ·obtain ⟨c,g1,g2⟩:=hkj (1+(k*2+1)) (by omega)
   exact ⟨c.1,by unfold usJ;rw[show 2+2*k=1+(k*2+1) by omega];exact g2,Hh f2 (by omega) g1⟩
  ·obtain ⟨c,g1,g2⟩:=hkj (2*1+2+k*2) (by omega)
   exact ⟨c.1,by unfold vlJ;rw[Nat.mul_comm 2 k];exact g2,Hh f3 (by omega) g1⟩
  ·obtain ⟨c,g1,g2⟩:=hkj (2*1+2+(k*2+1)) (by omega)
   exact ⟨c.1,by unfold lkJ;rw[show 2*1+3+2*k=2*1+2+(k*2+1) by omega];exact g2,Hh f3 (by omega) g1⟩
 ·rw[List.getElem?_map,Option.map_eq_some_iff] at hj
  obtain ⟨p,h1,rfl⟩:=hj
  have h2:=(ho.cels j p h1).1
  have h3:(sts 1 1)[j]? = some p.2:=by rw[←e0,List.getElem?_map,h1];rfl
  have h4:(sts 1 1)=[hdI 1 0,0,0,0,0,0]:=rfl
  rw[h4] at h3
  rw[hx] at h3
  cases h3
  exact h2
 ·obtain ⟨p,hp,rfl⟩:=List.mem_map.1 hcb
  obtain ⟨j,hj⟩:=List.mem_iff_getElem?.1 hp
  have h2:=ho.cels j p hj
  have h4:=hG.size
  have ne:∀ b o,pk' b=some o->p.1≠b:=fun b o hb e=>by rw[e,hb] at h2;cases h2.2.2
  exact ⟨by omega,ne _ _ q4,ne _ _ q2,ne _ _ hs.srow,ne _ _ hs.row,by omega,h2.2.1⟩
theorem fst_hdV {f x:Int}(h0:0≤f) (h1:f<4294967296):fstI (hdI f (verI x+1))=f:=R1.fst_hd h0 h1 (by have:=R1.verI_in x;omega)
theorem v_hd (f v:Int) (h:0≤f∧f<4294967296) (hv:0≤v∧v<1073741824):verI (hdI f v)=v:=by rw[R1.ver_hd h.1 h.2 hv.1,Int.tmod_eq_emod_of_nonneg hv.1,Int.emod_eq_of_lt hv.1 hv.2]
theorem taw_tail {Ch:Nat->Prop}{Stop:Goroutine->World->Prop}{main:Bool}{v w:World}{M A0:Nat}{a:Act}{cs:List Frame}{bc:Frame}{ac:Act}{ops:Array Oper}{q:Nat}{rest:List Nat}{oc:Oper}{k0:List Item}(hoc:ops[q]? = some oc) (S:TS) (hGl:Gl v) (hvw:Rel zn v w) (hn:Ah Ch v) (hD:Done9 M A0 v) (hA:Fl 137 [(0,.bool false),(2,.slice (some ⟨M,0,none⟩) 1 1),(3,I 0)] a)
 (hk:∀ v' w',Rel zn v' w'->Ah Ch v'->Grows v v'->GoesI Tryd.prog main (DT (ScZ zn) Ch) Stop (G (bc.at (ac.put oc.dst (.bool true)) (.inRegion ops rest :: k0)) cs) w') :
 GoesI Tryd.prog main (DT (ScZ zn) Ch) Stop (G ((base 27).at a [.code Y3]) (bc.at ac (.inRegion ops (q :: rest) :: k0) :: cs)) w:=by
 refine taw_y3 hvw hn hA (fun a1 v1 w1 r1 n1 g1 hA1=>?_)
 unfold Y4
 refine Ac (Aa _ _) ?_
 refine Ba (z:=zn) (wr:=true) (L:=LV) (I:=Ah Ch) hE F8 Az (fun v v' w w' es hi hr ho he=>Bq v v' w w' es hi hr ho he) r1 fine_y4 hA1.2.1 (by simp[base]) n1 (Q:=fun a w'=>Fl 137 [(0,.bool false),(2,.slice (some ⟨M,0,none⟩) 1 1),(3,I 0),(5,I 1),(6,Pt v1.heap.size 0)] a∧w'.heap=v1.heap.push (.cells #[.pointer none,I 0,.chan none,I 0,I 0,I 0,I 0] 87)∧w'.os=v1.os∧w'.output=v1.output) (fun τ=>y4_wp (v:=Ap v1 τ 0) hA1) ?_
 rintro a2 v2 w2 ⟨hA2,e2,o2,u2⟩ r2 n2 -
 have g2:Grows v1 v2:=grow_push e2 o2 u2
 have G2:Gl v2:=(hGl.grow g1.old).grow g2.old
 have ht2:v2.heap[v1.heap.size]? = some (.cells #[.pointer none,I 0,.chan none,I 0,I 0,I 0,I 0] 87):=by rw[e2];exact Array.getElem?_push_size
 refine Ac (Aa _ _) ?_
 refine Ba (z:=zn) (wr:=true) (L:=LV) (I:=Ah Ch) hE F8 Az (fun v v' w w' es hi hr ho he=>Bq v v' w w' es hi hr ho he) r2 fine_y5 hA2.2.1 (by simp[base]) n2 (Q:=fun a w'=>Fl 137 [(0,.bool false),(2,.slice (some ⟨M,0,none⟩) 1 1),(3,I 0),(5,I 1),(6,Pt v1.heap.size 0),(7,Pt (v2.heap.size+1) 0)] a∧∃ S2 K pk',ObjN v2 S (sts 1 1) pk' S2 K w'∧StkN (glP v2) pk' 1 (v2.heap.size+1) (v2.heap.size+3) (v2.heap.size+2) v2.heap.size K) (fun τ=>wp_mono (y5_wp (v:=Ap v2 τ 0) S (glP_has v2) G2.gf hA2) (fun e a w' hq=>⟨hq.1,hq.2.1,by
  obtain ⟨S2,K,pk',ho,hs⟩:=hq.2.2
  exact ⟨S2,K,pk',⟨ho.size,ho.has,ho.vals,ho.cels,ho.nd,ho.old,ho.os,ho.out⟩,hs⟩⟩)) ?_
 rintro a3 v3 w3 ⟨hA3,S2,K,pk',ho,hs⟩ r3 n3 -
 have hF:=fst_new G2 ht2 ho hs
 have g23:Grows v2 v3:=⟨ho.size,ho.old,ho.os,ho.out⟩
 have gv3:Grows v v3:=Ir g1 (Ir g2 g23)
 have hD3:=hD.go gv3.old
 refine Ac (Aa _ _) ?_
 refine Ac (Aa _ _) ?_
 refine Ba (z:=zn) (wr:=true) (L:=LV) (I:=Ah Ch) hE F8 Az (fun v v' w w' es hi hr ho he=>Bq v v' w w' es hi hr ho he) r3 fine_y6 hA3.2.1 (by simp[base]) n3 (Q:=fun a w'=>Fl 137 [(0,.bool false),(2,.slice (some ⟨M,0,none⟩) 1 1),(3,I 0),(5,I 1),(6,Pt v1.heap.size 0),(7,Pt (v2.heap.size+1) 0),(51,.bool false)] a∧w'.heap=v3.heap∧w'.os=v3.os∧w'.output=v3.output) (fun τ=>y6_wp (v:=Ap v3 τ 0) hD3.m0 hA3) ?_
 rintro a4 v4 w4 ⟨hA4,e4,o4,u4⟩ r4 n4 -
 refine Ax (Aa _ _) (t:=false) (hA4.at 51 (.bool false) (by simp)) ?_
 simp only[if_false,Bool.false_eq_true]
 refine Bh (Aa _ _) ?_
 have hA4':Fl 137 [(0,.bool false),(2,.slice (some ⟨M,0,none⟩) 1 1),(3,I 0),(5,I 1),(6,Pt v1.heap.size 0),(7,Pt (v2.heap.size+1) 0)] a4:=hA4.sub (by simp)
 have g34:Grows v3 v4:=Jz e4 o4 u4
 have hF4:=hF.grow g34
 have hB4:v2.heap.size≤v4.heap.size:=Nat.le_trans g23.size g34.size
 have f1:fstI (hdI 1 0)=((0:Nat):Int)+1:=R1.fst_hd (by decide) (by decide) (by decide)
 unfold Y8
 refine taw_y8 f1 r4 n4 hF4 hB4 hA4' (fun a5 v5 w5 r5 n5 h5 k5 hA5=>?_)
 rw[v_hd 1 0 (by decide) (by decide),R1.verI_zero,R1.fstI_zero] at h5
 have b5:=Nat.le_trans hB4 k5.size
 unfold Y9
 refine taw_y9 (R1.fst_hd (by decide) (by decide) (by decide)) r5 n5 h5 b5 hA5 (fun a6 v6 w6 r6 n6 h6 k6 hA6=>?_)
 have b6:=Nat.le_trans b5 k6.size
 unfold Y10
 refine taw_y10 (R1.fst_hd (by decide) (by decide) (by decide)) rfl r6 n6 h6 b6 hA6 (fun a7 v7 w7 r7 n7 h7 k7 hA7=>?_)
 have b7:=Nat.le_trans b6 k7.size
 unfold Y11
 refine taw_y11 (fst_hdV (by decide) (by decide)) r7 n7 h7 b7 hA7 (fun a8 v8 w8 r8 n8 h8 k8 hA8=>?_)
 have k9:=((k5.trans k6).trans k7).trans k8
 have g8:Grows v v8:=by
  have s2:=g2.size
  have s1:=g1.size
  refine ⟨by have:=gv3.size;have:=g34.size;have:=k9.size;omega,fun b hb=>?_,?_,?_⟩
  ·rw[k9.old b (by omega),e4];exact gv3.old b hb
  ·rw[k9.os,o4];exact gv3.os
  ·rw[k9.out,u4];exact gv3.output
 have hD8:=hD.go g8.old
 unfold Y12
 refine Ac (Aa _ _) ?_
 refine Ba (z:=zn) (wr:=true) (L:=LV) (I:=Ah Ch) hE F8 Az (fun v v' w w' es hi hr ho he=>Bq v v' w w' es hi hr ho he) r8 fine_y12 hA8.2.1 (by simp[base]) n8 (Q:=fun a w'=>Fl 137 [(0,.bool false),(2,.slice (some ⟨M,0,none⟩) 1 1),(3,I 0),(5,I 1),(6,Pt v1.heap.size 0),(7,Pt (v2.heap.size+1) 0),(8,I 0),(9,I 80),(10,I 5),(11,I 0),(12,I 0),(13,I 90),(14,.bool true)] a∧w'.heap=v8.heap∧w'.os=v8.os∧w'.output=v8.output) (fun τ=>y12_wp (v:=Ap v8 τ 0) hA8) ?_
 rintro a9 v9 w9 ⟨hA9,e9,o9,u9⟩ r9 n9 -
 have g9:Grows v v9:=Ir g8 (Jz e9 o9 u9)
 have hD9:=hD.go g9.old
 refine G0 (c:=y13) (f:=27) (fn:=Tryd.f27) (L:=LV) hE F8 r9 n9 Tryd.func27 fine_y13 hA9.2.1 hoc (R:=fun r w'=>r=.bool true∧w'.heap=v9.heap∧w'.os=v9.os∧w'.output=v9.output) (fun τ=>wp_mono (y13_wp (v:=Ap v9 τ 0) hD9.m0 hD9.x4 hD9.x7 hD9.x9 hD9.x10 hA9) (fun e a' w' hq=>⟨hq.1,.bool true,by
  rw[results_tmp (t:=0) rfl]
  have:=hq.2.1.at 0 (.bool true) (by simp)
  rw[show a'.tmps.getD 0 undef=.bool true from this],rfl,hq.2.2⟩)) (fun r v' w' hR hr' hn'=>?_)
 obtain ⟨rfl,h1,h2,h3⟩:=hR
 exact hk v' w' hr' hn' (Ir g9 (Jz h1 h2 h3))
structure Set9 (v:World) (wb bk:Nat) (sc:Value) (c:Nat) (u:World):Prop where
 mem:Mem zn (newS wb bk v.heap.size sc []) [] u
 opn:Open u bk
 calls:u.heap[c]? = some (.cells #[I 1,I 7,I 0,I 0,I 1,I 8,I 0,I 0,I 1,I 9,I 0,I 0,I 2,I 0,I 0,I 0,I 2,I 0,I 0,I 0,I 2,I 0,I 0,I 0] 50)
 scr:u.heap[c+1]? = some (.cells #[.slice (some ⟨c,0,none⟩) 6 6] 45)
 own:∀ b,Own (newS wb bk v.heap.size sc []) [] b∨b=bk->v.heap.size≤b∧b<c
 old:Grows v u
theorem Set9.same {v:World}{wb bk:Nat}{sc:Value}{c:Nat}{u u':World}(h:Set9 v wb bk sc c u) (e:u'.heap=u.heap) (e1:u'.os=u.os) (e2:u'.output=u.output):Set9 v wb bk sc c u':=by
 have g:Grows u u':=⟨by rw[e];exact Nat.le_refl _,fun b _=>by rw[e],e1,e2⟩
 refine ⟨(h.mem.grows g).mem,?_,by rw[e];exact h.calls,by rw[e];exact h.scr,h.own,⟨by rw[e];exact h.old.size,fun b hb=>by rw[e];exact h.old.old b hb,e1.trans h.old.os,e2.trans h.old.output⟩⟩
 obtain ⟨c,m,hh⟩:=h.opn
 exact ⟨c,m,by rw[e];exact hh⟩
theorem tawake_in {Ch:Nat->Prop}{Stop:Goroutine->World->Prop}{main:Bool}{v w:World}(cs:List Frame)
 (hk:∀ v' w' (wb bk:Nat) (sc:Value) (c:Nat) (bd:Frame) (ad:Act) (od:Array Oper) (qd:Nat) (rd:List Nat) (oe:Oper) (kd:List Item),Rel zn v' w'->Ah Ch v'->Set9 v wb bk sc c v'->od[qd]? = some oe ->
   (∀ (Ch:Nat->Prop) (Stop:Goroutine->World->Prop) (M:Nat) (w:World),(∀ a,Fl 137 [(0,.bool false),(2,.slice (some ⟨M,0,none⟩) 1 1),(3,I 0)] a->GoesI Tryd.prog main (DT (ScZ zn) Ch) Stop (G ((base 27).at a [.code Y3]) cs) w)->GoesI Tryd.prog main (DT (ScZ zn) Ch) Stop (G (bd.at (ad.put oe.dst (.tuple #[.slice (some ⟨M,0,none⟩) 1 1,I 0])) (.inRegion od rd :: kd)) cs) w) ->
   GoesI Tryd.prog main (DT (ScZ zn) Ch) Stop (G ((base 28).at { tmps:=#[Pt wb 0,I 2,.slice (some ⟨c+1,0,none⟩) 1 1]++Array.replicate 27 undef,defers:=[] } [.code B28]) (bd.at ad (.inRegion od (qd :: rd) :: kd) :: cs)) w') (hvw:Rel zn v w) (hn:Ah Ch v) :
 GoesI Tryd.prog main (DT (ScZ zn) Ch) Stop (G ((base 27).at { tmps:=Array.replicate 137 undef,defers:=[] } [.code hwB]) cs) w:=by
 rw[eHwB]
 have hA:Fl 137 [] { tmps:=Array.replicate 137 undef,defers:=[] }:=⟨by simp,rfl,fun p hp=>by cases hp⟩
 refine Ac (Aa _ _) ?_
 refine Ba (z:=zn) (wr:=true) (L:=LV) (I:=Ah Ch) hE F8 Az (fun v v' w w' es hi hr ho he=>Bq v v' w w' es hi hr ho he) hvw fine_y0 hA.2.1 (by simp[base]) hn (Q:=fun a w'=>Fl 137 [(0,.bool false)] a∧w'.heap=v.heap∧w'.os=v.os∧w'.output=v.output) (fun τ=>y0_wp (v:=Ap v τ 0) hA) ?_
 rintro a0 v0 w0 ⟨hA0,e0,o0,u0⟩ hr0 hn0 -
 refine Ac (Aa _ _) ?_
 refine Ba (z:=zn) (wr:=true) (L:=LV) (I:=Ah Ch) hE F8 Az (fun v v' w w' es hi hr ho he=>Bq v v' w w' es hi hr ho he) hr0 fine_y1 hA0.2.1 (by simp[base]) hn0
  (Q:=fun a w'=>∃ wb bk sc,Fl 137 [(0,.bool false),(1,Pt wb 0)] a∧IsNew v0 [] wb bk sc w') (fun τ=>?_) ?_
 ·refine wp_mono (y1_wp (v:=Ap v0 τ 0) hA0) (fun e a w' hq=>⟨hq.1,?_⟩)
  obtain ⟨_,wb,bk,sc,h1,h2⟩:=hq
  exact ⟨wb,bk,sc,h1,⟨h2.mem,h2.opn,h2.new,⟨h2.old.size,h2.old.old,h2.old.os,h2.old.output⟩⟩⟩
 rintro a1 v1 w1 ⟨wb,bk,sc,hA,hnew⟩ hr1 hn1 -
 have hset:Set9 v wb bk sc v1.heap.size ((v1.alloc (.cells #[I 1,I 7,I 0,I 0,I 1,I 8,I 0,I 0,I 1,I 9,I 0,I 0,I 2,I 0,I 0,I 0,I 2,I 0,I 0,I 0,I 2,I 0,I 0,I 0] 50)).alloc (.cells #[.slice (some ⟨v1.heap.size,0,none⟩) 6 6] 45)):=by
  have g1:Grows v1 ((v1.alloc (.cells #[I 1,I 7,I 0,I 0,I 1,I 8,I 0,I 0,I 1,I 9,I 0,I 0,I 2,I 0,I 0,I 0,I 2,I 0,I 0,I 0,I 2,I 0,I 0,I 0] 50)).alloc (.cells #[.slice (some ⟨v1.heap.size,0,none⟩) 6 6] 45)):=⟨by show _≤((v1.heap.push _).push _).size;simp;omega,fun b hb=>by show ((v1.heap.push _).push _)[b]? = _;rw[Array.getElem?_push,if_neg (by simp;omega),Array.getElem?_push,if_neg (by omega)],rfl,rfl⟩
  have hm1:=hnew.mem
  have hnn:=hnew.new
  rw[e0] at hm1 hnn
  refine ⟨(hm1.grows g1).mem,?_,?_,?_,fun b hb=>⟨hnn b hb,?_⟩,⟨?_,fun b hb=>?_,?_,?_⟩⟩
  ·obtain ⟨c,m,h⟩:=hnew.opn
   exact ⟨c,m,by rw[g1.old _ (Array.getElem?_eq_some_iff.1 h).1];exact h⟩
  ·show ((v1.heap.push _).push _)[v1.heap.size]? = _
   rw[Array.getElem?_push,if_neg (by simp)]
   exact Array.getElem?_push_size
  ·show ((v1.heap.push _).push _)[v1.heap.size+1]? = _
   rw[Array.getElem?_push,if_pos (by simp)]
  ·rcases hb with hb|rfl
   ·exact hm1.lt hb
   ·obtain ⟨c,m,h⟩:=hnew.opn
    exact (Array.getElem?_eq_some_iff.1 h).1
  ·have:=hnew.old.size;have:=g1.size;rw[e0] at *;omega
  ·rw[g1.old b (by have:=hnew.old.size;rw[e0] at this;omega),hnew.old.old b (by rw[e0];exact hb),e0]
  ·exact hnew.old.os.trans o0
  ·exact hnew.old.output.trans u0
 clear hnew hr0 hn0 e0 o0 u0 hvw hn
 obtain ⟨hsz,hd,hpp⟩:=hA
 obtain ⟨u,rfl,hg⟩:=litN hsz hd
 have u0:=(hg 0).symm.trans (hpp (0,.bool false) (by simp))
 have u1:=(hg 1).symm.trans (hpp (1,Pt wb 0) (by simp))
 clear hg hpp hsz hd
 refine Ac (Aa _ _) ?_
 generalize hT:Y3=TT at hk ⊢
 unfold y2 hwB Tryd.f27 seq2 seq1
 simp only[Option.getD_some,lits,Nat.reduceAdd,u0,u1]
 clear u0 u1 hT
 refine Ae (Aa _ _) ?_
 simp only[List.size_toArray,List.length_cons,List.length_nil,Nat.reduceAdd,Nat.zero_add,List.range,List.range.loop]
 iterate 1
  (refine Ad rfl rfl (by decide) (fun d K hK=>?_)
   go_simp
   refine hK _ _ ⟨Af (fun e he=>?_),GoesI.at ?_ d⟩
   ·have hm:=mem_listed he
    simp[go_sem, *] at hm
    try exact ⟨_,_,hm⟩
    try (rcases hm with rfl|rfl<;>exact ⟨_,_,rfl⟩)
   clear hK K)
 refine B9 (L:=LV) rfl rfl (by decide) (Bg Bw extT (by kernel_rfl)) hr1 hn1 (v':=v1) (x:=.agg #[I 1,I 7,I 0,I 0]) (by go_simp) rfl (fun wb0 hb0 hc0=>?_)
 refine B9 (L:=LV) rfl rfl (by decide) (Bg Bw extT (by kernel_rfl)) hb0 hc0 (v':=v1) (x:=.agg #[I 1,I 8,I 0,I 0]) (by go_simp) rfl (fun wb1 hb1 hc1=>?_)
 refine B9 (L:=LV) rfl rfl (by decide) (Bg Bw extT (by kernel_rfl)) hb1 hc1 (v':=v1) (x:=.agg #[I 1,I 9,I 0,I 0]) (by go_simp) rfl (fun wb2 hb2 hc2=>?_)
 refine B9 (L:=LV) rfl rfl (by decide) (Bg Bw extT (by kernel_rfl)) hb2 hc2 (v':=v1) (x:=.agg #[I 2,I 0,I 0,I 0]) (by go_simp) rfl (fun wb3 hb3 hc3=>?_)
 refine B9 (L:=LV) rfl rfl (by decide) (Bg Bw extT (by kernel_rfl)) hb3 hc3 (v':=v1) (x:=.agg #[I 2,I 0,I 0,I 0]) (by go_simp) rfl (fun wb4 hb4 hc4=>?_)
 refine B9 (L:=LV) rfl rfl (by decide) (Bg Bw extT (by kernel_rfl)) hb4 hc4 (v':=v1) (x:=.agg #[I 2,I 0,I 0,I 0]) (by go_simp) rfl (fun wb5 hb5 hc5=>?_)
 refine B9 (L:=LV) rfl rfl (by decide) (Bg Bw extT (by kernel_rfl)) hb5 hc5 (v':=v1.alloc (.cells #[I 1,I 7,I 0,I 0,I 1,I 8,I 0,I 0,I 1,I 9,I 0,I 0,I 2,I 0,I 0,I 0,I 2,I 0,I 0,I 0,I 2,I 0,I 0,I 0] 50)) (x:=.slice (some ⟨v1.heap.size,0,none⟩) 6 6) (by go_simp) rfl (fun w5 hr5 hn5=>?_)
 refine B9 (L:=LV) rfl rfl (by decide) (Bg Bw extT (by kernel_rfl)) hr5 hn5 (v':=((v1.alloc (.cells #[I 1,I 7,I 0,I 0,I 1,I 8,I 0,I 0,I 1,I 9,I 0,I 0,I 2,I 0,I 0,I 0,I 2,I 0,I 0,I 0,I 2,I 0,I 0,I 0] 50)).alloc (.cells #[.slice (some ⟨v1.heap.size,0,none⟩) 6 6] 45))) (x:=.slice (some ⟨v1.heap.size+1,0,none⟩) 1 1) (by go_simp) rfl (fun w6 hr6 hn6=>?_)
 refine Ao (f:=28) (fn:=Tryd.f28) (args:=#[Pt wb 0,I 2,.slice (some ⟨v1.heap.size+1,0,none⟩) 1 1]) (Aa _ _) rfl rfl (by decide) rfl (by simp[Act.eval,Act.put]) Tryd.func28 (by decide) rfl ?_
 refine hk _ w6 wb bk sc v1.heap.size _ _ _ _ _ _ _ hr6 hn6 hset rfl (fun Ch Stop M ww hg=>?_)
 clear hk hset hr1 hr5 hr6 hn1 hn5 hn6 hb0 hb1 hb2 hb3 hb4 hb5 hc0 hc1 hc2 hc3 hc4 hc5
 iterate 5
  (refine Ad rfl rfl (by decide) (fun d K hK=>?_)
   go_simp
   refine hK _ _ ⟨Af (fun e he=>?_),GoesI.at ?_ d⟩
   ·have hm:=mem_listed he
    simp[go_sem, *] at hm
    try exact ⟨_,_,hm⟩
    try (rcases hm with rfl|rfl<;>exact ⟨_,_,rfl⟩)
   clear hK K)
 refine Ab (Aa _ _) ?_
 exact hg _ ⟨rfl,rfl,by
  intro p hp
  simp only[List.mem_cons,List.not_mem_nil,or_false] at hp
  rcases hp with rfl|rfl|rfl<;>rfl⟩
section
variable {wb bk base:Nat}{sc cv:Value}{b:Nat->Nat}{l0:Nat->Ph}
theorem hires_aw {caps:Array Value}{pk:Nat->Option Obj}{N c:Nat}{S1:TS}{l1:Nat->Ph}(h:Hires (mcT 2) 0 (scrs (mcT 2) 52 caps pk N 1 (cellsT b) (fun _=>some ⟨c,0,none⟩) (fun _=>6) (fun _=>6) (fun _=>c) (fun _=>clsT)) (awST wb bk base sc cv 10) l0 S1 l1) :
 ∃ tv0 tb0 gc0,(⟨S1,cellsT b,l1⟩:PSt)=awPT wb bk base sc cv tv0 tb0 gc0 b l0:=by
 have e:(scrs (mcT 2) 52 caps pk N 1 (cellsT b) (fun _=>some ⟨c,0,none⟩) (fun _=>6) (fun _=>6) (fun _=>c) (fun _=>clsT))=[scrOf (mcT 2) 52 caps pk N 1 ((cellsT b).map (·.1)) (fun _=>some ⟨c,0,none⟩) (fun _=>6) (fun _=>6) (fun _=>c) (fun _=>clsT) 0]:=rfl
 rw[e] at h
 cases h with
 |cons tv0 tb0 gc0 h =>
  cases h
  exact ⟨tv0,tb0,gc0,rfl⟩
end
theorem asked9 {v u:World}{wb bk:Nat}{sc:Value}{c:Nat}(s:Set9 v wb bk sc c u):Asked u (newS wb bk v.heap.size sc []) 1 (c+1) 0 (fun _=>some ⟨c,0,none⟩) (fun _=>6) (fun _=>6) (fun _=>c) (fun _=>clsT):=by
 refine ⟨fun j hj=>⟨rfl,by decide⟩,fun k hk=>?_,fun h=>by have:=(s.own _ (.inl h)).2;omega,fun j hj _=>⟨rfl,fun h=>by have:=(s.own _ (.inl h)).2;omega⟩,fun j hj k x hx=>?_,fun j hj x hx=>?_⟩
 ·obtain rfl:k=0:=by omega
  exact cell_of s.scr rfl
 ·match k,hx with
  |0,hx=>cases hx;exact ⟨cell_of s.calls rfl,cell_of s.calls rfl,cell_of s.calls rfl,cell_of s.calls rfl⟩
  |1,hx=>cases hx;exact ⟨cell_of s.calls rfl,cell_of s.calls rfl,cell_of s.calls rfl,cell_of s.calls rfl⟩
  |2,hx=>cases hx;exact ⟨cell_of s.calls rfl,cell_of s.calls rfl,cell_of s.calls rfl,cell_of s.calls rfl⟩
  |3,hx=>cases hx;exact ⟨cell_of s.calls rfl,cell_of s.calls rfl,cell_of s.calls rfl,cell_of s.calls rfl⟩
  |4,hx=>cases hx;exact ⟨cell_of s.calls rfl,cell_of s.calls rfl,cell_of s.calls rfl,cell_of s.calls rfl⟩
  |5,hx=>cases hx;exact ⟨cell_of s.calls rfl,cell_of s.calls rfl,cell_of s.calls rfl,cell_of s.calls rfl⟩
  |k+6,hx=>simp[clsT] at hx
 ·unfold clsT at hx
  simp only[List.mem_cons,List.not_mem_nil,or_false] at hx
  rcases hx with rfl|rfl|rfl|rfl|rfl|rfl<;>decide
theorem K_ten {K:List (Nat×Int)}(hK:K.map (·.2)=sts 2 2):∃ b,K=cellsT b:=by
 have e:sts 2 2=[hdI 1 0,2,0,0,0,0,0,0,0,0]:=rfl
 rw[e] at hK
 have hl:K.length=10:=by have:=congrArg List.length hK;simpa using this
 refine ⟨fun j=>((K[j]?).getD (0,0)).1,?_⟩
 match K,hK,hl with
 | [a,b,c,d,e,f,g,h,i,j],hK,_ =>
  simp only[List.map_cons,List.map_nil,List.cons.injEq,and_true] at hK
  obtain ⟨h0,h1,h2,h3,h4,h5,h6,h7,h8,h9⟩:=hK
  obtain ⟨a1,a2⟩:=a
  obtain ⟨b1,b2⟩:=b
  obtain ⟨c1,c2⟩:=c
  obtain ⟨d1,d2⟩:=d
  obtain ⟨e1,e2⟩:=e
  obtain ⟨f1,f2⟩:=f
  obtain ⟨g1,g2⟩:=g
  obtain ⟨i1,i2⟩:=h
  obtain ⟨j1,j2⟩:=i
  obtain ⟨k1,k2⟩:=j
  cases h0;cases h1;cases h2;cases h3;cases h4;cases h5;cases h6;cases h7;cases h8;cases h9
  rfl
theorem tawake_all {cs:List Frame}{bc:Frame}{ac:Act}{ops:Array Oper}{q0:Nat}{rest:List Nat}{oc:Oper}{k0:List Item}(hoc:ops[q0]? = some oc) {w:World}{T:Trace}{gs:Array Goroutine}{q:Nat->Nat}(sl:Option (Nat×Nat)) (A:Alone gs w T q) (hGl:Gl w)
 (hg:gs[0]? = some (G ((base 27).at { tmps:=Array.replicate 137 undef,defers:=[] } [.code hwB]) (bc.at ac (.inRegion ops (q0 :: rest) :: k0) :: cs))) :
 ∃ (N':Nat) (gs':Array Goroutine) (w':World) (sl':Option (Nat×Nat)) (T':Trace) (q':Nat->Nat),
   runNT Tryd.prog N' (crowd gs w sl) T=(.next (crowd gs' w' sl'),T')∧gs'[0]? = some (G (bc.at (ac.put oc.dst (.bool true)) (.inRegion ops rest :: k0)) cs)∧Alone gs' w' T' q'∧Grows w w':=by
 obtain ⟨N1,gs1,a1,w1,sl1,T1,q1,r1,z1,h1,⟨wb,bk,sc,c,bd,ad,od,qd,rd,oe,kd,s,hoe,hback,rfl⟩,A1⟩:=D4 A hg sl (Stop:=fun g w'=>∃ (wb bk:Nat) (sc:Value) (c:Nat) (bd:Frame) (ad:Act) (od:Array Oper) (qd:Nat) (rd:List Nat) (oe:Oper) (kd:List Item),Set9 w wb bk sc c w'∧od[qd]? = some oe ∧
  (∀ (Ch:Nat->Prop) (Stop:Goroutine->World->Prop) (M:Nat) (w:World),(∀ a,Fl 137 [(0,.bool false),(2,.slice (some ⟨M,0,none⟩) 1 1),(3,I 0)] a->GoesI Tryd.prog true (DT (ScZ zn) Ch) Stop (G ((base 27).at a [.code Y3]) (bc.at ac (.inRegion ops (q0 :: rest) :: k0) :: cs)) w)->GoesI Tryd.prog true (DT (ScZ zn) Ch) Stop (G (bd.at (ad.put oe.dst (.tuple #[.slice (some ⟨M,0,none⟩) 1 1,I 0])) (.inRegion od rd :: kd)) (bc.at ac (.inRegion ops (q0 :: rest) :: k0) :: cs)) w) ∧
  g=G ((base 28).at { tmps:=#[Pt wb 0,I 2,.slice (some ⟨c+1,0,none⟩) 1 1]++Array.replicate 27 undef,defers:=[] } [.code B28]) (bd.at ad (.inRegion od (qd :: rd) :: kd) :: bc.at ac (.inRegion ops (q0 :: rest) :: k0) :: cs))
  (tawake_in _ (fun v' w' wb bk sc c bd ad od qd rd oe kd hr hn hset ho hback=>GoesI.stop fun d=>⟨wb,bk,sc,c,bd,ad,od,qd,rd,oe,kd,hset.same hr.eq hr.os hr.output,ho,hback,rfl⟩) (Rel.refl w) (fun c hc=>hc.elim))
 have l0:Nat->Ph:=fun _=>.done []
 have hG1:Gl w1:=hGl.grow s.old.old
 have hpf:∀ b,glP w1 b≠none->¬ Own (newS wb bk w.heap.size sc []) [] b∧b≠(newS wb bk w.heap.size sc []).bk:=fun b hb=>by
  have hb':=glP_lt hb
  have h4:=hGl.size
  exact ⟨fun h=>by have:=(s.own b (.inl h)).1;omega,fun h=>by have:=(s.own b (.inr h)).1;omega⟩
 obtain ⟨N2,gs2,w2,sl2,T2,q2,caps,pk,N,cv,K,S',S1,l1,m,p',r2,z2,h2,A2,hK,hnv,hH,hT,O⟩:=tplay_all 2 (by decide) (S:=newS wb bk w.heap.size sc []) (n:=1) (sb:=c+1) (so:=0) (cap:=1) (pc:=fun _=>some ⟨c,0,none⟩) (ln:=fun _=>6) (cp:=fun _=>6) (rb:=fun _=>c) (cl:=fun _=>clsT) hoe sl1 34 A1 h1 s.mem rfl rfl rfl s.opn hG1.gf (glP_has w1) hpf hG1.row (asked9 s) (by decide) (fun caps pk N K=>by show 0+2*(6+0)≤1000000;decide) (by show 0≤4611686018427387904;decide) (by show ∀ x∈([]:List Int),_;simp) l0 (fun caps pk N cv K hK S1 l1 hH=>by
  obtain ⟨b,rfl⟩:=K_ten hK
  obtain ⟨tv0,tb0,gc0,e⟩:=hires_aw (wb:=wb) (bk:=bk) (base:=w.heap.size) (sc:=sc) (cv:=cv) hH
  exact ⟨34,_,Nat.le_refl _,by rw[e];exact turns_of 34 _ (awt_runs wb bk _ sc cv tv0 tb0 gc0 b l0),by rw[awt_n];decide⟩)
 obtain ⟨b,rfl⟩:=K_ten hK
 obtain ⟨tv0,tb0,gc0,e⟩:=hires_aw (wb:=wb) (bk:=bk) (base:=w.heap.size) (sc:=sc) (cv:=cv) hH
 have hT':Turns (mcT 2) m (⟨S1,cellsT b,l1⟩:PSt) p':=hT
 rw[e] at hT'
 have hp:=turns_det hT' (turns_of 34 _ (awt_runs wb bk w.heap.size sc cv tv0 tb0 gc0 b l0))
 have hans:=awt_ans wb bk w.heap.size sc cv tv0 tb0 gc0 b l0
 rw[←hp] at hans
 have a0:=(O.ans 0 (by decide)).2.1 (by decide)
 rw[hans] at a0
 have hD:Done9 (N+1) (N+4+3*0+2) w2:=⟨O.rows 0 (by decide),cell_of a0 rfl,cell_of a0 rfl,cell_of a0 rfl,cell_of a0 rfl⟩
 have hold:∀ b,b<w.heap.size->w2.heap[b]? = w.heap[b]?:=fun b hb=>by
  have hs1:=s.old.size
  have hno:¬ (Own (newS wb bk w.heap.size sc []) [] b∨b=bk):=fun h=>by have:=(s.own b h).1;omega
  have h5:=O.old b (by omega) (fun h=>hno (.inl h)) (fun h=>hno (.inr h))
  rw[h5.1,s.old.old b hb]
 have hG2:Gl w2:=hGl.grow hold
 obtain ⟨N3,gs3,a3,w3,sl3,T3,q3,r3,z3,h3,⟨rfl,hg3⟩,A3⟩:=D4 A2 h2 sl2 (hback (fun _=>False) (fun g w'=>g=G (bc.at (ac.put oc.dst (.bool true)) (.inRegion ops rest :: k0)) cs∧Grows w2 w') (N+1) w2 (fun a hA=>taw_tail hoc (newS wb bk w.heap.size sc []) hG2 (Rel.refl w2) (fun c hc=>hc.elim) hD hA (fun v' w' hr hn hgr=>GoesI.stop fun d=>⟨rfl,hgr.toAt hr d⟩)))
 refine ⟨N1+N2+N3,gs3,w3,sl3,T3,q3,runNT_then (runNT_then r1 r2) r3,h3,A3,⟨by have:=s.old.size;have:=O.size;have:=hg3.size;omega,fun b hb=>?_,hg3.os.trans (O.os.trans s.old.os),hg3.output.trans (O.out.trans s.old.output)⟩⟩
 rw[hg3.old b (by have:=O.size;have:=s.old.size;omega),hold b hb]
end Go.Proofs.YtbbhahigofeacaaDoor.Gen
namespace Go.Proofs.YtbbhahigofeacaaDoor.Gen
open Go Go.Lift Go.Conc Go.RowKit
noncomputable def P7:Code:=.seq q7_2 (.seq q7_3 T7)
theorem eC7:C7=.seq q7_0 (.seq q7_1 P7):=e7
theorem fine_q7_2:A7 Tryd.prog true LV q7_2:=B0 Bw extT (by kernel_rfl)
theorem q7_2_wp {v:World}{a:Act}{s1 s2:Value}(p:Option Addr) (cap vb vo:Nat) (xs:List Int) (hp:0<xs.length->p=some ⟨vb,vo,none⟩) (hx1:xs.length≤17592186043904) (hv:∀ k x,xs[k]? = some x->v.cell? ⟨vb,vo+k,none⟩=some (I x)) (hA:Fl 189 [(0,.slice p xs.length cap),(1,s1),(2,s2),(7,.bool true)] a) :
 q7_2.wp Tryd.prog (fun e a w'=>e=.normal∧∃ wb bk sc,Fl 189 [(1,s1),(2,s2),(7,.bool true),(8,Pt wb 0)] a∧IsNew v xs wb bk sc w') a v:=by
 have H7:Hid (Calls Tryd.prog 14 #[.slice p xs.length cap] v _):=⟨(body7A p vb vo cap xs hp hx1 hv).calls Tryd.func14 rfl⟩
 clear hp hx1 hv
 obtain ⟨hsz,hd,hp⟩:=hA
 obtain ⟨u,rfl,hg⟩:=litN hsz hd
 simp only[List.forall_mem_cons,hg] at hp
 obtain ⟨u0,u1,u2,u7,-⟩:=hp
 clear hg hsz hd
 unfold q7_2 C7 Tryd.f7 seq2 seq1
 simp only[Option.getD_some,lits,Nat.reduceAdd,u0,u1,u2,u7]
 clear u0 u1 u2 u7
 go_wp2_with (first
  |(go_at_call 14;refine H7.out.mono ?_;rintro e w1 ⟨_,rfl,wb,bk,sc,rfl,hnew⟩))
 exact ⟨wb,⟨rfl,rfl,by
  intro p hp
  simp only[List.mem_cons,List.not_mem_nil,or_false] at hp
  rcases hp with rfl|rfl|rfl|rfl<;>rfl⟩,bk,sc,hnew⟩
theorem law7_in {Ch:Nat->Prop}{Stop:Goroutine->World->Prop}{main:Bool}{w:World}(x0:Value) (x1:Value) (x2:Value)
 (hk:∀ (w':World) (bd:Frame) (ad:Act) (od:Array Oper) (qd:Nat) (rd:List Nat) (oe:Oper) (kd:List Item),(∃ d,w'=w.at d)->od[qd]? = some oe ->
   (∀ (Ch:Nat->Prop) (Stop:Goroutine->World->Prop) (w1:World),(∀ a,Fl 189 [(0,x0),(1,x1),(2,x2),(7,.bool true)] a->GoesI Tryd.prog main (DT (ScZ zn) Ch) Stop (G ((base 7).at a [.code P7]) []) w1)->GoesI Tryd.prog main (DT (ScZ zn) Ch) Stop (G (bd.at (ad.put oe.dst (.bool true)) (.inRegion od rd :: kd)) []) w1) ->
   GoesI Tryd.prog main (DT (ScZ zn) Ch) Stop (G ((base 27).at { tmps:=Array.replicate 137 undef,defers:=[] } [.code hwB]) [bd.at ad (.inRegion od (qd :: rd) :: kd)]) w') :
 GoesI Tryd.prog main (DT (ScZ zn) Ch) Stop (G ((base 7).at { tmps:=#[x0,x1,x2]++Array.replicate 186 undef,defers:=[] } [.code C7]) []) w:=by
 rw[eC7]
 simp only[Array.replicate_succ,Array.replicate_zero,List.push_toArray,List.append_toArray,List.nil_append,List.cons_append]
 refine Ac (Aa _ _) ?_
 generalize hR:P7=R9 at hk ⊢
 unfold q7_0 q7_1 C7 Tryd.f7 seq1 seq2
 simp only[Option.getD_some]
 refine Ae (Aa _ _) ?_
 simp only[List.size_toArray,List.length_cons,List.length_nil,Nat.reduceAdd,Nat.zero_add,List.range,List.range.loop]
 iterate 1
  (refine Ad rfl rfl (by decide) (fun d K hK=>?_)
   go_simp
   refine hK _ _ ⟨Af (fun e he=>?_),GoesI.at ?_ d⟩
   ·have hm:=mem_listed he
    simp[go_sem, *] at hm
    try exact ⟨_,_,hm⟩
   clear hK K)
 refine Ab (Aa _ _) ?_
 refine Ac (Aa _ _) ?_
 refine Ae (Aa _ _) ?_
 simp only[List.size_toArray,List.length_cons,List.length_nil,Nat.reduceAdd,Nat.zero_add,List.range,List.range.loop]
 refine Ao (f:=27) (fn:=Tryd.f27) (args:=#[]) (Aa _ _) rfl rfl (by decide) rfl (by simp[Act.eval]) Tryd.func27 (by decide) rfl ?_
 refine hk w _ _ _ _ _ _ _ ⟨w.drawn,rfl⟩ rfl (fun Ch Stop w1 hg=>?_)
 clear hk
 iterate 1
  (refine Ad rfl rfl (by decide) (fun d K hK=>?_)
   go_simp
   refine hK _ _ ⟨Af (fun e he=>?_),GoesI.at ?_ d⟩
   ·have hm:=mem_listed he
    simp[go_sem, *] at hm
    try exact ⟨_,_,hm⟩
   clear hK K)
 refine Ab (Aa _ _) ?_
 exact hg _ ⟨rfl,rfl,by
  intro p hp
  simp only[List.mem_cons,List.not_mem_nil,or_false] at hp
  rcases hp with rfl|rfl|rfl|rfl<;>rfl⟩
theorem end7 {a:Act}{todo:List Item}{w:World}(hd:a.defers=[]) (h4:a.tmps.getD 6 undef=.bool true):stepG Tryd.prog true (G { (base 7).at a todo with mode:=.returning } []) w=.ended (.done (.bool true)) w #[]:=by
 have hr:(results Tryd.f7 a.tmps).run Tryd.prog w=.ok (.bool true) w:=by rw[results_tmp (t:=6) rfl,h4]
 have he:(results Tryd.f7 a.tmps).events Tryd.prog w #[]=#[]:=by simp[results,go_sem,Tryd.f7]
 simp[G,stepG,unwind,Frame.at,hd,Tryd.func7,base,hr,he,doReturn,GStep.after,seen]
theorem law7_b {Ch:Nat->Prop}{Stop:Goroutine->World->Prop}{main:Bool}{v w:World}(p:Option Addr) (cap vb vo:Nat) (xs:List Int) (hp:0<xs.length->p=some ⟨vb,vo,none⟩) (hx1:xs.length≤17592186043904) (hv:∀ k x,xs[k]? = some x->v.cell? ⟨vb,vo+k,none⟩=some (I x)) (s1 s2:Value) (hvw:Rel zn v w) (hn:Ah Ch v)
 (hk:∀ (v' w':World) (wb bk:Nat) (sc:Value) (bd:Frame) (ad:Act) (od:Array Oper) (qd:Nat) (rd:List Nat) (oe:Oper) (kd:List Item),Rel zn v' w'->Ah Ch v'->IsNew v xs wb bk sc v'->od[qd]? = some oe ->
   (∀ (Ch:Nat->Prop) (Stop:Goroutine->World->Prop) (w2:World) (A:Value) (E:Int),(∀ a,Fl 189 [(1,s1),(2,s2),(7,.bool true),(8,Pt wb 0),(9,A),(10,I E)] a->GoesI Tryd.prog main (DT (ScZ zn) Ch) Stop (G ((base 7).at a [.code T7]) []) w2) ->
     GoesI Tryd.prog main (DT (ScZ zn) Ch) Stop (G (bd.at (ad.put oe.dst (.tuple #[A,I E])) (.inRegion od rd :: kd)) []) w2) ->
   GoesI Tryd.prog main (DT (ScZ zn) Ch) Stop (G ((base 28).at { tmps:=#[Pt wb 0,s1,s2]++Array.replicate 27 undef,defers:=[] } [.code B28]) [bd.at ad (.inRegion od (qd :: rd) :: kd)]) w') :
 ∀ a,Fl 189 [(0,.slice p xs.length cap),(1,s1),(2,s2),(7,.bool true)] a->GoesI Tryd.prog main (DT (ScZ zn) Ch) Stop (G ((base 7).at a [.code P7]) []) w:=by
 intro a0 hA0
 unfold P7
 refine Ac (Aa _ _) ?_
 refine Ba (z:=zn) (wr:=true) (L:=LV) (I:=Ah Ch) hE F8 Az (fun v v' w w' es hi hr ho he=>Bq v v' w w' es hi hr ho he) hvw fine_q7_2 hA0.2.1 (by simp[base]) hn
  (Q:=fun a w'=>∃ wb bk sc,Fl 189 [(1,s1),(2,s2),(7,.bool true),(8,Pt wb 0)] a∧IsNew v xs wb bk sc w') (fun τ=>wp_mono (q7_2_wp (v:=Ap v τ 0) p cap vb vo xs hp hx1 hv hA0) (fun e a w' hq=>⟨hq.1,by
    obtain ⟨_,wb,bk,sc,h1,h2⟩:=hq
    exact ⟨wb,bk,sc,h1,h2.mem,h2.opn,h2.new,⟨h2.old.size,h2.old.old,h2.old.os,h2.old.output⟩⟩⟩)) ?_
 rintro a1 v1 w1 ⟨wb,bk,sc,hB,hnew⟩ hr1 hn1 -
 obtain ⟨hsz,hd,hpp⟩:=hB
 obtain ⟨u,rfl,hg⟩:=litN hsz hd
 simp only[List.forall_mem_cons,hg] at hpp
 obtain ⟨u1,u2,u7,u8,-⟩:=hpp
 clear hg hsz hd hA0
 refine Ac (Aa _ _) ?_
 clear hvw hn hp hx1 hv
 generalize hT:T7=T at hk ⊢
 unfold q7_3 C7 Tryd.f7 seq1 seq2
 simp only[Option.getD_some,lits,Nat.reduceAdd,u1,u2,u7,u8]
 clear u1 u2 u7 u8
 refine Ae (Aa _ _) ?_
 simp only[List.size_toArray,List.length_cons,List.length_nil,Nat.reduceAdd,Nat.zero_add,List.range,List.range.loop]
 iterate 3
  (refine Ad rfl rfl (by decide) (fun d K hK=>?_)
   go_simp
   refine hK _ _ ⟨Af (fun e he=>?_),GoesI.at ?_ d⟩
   ·have hm:=mem_listed he
    simp[go_sem, *] at hm
    try exact ⟨_,_,hm⟩
   clear hK K)
 refine Ao (f:=28) (fn:=Tryd.f28) (args:=#[Pt wb 0,s1,s2]) (Aa _ _) rfl rfl (by decide) rfl (by simp[Act.eval]) Tryd.func28 (by decide) rfl ?_
 refine hk v1 w1 wb bk sc _ _ _ _ _ _ _ hr1 hn1 hnew rfl (fun Ch Stop w2 A E hwp=>?_)
 clear hk hnew hr1 hn1
 iterate 5
  (refine Ad rfl rfl (by decide) (fun d K hK=>?_)
   go_simp
   refine hK _ _ ⟨Af (fun e he=>?_),GoesI.at ?_ d⟩
   ·have hm:=mem_listed he
    simp[go_sem, *] at hm
    try exact ⟨_,_,hm⟩
   clear hK K)
 refine Ab (Aa _ _) ?_
 exact hwp _ ⟨rfl,rfl,by
  intro p hp
  simp only[List.mem_cons,List.not_mem_nil,or_false] at hp
  rcases hp with rfl|rfl|rfl|rfl|rfl|rfl<;>rfl⟩
theorem law7_no {Ch:Nat->Prop}{Stop:Goroutine->World->Prop}{main:Bool}{v w:World}{a:Act}{E:Int}(hE1:E=1∨E=2) (hvw:Rel zn v w) (hn:Ah Ch v) (hA:Fl 189 [(7,.bool true),(10,I E)] a)
 (hend:∀ a' v' w' todo,Rel zn v' w'->Grows v v'->a'.defers=[]->a'.tmps.getD 6 undef=.bool true->GoesI Tryd.prog main (DT (ScZ zn) Ch) Stop (G { (base 7).at a' todo with mode:=.returning } []) w') :
 GoesI Tryd.prog main (DT (ScZ zn) Ch) Stop (G ((base 7).at a [.code T7]) []) w :=
 goesI_retZ (Q:=fun a w'=>Fl 189 [(6,.bool true)] a∧Kq v.heap.size v w') hvw hn fine_T7 hA.2.1 (fun τ=>wp_mono (tail7_no (v:=Ap v τ 0) hE1 hA) (fun e a w' hq=>⟨hq.1,hq.2.1,hq.2.2.os,hq.2.2.out,hq.2.2.size,hq.2.2.old⟩)) (fun a' v' w' todo hQ hd hr hn'=>hend a' v' w' todo hr (hQ.2.grows (Nat.le_refl _)) hd (hQ.1.at 6 (.bool true) (by simp)))
theorem law7_yes {Ch:Nat->Prop}{Stop:Goroutine->World->Prop}{main:Bool}{v w:World}{a:Act}{S:TS}{n N b o cap M:Nat}{ln cp rb ro A:Nat->Nat}{pq:Nat->Option Addr}{cl:Nat->List Cl}{l:Nat->Ph}{L:List Stp}{Rw:List Nat}(hn1:n≤1000) (hN:N≤8) (hR:Rep zn S v) (hstk:S.stk=false) (htr:S.tr=flat L) (hSn:S.n=L.length) (hs4:S.n≤400000)
 (hS:SL N b o ln cp rb ro pq cl v) (hL:AL N M A ln l v) (h64:∀ k,k<N->ln k≤64)
 (hRw:Lnk (fun i=>B8 (lkJ n i) L) (R1.fstI (B8 (hdJ n) L)) Rw) (hnd:Rw.Nodup) (hlt:∀ a∈Rw,a<n) (h0:0≤B8 (hdJ n) L∧B8 (hdJ n) L<4611686018427387904)
 (hc:∀ z,totN (fun k=>(putL (cl k) (l k).ans (cl k).length).count z) N=totN (fun k=>(tolL (cl k) (l k).ans (cl k).length).count z) N+(Rw.map fun a=>B8 (vlJ n a) L).count z) (hvw:Rel zn v w) (hn:Ah Ch v)
 (hA:Fl 189 [(7,.bool true),(10,I 0),(1,I (n:Nat)),(2,.slice (some ⟨b,o,none⟩) N cap),(8,Pt S.wb 0),(9,.slice (some ⟨M,0,none⟩) N N)] a)
 (hend:∀ a' v' w' todo,Rel zn v' w'->Grows v v'->a'.defers=[]->a'.tmps.getD 6 undef=.bool true->GoesI Tryd.prog main (DT (ScZ zn) Ch) Stop (G { (base 7).at a' todo with mode:=.returning } []) w') :
 GoesI Tryd.prog main (DT (ScZ zn) Ch) Stop (G ((base 7).at a [.code T7]) []) w :=
 goesI_retZ (Q:=fun a w'=>Fl 189 [(6,.bool true)] a∧Kq v.heap.size v w') hvw hn fine_T7 hA.2.1 (fun τ=>wp_mono (tail7_yes (v:=Ap v τ 0) hn1 hN (hR.same (v':=Ap v τ 0) rfl) rfl hstk htr hSn hs4 (hS.go (Kq.same rfl rfl rfl)) (hL.go (Kq.same rfl rfl rfl)) h64 hRw hnd hlt h0 hc hA) (fun e a w' hq=>⟨hq.1,hq.2.1,hq.2.2.os,hq.2.2.out,hq.2.2.size,hq.2.2.old⟩)) (fun a' v' w' todo hQ hd hr hn'=>hend a' v' w' todo hr (hQ.2.grows (Nat.le_refl _)) hd (hQ.1.at 6 (.bool true) (by simp)))
theorem run7 (W:World) (hGl:Gl W) (n0:Int) {sp:Option Addr}{sb so scap:Nat}{sched:List Int}(hS:InI W sp sb so sched) {p:Option Addr}{b o n cap:Nat}{pc:Nat->Option Addr}{ln cp rb:Nat->Nat}{cl:Nat->List Cl}(hC:InS W p b o n pc ln cp rb cl) :
 ∃ M last o w' t',runNT Tryd.prog (M+1) (solo (G (Frame.enter Tryd.prog 7 #[.slice sp sched.length scap,I n0,.slice p n cap] .normal) []) W) #[]=(.ended o w',t') ∧
   runN Tryd.prog M (solo (G (Frame.enter Tryd.prog 7 #[.slice sp sched.length scap,I n0,.slice p n cap] .normal) []) W)=.next last∧step Tryd.prog last=.ended o w'∧Go.Conc.Good Tryd.prog (PostT W) last o w' t':=by
 have e:Frame.enter Tryd.prog 7 #[.slice sp sched.length scap,I n0,.slice p n cap] .normal=(base 7).at { tmps:=#[.slice sp sched.length scap,I n0,.slice p n cap]++Array.replicate 186 undef,defers:=[] } [.code C7]:=enter_at (fn:=Tryd.f7) (c:=C7) _ Tryd.func7 (by rfl)
 rw[e,solo_eq_crowd]
 have A:Alone #[G ((base 7).at { tmps:=#[.slice sp sched.length scap,I n0,.slice p n cap]++Array.replicate 186 undef,defers:=[] } [.code C7]) []] W #[] (fun _=>0):=⟨leavers_one _ _,0,Nat.zero_le _,past_nil⟩
 obtain ⟨N1,gs1,a1,w1,sl1,T1,q1,r1,z1,h1,⟨bd,ad,od,qd,rd,oe,kd,⟨d1,rfl⟩,hoe,hback,rfl⟩,A1⟩:=D4 A rfl none (Stop:=fun g w'=>∃ (bd:Frame) (ad:Act) (od:Array Oper) (qd:Nat) (rd:List Nat) (oe:Oper) (kd:List Item),(∃ d,w'=W.at d)∧od[qd]? = some oe ∧
  (∀ (Ch:Nat->Prop) (Stop:Goroutine->World->Prop) (w1:World),(∀ a,Fl 189 [(0,.slice sp sched.length scap),(1,I n0),(2,.slice p n cap),(7,.bool true)] a->GoesI Tryd.prog true (DT (ScZ zn) Ch) Stop (G ((base 7).at a [.code P7]) []) w1)->GoesI Tryd.prog true (DT (ScZ zn) Ch) Stop (G (bd.at (ad.put oe.dst (.bool true)) (.inRegion od rd :: kd)) []) w1) ∧
  g=G ((base 27).at { tmps:=Array.replicate 137 undef,defers:=[] } [.code hwB]) [bd.at ad (.inRegion od (qd :: rd) :: kd)])
  (law7_in _ _ _ (fun w' bd ad od qd rd oe kd hw ho hback=>GoesI.stop fun d=>⟨bd,ad,od,qd,rd,oe,kd,by obtain ⟨d0,rfl⟩:=hw;exact ⟨d,rfl⟩,ho,hback,rfl⟩))
 obtain ⟨N2,gs2,w2,sl2,T2,q2,r2,h2,A2,g2⟩:=tawake_all hoe sl1 A1 (w:=W.at d1) (show Gl (W.at d1) from ⟨hGl.a,hGl.b,hGl.c,hGl.d⟩) h1
 have g2':Grows W w2:=⟨g2.size,g2.old,g2.os,g2.output⟩
 have hS2:=hS.grows g2'
 have hC2:=hC.grows g2'
 obtain ⟨N3,gs3,a3,w3,sl3,T3',q3,r3,z3,h3,⟨wb,bk,sc,bd,ad,od,qd,rd,oe,kd,hnew,hoe3,hend7,rfl⟩,A3⟩:=D4 A2 h2 sl2 (Stop:=fun g w'=>∃ (wb bk:Nat) (sc:Value) (bd:Frame) (ad:Act) (od:Array Oper) (qd:Nat) (rd:List Nat) (oe:Oper) (kd:List Item),IsNew w2 sched wb bk sc w'∧od[qd]? = some oe ∧
  (∀ (Ch:Nat->Prop) (Stop:Goroutine->World->Prop) (w2:World) (A:Value) (E:Int),(∀ a,Fl 189 [(1,I n0),(2,.slice p n cap),(7,.bool true),(8,Pt wb 0),(9,A),(10,I E)] a->GoesI Tryd.prog true (DT (ScZ zn) Ch) Stop (G ((base 7).at a [.code T7]) []) w2) ->
    GoesI Tryd.prog true (DT (ScZ zn) Ch) Stop (G (bd.at (ad.put oe.dst (.tuple #[A,I E])) (.inRegion od rd :: kd)) []) w2) ∧
  g=G ((base 28).at { tmps:=#[Pt wb 0,I n0,.slice p n cap]++Array.replicate 27 undef,defers:=[] } [.code B28]) [bd.at ad (.inRegion od (qd :: rd) :: kd)])
  (hback (fun _=>False) _ w2 (law7_b sp scap sb so sched hS2.at_ hS2.len hS2.cell _ _ (Rel.refl w2) (fun c hc=>hc.elim) (fun v' w' wb bk sc bd ad od qd rd oe kd hr hn hnew ho hend=>GoesI.stop fun d=>⟨wb,bk,sc,bd,ad,od,qd,rd,oe,kd,by
    have e:(w'.at d).heap=v'.heap:=hr.eq
    have hgr:Grows v' (w'.at d):=⟨by rw[e];exact Nat.le_refl _,fun b _=>by rw[e],hr.os,hr.output⟩
    refine ⟨(hnew.mem.grows hgr).mem,?_,hnew.new,⟨by rw[e];exact hnew.old.size,fun b hb=>by rw[e];exact hnew.old.old b hb,hr.os.trans hnew.old.os,hr.output.trans hnew.old.output⟩⟩
    obtain ⟨c,m,h⟩:=hnew.opn
    exact ⟨c,m,by rw[e];exact h⟩,ho,hend,rfl⟩)))
 have g3:Grows W w3:=g2'.trans' hnew.old
 have hC9:=hC2.grows hnew.old
 have fin:∀ (N4:Nat) (gs4:Array Goroutine) (w4:World) (sl4:Option (Nat×Nat)) (T3:Trace) (q4:Nat->Nat) (a4:Goroutine),runNT Tryd.prog N4 (crowd gs3 w3 sl3) T3'=(.next (crowd gs4 w4 sl4),T3)->gs4[0]? = some a4->Alone gs4 w4 T3 q4->(∃ a' todo,a'.defers=[]∧a'.tmps.getD 6 undef=.bool true∧Grows W w4∧a4=G { (base 7).at a' todo with mode:=.returning } []) ->
  ∃ M last o w' t',runNT Tryd.prog (M+1) (crowd #[G ((base 7).at { tmps:=#[.slice sp sched.length scap,I n0,.slice p n cap]++Array.replicate 186 undef,defers:=[] } [.code C7]) []] W none) #[]=(.ended o w',t')∧runN Tryd.prog M (crowd #[G ((base 7).at { tmps:=#[.slice sp sched.length scap,I n0,.slice p n cap]++Array.replicate 186 undef,defers:=[] } [.code C7]) []] W none)=.next last∧step Tryd.prog last=.ended o w'∧Go.Conc.Good Tryd.prog (PostT W) last o w' t':=by
  intro N4 gs4 w4 sl4 T3 q4 a4 r4 h4 A4 ⟨a',todo,hd,h6,g4,ea⟩
  subst ea
  obtain ⟨M5,last,o,w',t',e1,e2,e3,e4⟩:=alone_ends A4 h4 sl4 (Post:=PostT W) (fun B d=>⟨rfl,.bool true,#[],end7 hd h6,fun e he=>by simp at he,rfl,⟨g4.size,g4.old,g4.os,g4.output⟩⟩)
  have hrun:=runNT_then (runNT_then (runNT_then r1 r2) r3) r4
  refine ⟨N1+N2+N3+N4+M5,last,o,w',t',?_,?_,e3,e4⟩
  ·rw[Nat.add_assoc,runNT_add,hrun];exact e1
  ·rw[runN_add,←runNT_fst Tryd.prog _ _ #[],hrun];exact e2
 by_cases hyes:(∀ k,k<n->ln k≤64)∧(0<n∧n≤8)∧0≤n0∧n0≤1000
 ·obtain ⟨h64,hn8,hx0,hx1⟩:=hyes
  obtain ⟨s,rfl⟩:∃ s:Nat,n0=(s:Int):=⟨n0.toNat,by omega⟩
  have hs1:s≤1000:=by omega
  have hl64:∀ j,j<n->(cl j).length≤64:=fun j hj=>by rw[hC.len j hj];exact h64 j hj
  have hlens:∀ caps pk N K,lens (scrs (mcT s) 52 caps pk N n K pc ln cp rb cl)≤512:=fun caps pk N K=>Nat.le_trans (lens_scrs _ _ _ _ _ _ _ _ _ _ _ _ hl64) (by omega)
  have hpp:=hC.at_ hn8.1
  subst hpp
  have hG3:=hGl.grow g3.old
  have hGlt:=hGl.size
  have hpf:∀ b,glP w3 b≠none->¬ Own (newS wb bk w2.heap.size sc sched) [] b∧b≠(newS wb bk w2.heap.size sc sched).bk:=fun b hb=>by
   have hb':=glP_lt hb
   have hs2:=g2'.size
   exact ⟨fun h=>by have:=hnew.new b (.inl h);omega,fun h=>by have:=hnew.new b (.inr h);omega⟩
  obtain ⟨N4,gs4,w4,sl4,T4',q4,caps,pk,N,cv,K,S',S1,l1,m,p',r4,z4,h4,A4,hK,hnv,hH,hT,O⟩:=tplay_all s hs1 (S:=newS wb bk w2.heap.size sc sched) (n:=n) (sb:=b) (so:=o) (cap:=cap) (pc:=pc) (ln:=ln) (cp:=cp) (rb:=rb) (cl:=cl) hoe3 sl3 300000 A3 h3 hnew.mem rfl rfl rfl hnew.opn hG3.gf (glP_has w3) hpf hG3.row (asked_of hC2 hnew h64 hn8.1) hn8 (fun caps pk N K=>by
   have:=hlens caps pk N K
   show 0+2*_≤1000000
   omega) (by have:=hS.len;show sched.length≤_;omega) (fun x hx=>hS.inr x hx) (fun _=>.done []) (fun caps pk N cv K hK S1 l1 hH=>Mw.play_ends (metT s hs1) (cells_T hs1 hK) (kok_T hK) hH rfl (by rw[scrs_len];exact hn8.2) (hlens caps pk N K) (by show (6:Nat)≤8;decide) rfl)
  have hcl:∀ k c,(scrs (mcT s) 52 caps pk N n K pc ln cp rb cl)[k]? = some c->cl k=c.calls:=fun k c hk=>by
   have h1:=congrArg (fun l=>l[k]?) (scrs_calls (mc:=mcT s) (fid:=52) (caps:=caps) (pk:=pk) (N:=N) (n:=n) (K:=K) (pc:=pc) (ln:=ln) (cp:=cp) (rb:=rb) (cl:=cl))
   simp only[List.getElem?_map,hk,Option.map_some] at h1
   have h2:=(List.getElem?_eq_some_iff.1 hk).1
   rw[scrs_len] at h2
   rw[List.getElem?_range' (by omega)] at h1
   simp only[Option.map_some,Option.some.injEq,Nat.zero_add,Nat.one_mul] at h1
   exact h1.symm
  obtain ⟨L,Rw,an,t1,t2,t3,t4,hV,hdn,hRw,hnd,hlt,h0,hcnt⟩:=keeps_run hs1 (N:=n) (scrs_len _ _ _ _ _ _ _ _ _ _ _ _) hn8.2 (hlens caps pk N K) (scrs_ans _ _ _ _ _ _ _ _ _ _ _ _ (fun j hj=>hC.len j hj)) rfl rfl rfl rfl hK hH hT cl hcl
  have hcnt':∀ z,totN (fun k=>(putL (cl k) (p'.l k).ans (cl k).length).count z) n=totN (fun k=>(tolL (cl k) (p'.l k).ans (cl k).length).count z) n+(Rw.map fun a=>B8 (vlJ s a) L).count z:=fun z=>by
   have e1:=Ii (f:=fun k=>(putL (cl k) (an k) (cl k).length).count z) (g:=fun k=>(putL (cl k) (p'.l k).ans (cl k).length).count z) n (fun k hk=>by rw[(hdn k hk).1];rfl)
   have e2:=Ii (f:=fun k=>(tolL (cl k) (an k) (cl k).length).count z) (g:=fun k=>(tolL (cl k) (p'.l k).ans (cl k).length).count z) n (fun k hk=>by rw[(hdn k hk).1];rfl)
   rw[e1,e2]
   exact hcnt z
  have hSn:S'.n=L.length:=by have:=congrArg TS.n hnv;exact this.trans t2
  have hStr:S'.tr=flat L:=by have:=congrArg TS.tr hnv;exact this.trans t1
  have hSw:S'.wb=wb:=by
   have h5:=congrArg TS.wb hnv
   have h6:=(turns_wb hT).trans (hires_wb hH)
   exact h5.trans h6
  have hg34:∀ b,b<w2.heap.size->w4.heap[b]? = w3.heap[b]?:=fun b hb=>by
   have hs:=hnew.old.size
   exact (O.old b (by omega) (fun h=>by have:=hnew.new b (.inl h);omega) (fun h=>by have:=hnew.new b (.inr h);omega)).1
  have hgW:Grows W w4:=⟨by have:=g3.size;have:=O.size;omega,fun b hb=>by rw[hg34 b (by have:=g2'.size;omega)];exact g3.old b hb,O.os.trans g3.os,O.out.trans g3.output⟩
  have hSk:S'.stk=false:=by have:=congrArg TS.stk hnv;exact this.trans t4
  have hC3:=hC.grows hgW
  subst hSw
  have hal:∀ j,j<n->(p'.l j).ans.length=ln j:=fun j hj=>(O.ans j hj).1
  have hSL:SL n b o ln cp rb (fun j=>roOf (pc j)) pc cl w4:=⟨hC3.len,hC3.row,hC3.pq,hC3.call⟩
  have hAL:AL n (N+1) (fun j=>N+4+3*j+2) ln p'.l w4:=⟨O.rows,hal,fun k hk j q hq=>by
   have hj:=(List.getElem?_eq_some_iff.1 hq).1
   have hpos:0<ln k:=by have:=hal k hk;omega
   have:=arow_get _ _ _ hq
   exact ⟨cell_of ((O.ans k hk).2.1 hpos) (by rw[List.getElem?_toArray];exact this.1),cell_of ((O.ans k hk).2.1 hpos) (by rw[List.getElem?_toArray];exact this.2)⟩⟩
  obtain ⟨N5,gs5,a5,w5,sl5,T5,q5,r5,z5,h5,hs5,A5⟩:=D4 A4 h4 sl4 (hend7 (fun _=>False) (fun g w'=>∃ a' todo,a'.defers=[]∧a'.tmps.getD 6 undef=.bool true∧Grows W w'∧g=G { (base 7).at a' todo with mode:=.returning } []) w4 _ 0 (fun a hA=>law7_yes (v:=w4) (S:=S') hs1 hn8.2 O.mem.rep hSk hStr hSn (by omega) hSL hAL h64 hRw hnd hlt h0 hcnt' (Rel.refl w4) (fun c hc=>hc.elim) (show Fl 189 [(7,.bool true),(10,I 0),(1,I (s:Nat)),(2,.slice (some ⟨b,o,none⟩) n cap),(8,Pt S'.wb 0),(9,.slice (some ⟨N+1,0,none⟩) n n)] a from hA.sub (by simp)) (fun a' v' w' todo hr hgr hd h6=>GoesI.stop fun d=>⟨a',todo,hd,h6,by
   have e:(w'.at d).heap=v'.heap:=hr.eq
   have:=hgW.trans' hgr
   exact ⟨by rw[e];exact this.size,fun b hb=>by rw[e];exact this.old b hb,hr.os.trans this.os,hr.output.trans this.output⟩,rfl⟩)))
  exact fin _ gs5 w5 sl5 T5 q5 a5 (runNT_then r4 r5) h5 A5 hs5
 ·obtain ⟨E,hE0,hE⟩:∃ E:Int,(E=1∨E=2)∧(Refused n ln E∨((∀ k,k<n->ln k≤64)∧(0<n∧n≤8)∧(n0<0∨1000<n0)∧E=1)):=by
   by_cases h64:∀ k,k<n->ln k≤64
   ·by_cases hn8:0<n∧n≤8
    ·refine ⟨1,.inl rfl,.inr ⟨h64,hn8,?_,rfl⟩⟩
     have:¬ (0≤n0∧n0≤1000):=fun h=>hyes ⟨h64,hn8,h⟩
     omega
    ·exact ⟨1,.inl rfl,.inl (.inr ⟨h64,by omega,rfl⟩)⟩
   ·refine ⟨2,.inr rfl,.inl (.inl ⟨?_,rfl⟩)⟩
    simp only[Classical.not_forall] at h64
    obtain ⟨k,hk,hk2⟩:=h64
    exact ⟨k,hk,by omega⟩
  obtain ⟨N5,gs5,a5,w5,sl5,T5,q5,r5,z5,h5,hs5,A5⟩:=D4 A3 h3 sl3 (Stop:=fun g w'=>∃ a' todo,a'.defers=[]∧a'.tmps.getD 6 undef=.bool true∧Grows W w'∧g=G { (base 7).at a' todo with mode:=.returning } []) (tplay_no (S:=newS wb bk w2.heap.size sc sched) (v:=w3) n0 p n cap pc ln cp (fun k hk=>⟨b,o,hC9.at_ (by omega),hC9.row k hk⟩) hC.n rfl hnew.mem hE [] hoe3 (Rel.refl w3) (fun c hc=>hc.elim) (fun v' w' hr hn e1 e2 e3=>hend7 (fun _=>False) _ w' _ E (fun a hA=>law7_no hE0 hr hn (show Fl 189 [(7,.bool true),(10,I E)] a from hA.sub (by simp)) (fun a' v'' w'' todo hr' hgr hd h6=>GoesI.stop fun d=>⟨a',todo,hd,h6,by
   have e:(w''.at d).heap=v''.heap:=hr'.eq
   have:Grows W v':=g3.trans' (Jz e1 e2 e3)
   have:=this.trans' hgr
   exact ⟨by rw[e];exact this.size,fun b hb=>by rw[e];exact this.old b hb,hr'.os.trans this.os,hr'.output.trans this.output⟩,rfl⟩))))
  exact fin _ gs5 w5 sl5 T5 q5 a5 r5 h5 A5 hs5
end Go.Proofs.YtbbhahigofeacaaDoor.Gen
