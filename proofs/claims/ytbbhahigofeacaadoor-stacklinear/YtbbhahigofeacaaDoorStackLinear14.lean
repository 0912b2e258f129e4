/- StackLinear, part 14 of 32: R3With, R3Ways, R3Ways2, R3Ways3. -/
import Derived.Test.YtbbhahigofeacaaDoorStackLinear01
import Derived.Test.YtbbhahigofeacaaDoorStackLinear11
import Derived.Deep.RegionWith
set_option linter.unusedSimpArgs false
set_option linter.unusedVariables false
set_option maxHeartbeats 4000000
set_option maxRecDepth 100000
noncomputable section
namespace Go.Proofs.YtbbhahigofeacaaDoor.R3
open Go.RowKit Go.Proofs.YtbbhahigofeacaaDoor.His Go.Deep Go.Maps
variable {w:World} {s:List Int}
abbrev SI (w:World) (v:Value) (s:List Int):Prop:=SL 1 encI w v s
theorem info3:(Tryd.prog.info? 3).map (λi=>(i.zero,i.size,i.bytes))=some (some (I 0),1,8):=by kernel_rfl
theorem own_si {base:Nat}{v:Value}(h:w.ownsRow base 3 1 v s.length (s.map I)):SI w v s:=by
 rcases h.2 with ⟨rfl,h0⟩|⟨g,cap,cur,rfl,hb,hh,h1,h2,h3,h4⟩
 .have:s=[]:=List.length_eq_zero_iff.1 h0
  subst this;exact ⟨none,0,rfl,Qi _,Nat.zero_le _,λi a hi=>by simp at hi⟩
 .refine ⟨_,cap,rfl,h1,h2,λi a hi=>⟨g,0,rfl,(Qb hh).1,λj u hj=>?_⟩⟩
  have hi':=(Qc hi).1;have hj0:j=0:=by have:=(Qc hj).1;simp[encI] at this;omega
  subst hj0;simp[encI] at hj;subst hj;have hf:(s.map I)[i]? = some (I a):=by rw[List.getElem?_map,hi];rfl
  rw[<-h4,List.getElem?_take_of_lt (by omega)] at hf;simp only[World.cell?,hh,Nat.zero_add,Nat.add_zero,Nat.mul_one];simpa using hf
theorem si_cells {ad:Addr}{cap:Nat}(h:SI w (.slice (some ad) s.length cap) s):∀ j u,(s.map I)[j]? = some u->w.cell? (ad.add j)=some u:=by
 obtain ⟨p,cap',e,_,_,h3⟩:=h;cases e;intro j u hj;rw[List.getElem?_map] at hj;cases hi:s[j]? with
 |none=>rw[hi] at hj;cases hj
 |some a =>rw[hi] at hj;cases hj;obtain ⟨blk,off,e2,_,hr⟩:=h3 j a hi;cases e2;have:=hr 0 (I a) rfl;rw[Addr.add_mid];simpa using this
theorem append_none (w:World) (ty:TypeId) (sp:Option Addr) (c:Nat):(Builtin.append_ #[25,25] ty #[.slice none 0 0,.slice sp 0 c]).run Tryd.prog w=.ok (.slice none 0 0) w:=by
 obtain ⟨j0,hj',hj0,hj1,hj2⟩:=info_parts info3;have hl:∀ (x:Addr),(loadCells x 0).run Tryd.prog w=.ok #[] w:=λx=>by simpa using run_loadCells_list (P:=Tryd.prog) w x [] (by simp)
 cases sp<;>simp[Builtin.append_,run_underlying Tryd.underlying25,sizeOf,typeInfo,hj',Builtin.lenOf,Builtin.firstCells,hl]
theorem wp_append_none {ops:Array Oper}{rest:List Oper}{op:Oper}{a:Act}{Q:Exit->Act->World->Prop}(hw:Region.wanted op (yielded ops a.tmps)=true) (s x:Operand) (ho:op.op=.call { callee:=.builtin .append,args:=#[s,x],argTypes:=#[25,25] })
 (sp:Option Addr) (c:Nat) (hs:a.eval s=.slice none 0 0) (hx:a.eval x=.slice sp 0 c) (h:wpList Tryd.prog ops Q rest (a.put op.dst (.slice none 0 0)) w):wpList Tryd.prog ops Q (op :: rest) a w:=by
 refine wpG_val hw ?_ h;have e:op={ dst:=op.dst,op:=.call { callee:=.builtin .append,args:=#[s,x],argTypes:=#[25,25] },type:=op.type,pos:=op.pos,after:=op.after,guard:=op.guard }:=by rw[<-ho]
 rw[e,Go.BigFrame.execOp_builtin,Go.BigFrame.builtin_append,Sem.run_bind];have h1:(#[s,x]:Array Operand).map a.eval=#[.slice none 0 0,.slice sp 0 c]:=by simp[hs,hx]
 rw[h1,append_none];rfl
theorem one_ints (s:List Int):∀ u∈s.map I,u.oneCell'=true:=by intro u hu;obtain ⟨a,_,rfl⟩:=List.mem_map.1 hu;rfl
theorem news1 (w:World) (v:Int) (t:TypeId) {n:Nat}(hn:n=w.heap.size):∀ j u,[I v][j]? = some u->(w.alloc (.cells #[I v] t)).cell? ((⟨n,0,none⟩:Addr).add j)=some u:=by subst hn;intro j u hj;rw[Addr.add_mid];exact I7 w #[I v] t 0 [I v] rfl rfl j u hj
theorem with_any (sv:Value) (s:List Int) (v:Int) (w:World) (h:SI w sv s) (hn:s.length<=1000000):
 Calls Tryd.prog 118 #[sv,I v] w λe w'=>∃ p' c',e=.returned (.slice p' (s.length+1) c')∧SI w' (.slice p' (s.length+1) c') (s++[v])∧Below w.heap.size w w':=by
 have HS:Hid (SI w sv s):=h;obtain ⟨p,cap,rfl,hc,hm,h3⟩:=h;unfold maxLen at hm;obtain ⟨j0,hj',hj0,hj1,hj2⟩:=info_parts info3;have hnil:w.ownsRow w.heap.size 3 1 (.slice none 0 0) 0 []:=⟨rfl,.inl ⟨rfl,rfl⟩⟩
 have HNIL:Hid (w.ownsRow w.heap.size 3 1 (.slice none 0 0) 0 []):=hnil;by_cases h0:s.length=0
 .have hs:s=[]:=List.length_eq_zero_iff.1 h0
  subst hs;have ha:=append_none w 47 p cap;clear h3 hnil h0
  go_enter Tryd.func118,Tryd.ntmps118
  go_wp2_with (first
   |((with_reducible refine wp_append_none ?_ (.tmp 6) (.tmp 7) ?_ p cap ?_ ?_ ?_);rfl;rfl;rfl;rfl)
   |(at_builtin;refine wpList_append_lies _ rfl (.tmp 9) (.tmp 11) 25 rfl w.heap.size 3 j0 _ 1 8 Tryd.underlying25 hj' hj0 hj1 hj2 rfl (by decide) (.slice none 0 0) 0 [] ?_
      (D8 (Ae (Below.refl _ _) _) HNIL.out) ⟨w.heap.size,0,none⟩ 1 1 [I v] rfl rfl (news1 _ _ _ rfl) (one_ints [v]) (by decide) (by unfold maxLen;omega) (by omega) (by simp) _ rfl ?_;rfl;intro g cpg w8 hown8 hgrow8 hat8 hlt8))
  go_wp2_with fail;go_ret;refine ⟨_,_,rfl,own_si (s:=[v]) hown8,(Ae (Below.refl _ _) _).grown hgrow8 (by simp) (λg hg=>by cases hg)⟩
 .obtain ⟨ad,rfl⟩:∃ ad,p=some ad:=by obtain ⟨blk,off,e,_⟩:=h3 0 _ (Qf (by omega));exact ⟨_,e⟩
  have hne:0<s.length:=by omega
  clear h3 hnil h0
  go_enter Tryd.func118,Tryd.ntmps118
  go_wp2_with (first
   |(at_builtin;refine wpList_append_lies _ rfl (.tmp 6) (.tmp 7) 25 rfl w.heap.size 3 j0 _ 1 8 Tryd.underlying25 hj' hj0 hj1 hj2 rfl (by decide) (.slice none 0 0) 0 [] ?_
      HNIL.out ad s.length cap (s.map I) rfl (by simp) (si_cells HS.out) (one_ints s) hne (by unfold maxLen;omega) (by omega) (Qi _) _ rfl ?_;rfl;intro g1 cp1 w7 hown7 hgrow7 hat7 hlt7)
   |(at_builtin;refine wpList_append_lies _ rfl (.tmp 9) (.tmp 11) 25 rfl w.heap.size 3 j0 _ 1 8 Tryd.underlying25 hj' hj0 hj1 hj2 rfl (by decide) (.slice (some ⟨g1,0,none⟩) s.length cp1) s.length (s.map I) ?_
      (D8 (Ae (Below.refl _ _) _) (by simpa using hown7)) ⟨w7.heap.size,0,none⟩ 1 1 [I v] rfl rfl (news1 _ _ _ rfl) (one_ints [v]) (by decide) (by unfold maxLen;omega) (by omega) (by have:=hgrow7.size;simp;omega) _ rfl ?_;rfl;intro g cpg w8 hown8 hgrow8 hat8 hlt8))
  go_wp2_with fail;go_ret;have hb7:Below w.heap.size w w7:=(Below.refl _ _).grown hgrow7 (Qi _) (λg hg=>by cases hg);have hz7:=hb7.size;have hg1:=own_block hown7 g1 rfl;refine ⟨_,_,rfl,own_si (base:=w.heap.size) (s:=s++[v]) ?_,(Ae hb7 _).grown hgrow8 (by simp;omega) (λk hk=>by have:g1=k:=Qd hk;omega)⟩;simpa using hown8
def WOuts (w:World) (v:Value) (os:List ((Int×Int)×List Int)):Prop :=
 ∃ p,v=.slice p os.length os.length∧∀ i o,os[i]? = some o->∃ blk sv,p=some ⟨blk,0,none⟩∧w.rangeAt blk (i*3) [I o.1.1,I o.1.2,sv]∧SI w sv o.2
theorem wouts_nil (w:World):WOuts w (.slice none 0 0) []:=⟨none,rfl,λi o h=>by simp at h⟩
theorem wouts_one {blk:Nat}{o:(Int×Int)×List Int}{sv:Value}(h:w.rangeAt blk 0 [I o.1.1,I o.1.2,sv]) (hs:SI w sv o.2):WOuts w (.slice (some ⟨blk,0,none⟩) 1 1) [o]:=⟨_,rfl,λi o' hi=>by
 cases i with
 |zero=>simp at hi;subst hi;exact ⟨blk,sv,rfl,by simpa using h,hs⟩
 |succ i=>simp at hi⟩
theorem wouts_two {blk:Nat}{o o2:(Int×Int)×List Int}{sv sv2:Value}(h:w.rangeAt blk 0 [I o.1.1,I o.1.2,sv]) (hs:SI w sv o.2) (h2:w.rangeAt blk 3 [I o2.1.1,I o2.1.2,sv2]) (hs2:SI w sv2 o2.2):
 WOuts w (.slice (some ⟨blk,0,none⟩) 2 2) [o,o2]:=⟨_,rfl,λi o' hi=>by
 match i,hi with
 |0,hi=>simp at hi;subst hi;exact ⟨blk,sv,rfl,by simpa using h,hs⟩
 |1,hi=>simp at hi;subst hi;exact ⟨blk,sv2,rfl,by simpa using h2,hs2⟩
 |i+2,hi=>simp at hi⟩
theorem ok_any (v:Int) (w:World):Calls Tryd.prog 93 #[I v] w λe w'=>e=.returned (.agg #[I 0,I v])∧Below w.heap.size w w':=by
 go_enter Tryd.func93,Tryd.ntmps93
 go_wp2
 refine bodyPost_ret (v:=.agg #[I 0,I v]) (by simp[results,Tryd.results40,go_sem]) rfl ⟨rfl,?_⟩;exact Ae (Below.refl _ _) _
theorem keep4 {u u':World}{a1 a2 a3 a4:Addr}{v1 v2 v3 v4:Value}(h:u.cell? a1=some v1∧u.cell? a2=some v2∧u.cell? a3=some v3∧u.cell? a4=some v4) (hb:Below u.heap.size u u'):u'.cell? a1=some v1∧u'.cell? a2=some v2∧u'.cell? a3=some v3∧u'.cell? a4=some v4 :=
 ⟨Bi hb h.1,Bi hb h.2.1,Bi hb h.2.2.1,Bi hb h.2.2.2⟩
theorem keep1 {u u':World}{a1:Addr}{v1:Value}(h:u.cell? a1=some v1) (hb:Below u.heap.size u u'):u'.cell? a1=some v1:=Bi hb h
theorem snoc_of (h:s≠[]):∃ r v,s=r++[v]:=⟨s.dropLast,s.getLast h,(List.dropLast_concat_getLast h).symm⟩
theorem si_less {p:Option Addr}{cap:Nat}{r:List Int}{v:Int}(h:SI w (.slice p (r.length+1) cap) (r++[v])):SI w (.slice p r.length cap) r:=by obtain ⟨p',cap',e,h1,h2,h3⟩:=h;simp only[Qj,List.length_singleton] at e h1;cases e;exact ⟨_,_,rfl,by omega,h2,λi a hi=>h3 i a (by rw[Qn (Qc hi).1];exact hi)⟩
theorem stack_any (sv:Value) (s:List Int) (x:Ev) (w:World) (h:SI w sv s) (hn:s.length<=1000000):
 Calls Tryd.prog 94 #[sv,evV x] w λe w'=>∃ v,e=.returned v∧WOuts w' v (Dj s x)∧Below w.heap.size w w':=by
 by_cases h1:x.op=1
 .have e1:Dj s x=[((0,0),s++[x.a]),((80,0),s)]:=by unfold Dj;rw[if_pos h1]
  rw[e1];have h1':(x.op==1)=true:=by simpa using h1
  have HS:Hid (SI w sv s):=h;obtain ⟨p,cap,rfl,hc,hm,_⟩:=h;unfold maxLen at hm;clear h1 e1
  go_enter Tryd.func94,Tryd.ntmps94
  go_wp2_with fail
  go_region_held3 (λu=>u.cell? ⟨w.heap.size,2,none⟩=some (I x.a)∧u.cell? ⟨w.heap.size+1,0,none⟩=some (I 80)∧u.cell? ⟨w.heap.size+1,1,none⟩=some (I 0)∧u.cell? ⟨w.heap.size+1,2,none⟩=some (.slice p s.length cap))
   (first|(exact keep4 ‹_› ‹Below _ _ _›)|(exact keep4 ‹_› (Ae (Below.refl _ _) _))|(simp[go_sem, *];done))
   (first
     |(go_at_call 118;refine (with_any (.slice p s.length cap) s x.a _ (HS.out.later (below_drew (Ae (Ae (Below.refl _ _) _) _))) hn).mono ?_;rintro e w5 ⟨p5,c5,rfl,hsi5,hb5⟩))
  rename_i hH;clear hH;go_wp2_with fail;go_ret;have hb:Below w.heap.size w w5:=A9 (below_drew (Ae (Ae (Below.refl _ _) _) _)) hb5;refine ⟨_,rfl,wouts_two (I7 _ _ _ _ _ rfl rfl) (hsi5.later (Ae (Below.refl _ _) _)) (I7 _ _ _ _ _ rfl rfl) (HS.out.later (Ae hb _)),Ae hb _⟩
 .have h1':(x.op==1)=false:=by simpa using h1
  by_cases h2:x.op=2
  .have h2':(x.op==2)=true:=by simpa using h2
   by_cases h0:s=[]
   .subst h0
    have e1:Dj [] x=[((90,0),[])]:=by unfold Dj;rw[if_neg h1,if_pos h2];rfl
    rw[e1];have HS:Hid (SI w sv []):=h;obtain ⟨p,cap,rfl,hc,hm,_⟩:=h;unfold maxLen at hm;clear h1 h2 e1
    go_enter Tryd.func94,Tryd.ntmps94
    go_wp2_with fail;go_ret;exact ⟨_,rfl,wouts_one (I7 _ _ _ _ _ rfl (by simp)) (HS.out.later (Ae (Ae (Below.refl _ _) _) _)),Ae (Ae (Below.refl _ _) _) _⟩
   .obtain ⟨r,v,rfl⟩:=snoc_of h0
    have e1:Dj (r++[v]) x=[((0,v),r)]:=by unfold Dj;rw[if_neg h1,if_pos h2];simp
    rw[e1];have HS:Hid (SI w sv (r++[v])):=h;obtain ⟨p,cap,rfl,hc,hm,h3⟩:=h;unfold maxLen at hm;obtain ⟨blk,off,rfl,hlb,hr⟩:=h3 r.length v (by simp);have hv:w.cell? ⟨blk,off+r.length,none⟩=some (I v):=by simpa using hr 0 (I v) rfl
    simp only[Qj,List.length_singleton] at hc hn HS ⊢;generalize hm':r.length=m at hc hn HS hv ⊢;have hl0:(((m+1:Nat):Int)==0)=false:=by simp;omega
    have hl1:((m:Int)+1==0)=false:=by simp;omega
    have hi1:(0:Int)<=(m:Int):=by omega
    have hi2:(m:Int)<=(m:Int)+1:=by omega
    have hi3:(m:Int)<(m:Int)+1:=by omega
    have hi4:(m:Int)<=(cap:Int):=by omega
    have hi5:(m:Int)+1 - 1=m:=by omega
    have hw1:IntKind.i64.wrap ((m:Int)+1 - 1)=m:=by rw[IntKind.wrap_i64];omega
    have hw2:IntKind.i64.wrap (m:Int)=m:=by rw[IntKind.wrap_i64];omega
    have hw3:IntKind.i64.wrap (((m+1:Nat):Int) - 1)=m:=by rw[IntKind.wrap_i64];omega
    have HM:Hid (r.length=m):=hm';clear h1 h2 e1 h3 hr h0 hm'
    go_enter Tryd.func94,Tryd.ntmps94
    go_wp2_with fail
    go_region_held3 (λu=>u.cell? ⟨blk,off+m,none⟩=some (I v))
     (first|(exact keep1 ‹_› ‹Below _ _ _›)|(exact keep1 ‹_› (Ae (Below.refl _ _) _))|(simp[go_sem, *];done))
     (first
       |(go_at_call 93;refine (ok_any v _).mono ?_;rintro e w5 ⟨rfl,hb5⟩))
    rename_i hH;clear hH;go_wp2_with fail;go_ret;have hb:Below w.heap.size w w5:=A9 (below_drew (Ae (Below.refl _ _) _)) hb5;have hsi:SI w (.slice (some ⟨blk,off,none⟩) m cap) r:=by
     have:=si_less (r:=r) (v:=v) (p:=some ⟨blk,off,none⟩) (cap:=cap) (w:=w) (by rw[HM.out];exact HS.out)
     rwa [HM.out] at this
    exact ⟨_,rfl,wouts_one (o:=((0,v),r)) (sv:=.slice (some ⟨blk,off,none⟩) m cap) (I7 _ _ _ _ _ rfl rfl) (hsi.later (Ae hb _)),Ae hb _⟩
  .have e1:Dj s x=[]:=by unfold Dj;rw[if_neg h1,if_neg h2]
   rw[e1];have h2':(x.op==2)=false:=by simpa using h2
   obtain ⟨p,cap,rfl,hc,hm,_⟩:=h;unfold maxLen at hm;clear h1 h2 e1
   go_enter Tryd.func94,Tryd.ntmps94
   go_wp2_with fail;go_ret;exact ⟨_,rfl,wouts_nil _,Ae (Below.refl _ _) _⟩
theorem si_one {blk:Nat}{z:Int}(h:w.cell? ⟨blk,0,none⟩=some (I z)):SI w (.slice (some ⟨blk,0,none⟩) 1 1) [z] :=
 ⟨_,_,rfl,Qi _,by unfold maxLen;omega,λi a hi=>by
  cases i with
  |zero =>
   simp at hi;subst hi;refine ⟨blk,0,rfl,World.block_lt_of_cell? _ _ h,λj u hj=>?_⟩;cases j with
   |zero=>simp[encI] at hj;subst hj;simpa using h
   |succ j=>simp[encI] at hj
  |succ i=>simp at hi⟩
theorem make_nums (n:Nat) (hn:n<=1048576) (w:World):
 (Instr.makeSlice 25 (.int .i64 (n:Int)) (.int .i64 (n:Int))).run Tryd.prog w=.ok (.slice (some ⟨w.heap.size,0,none⟩) n n) (w.alloc (.cells (madeCells #[I 0] n) 3)):=by
 cases hq:Tryd.prog.info? 3 with
 |none=>have:=info3;rw[hq] at this;cases this
 |some i =>have hi:=info3;rw[hq] at hi;simp only[Option.map_some,Option.some.injEq,Prod.mk.injEq] at hi;obtain ⟨hz,hs,hb⟩:=hi;have:=run_make (P:=Tryd.prog) w 25 3 i _ Tryd.underlying25 hq hz .i64 .i64 (n:Int) (n:Int) (by omega) (by omega) (by rw[hb];omega) (by omega);rw[hs] at this;rw[this];simp[Value.cells]
theorem si_zeros (w:World) (n:Nat) (hn:n<=1048576):SI (w.alloc (.cells (madeCells #[I 0] n) 3)) (.slice (some ⟨w.heap.size,0,none⟩) n n) (List.replicate n 0):=by
 refine ⟨some ⟨w.heap.size,0,none⟩,n,by simp,by simp,by unfold maxLen;omega,λi a hi=>?_⟩;have hil:i<n:=by simpa using (Qc hi).1
 have ha:a=0:=by simpa [hil] using hi.symm
 subst ha;refine ⟨w.heap.size,0,rfl,by simp,λj u hj=>?_⟩;cases j with
 |zero =>simp[encI] at hj;subst hj;rw[World.cell?_alloc_at _ _ _ _ rfl];simp[madeCells,hil,Nat.mod_one]
 |succ j=>simp[encI] at hj
theorem first_any (ob st:Int) (h:Iw ob st) (w:World):
 Calls Tryd.prog 56 #[I ob,I st] w λe w'=>∃ v,e=.returned v∧SI w' v (Dq ob st)∧Below w.heap.size w w':=by
 by_cases h2:ob=2
 .subst h2
  go_enter Tryd.func56,Tryd.ntmps56
  go_wp2
  go_ret;exact ⟨_,rfl,⟨none,0,rfl,Qi _,Nat.zero_le _,λi a hi=>by simp[Dq] at hi⟩,Below.refl _ _⟩
 .have b2:(ob==2)=false:=by simpa using h2
  by_cases h5:ob=5
  .have hst:1<=st∧st<=1000:=by rcases h with h|h|h|h|h<;>omega
   have hf:Dq ob st=List.replicate (3*st.toNat) 0:=by unfold Dq;rw[if_neg h2,if_pos h5]
   rw[hf];subst h5;obtain ⟨m,hm⟩:∃ m:Nat,(m:Int)=st:=⟨st.toNat,by omega⟩
   have hmk:=make_nums (3*m) (by omega);have h3:(3:Int)*st=((3*m:Nat):Int):=by omega
   have h4:3*st.toNat=3*m:=by omega
   rw[h4];have hn:3*m<=3000:=by omega
   generalize 3*m=n at hmk h3 hn ⊢;clear h hf h2 h4 hm
   go_enter Tryd.func56,Tryd.ntmps56
   go_wp2_with fail;go_ret;exact ⟨_,rfl,si_zeros w n (by omega),Ae (Below.refl _ _) _⟩
  .have b5:(ob==5)=false:=by simpa using h5
   have hf:Dq ob st=[st]:=by unfold Dq;rw[if_neg h2,if_neg h5]
   rw[hf];clear h hf h2 h5
   go_enter Tryd.func56,Tryd.ntmps56
   go_wp2
   go_ret;exact ⟨_,rfl,si_one (World.cell?_alloc_at _ _ _ _ rfl),Ae (Below.refl _ _) _⟩
end Go.Proofs.YtbbhahigofeacaaDoor.R3
