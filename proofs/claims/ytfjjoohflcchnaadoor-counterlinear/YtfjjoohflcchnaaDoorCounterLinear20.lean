/- CounterLinear, part 20 of 24: R3With, R3Ways, R3Ways2, R3Ways3. -/
import Derived.Test.YtfjjoohflcchnaaDoorCounterLinear01
import Derived.Test.YtfjjoohflcchnaaDoorCounterLinear15
import Derived.Deep.RegionWith
set_option linter.unusedSimpArgs false
set_option linter.unusedVariables false
set_option maxHeartbeats 4000000
set_option maxRecDepth 100000
noncomputable section
namespace Go.Proofs.YtfjjoohflcchnaaDoor.R3
open Go.RowKit Go.Proofs.YtfjjoohflcchnaaDoor.His Go.Deep Go.Maps
variable {w:World}
abbrev SI (w:World) (v:Value) (s:List Int):Prop:=SL 1 encI w v s
theorem info3:(Tryd.prog.info? 3).map (λi=>(i.zero,i.size,i.bytes))=some (some (I 0),1,8):=by kernel_rfl
theorem news1 (w:World) (v:Int) (t:TypeId) {n:Nat}(hn:n=w.heap.size):∀ j u,[I v][j]? = some u->(w.alloc (.cells #[I v] t)).cell? ((⟨n,0,none⟩:Addr).add j)=some u:=by subst hn;intro j u hj;rw[Addr.add_mid];exact range_new w #[I v] t 0 [I v] rfl rfl j u hj
def WOuts (w:World) (v:Value) (os:List ((Int×Int)×List Int)):Prop :=
 ∃ p,v=.slice p os.length os.length∧∀ i o,os[i]? = some o->∃ blk sv,p=some ⟨blk,0,none⟩∧w.rangeAt blk (i*3) [I o.1.1,I o.1.2,sv]∧SI w sv o.2
theorem wouts_nil (w:World):WOuts w (.slice none 0 0) []:=⟨none,rfl,λi o h=>by simp at h⟩
theorem wouts_one {blk:Nat}{o:(Int×Int)×List Int}{sv:Value}(h:w.rangeAt blk 0 [I o.1.1,I o.1.2,sv]) (hs:SI w sv o.2):WOuts w (.slice (some ⟨blk,0,none⟩) 1 1) [o]:=⟨_,rfl,λi o' hi=>by
 cases i with
 |zero=>simp at hi;subst hi;exact ⟨blk,sv,rfl,by simpa using h,hs⟩
 |succ i=>simp at hi⟩
theorem keep4 {u u':World}{a1 a2 a3 a4:Addr}{v1 v2 v3 v4:Value}(h:u.cell? a1=some v1∧u.cell? a2=some v2∧u.cell? a3=some v3∧u.cell? a4=some v4) (hb:Below u.heap.size u u'):u'.cell? a1=some v1∧u'.cell? a2=some v2∧u'.cell? a3=some v3∧u'.cell? a4=some v4 :=
 ⟨kcell hb h.1,kcell hb h.2.1,kcell hb h.2.2.1,kcell hb h.2.2.2⟩
theorem keep2 {u u':World}{a1 a2:Addr}{v1 v2:Value}(h:u.cell? a1=some v1∧u.cell? a2=some v2) (hb:Below u.heap.size u u'):u'.cell? a1=some v1∧u'.cell? a2=some v2:=⟨kcell hb h.1,kcell hb h.2⟩
theorem si_one {blk:Nat}{z:Int}(h:w.cell? ⟨blk,0,none⟩=some (I z)):SI w (.slice (some ⟨blk,0,none⟩) 1 1) [z] :=
 ⟨_,_,rfl,Qi _,by unfold maxLen;omega,λi a hi=>by
  cases i with
  |zero =>
   simp at hi;subst hi;refine ⟨blk,0,rfl,World.block_lt_of_cell? _ _ h,λj u hj=>?_⟩;cases j with
   |zero=>simp[encI] at hj;subst hj;simpa using h
   |succ j=>simp[encI] at hj
  |succ i=>simp at hi⟩
theorem make_nums (n:Nat) (hn:n<=1048576) (w:World):
 (Instr.makeSlice 22 (.int .i64 (n:Int)) (.int .i64 (n:Int))).run Tryd.prog w=.ok (.slice (some ⟨w.heap.size,0,none⟩) n n) (w.alloc (.cells (madeCells #[I 0] n) 3)):=by
 cases hq:Tryd.prog.info? 3 with
 |none=>have:=info3;rw[hq] at this;cases this
 |some i =>have hi:=info3;rw[hq] at hi;simp only[Option.map_some,Option.some.injEq,Prod.mk.injEq] at hi;obtain ⟨hz,hs,hb⟩:=hi;have:=run_make (P:=Tryd.prog) w 22 3 i _ Tryd.underlying22 hq hz .i64 .i64 (n:Int) (n:Int) (by omega) (by omega) (by rw[hb];omega) (by omega);rw[hs] at this;rw[this];simp[Value.cells]
theorem si_zeros (w:World) (n:Nat) (hn:n<=1048576):SI (w.alloc (.cells (madeCells #[I 0] n) 3)) (.slice (some ⟨w.heap.size,0,none⟩) n n) (List.replicate n 0):=by
 refine ⟨some ⟨w.heap.size,0,none⟩,n,by simp,by simp,by unfold maxLen;omega,λi a hi=>?_⟩;have hil:i<n:=by simpa using (Qc hi).1
 have ha:a=0:=by simpa [hil] using hi.symm
 subst ha;refine ⟨w.heap.size,0,rfl,by simp,λj u hj=>?_⟩;cases j with
 |zero =>simp[encI] at hj;subst hj;rw[World.cell?_alloc_at _ _ _ _ rfl];simp[madeCells,hil,Nat.mod_one]
 |succ j=>simp[encI] at hj
theorem ok_exact (v:Int) (w:World):Calls Tryd.prog 133 #[I v] w λe w'=>e=.returned (.agg #[I 0,I v])∧w'=w.alloc (.cells #[I 0,I v] 38):=by
 go_enter Tryd.func133,Tryd.ntmps133
 go_wp2
 exact bodyPost_ret (v:=.agg #[I 0,I v]) (by simp[results,Tryd.results40,go_sem]) rfl ⟨rfl,rfl⟩
theorem first_any (ob st:Int) (h:Starts ob st) (w:World):
 Calls Tryd.prog 85 #[I ob,I st] w λe w'=>∃ v,e=.returned v∧SI w' v (firstOf ob st)∧Below w.heap.size w w':=by
 by_cases h2:ob=2
 .subst h2
  go_enter Tryd.func85,Tryd.ntmps85
  go_wp2
  go_ret;exact ⟨_,rfl,⟨none,0,rfl,Qi _,Nat.zero_le _,λi a hi=>by simp[firstOf] at hi⟩,Below.refl _ _⟩
 .have b2:(ob==2)=false:=by simpa using h2
  by_cases h5:ob=5
  .have hst:1<=st∧st<=1000:=by rcases h with h|h|h|h|h<;>omega
   have hf:firstOf ob st=List.replicate (3*st.toNat) 0:=by unfold firstOf;rw[if_neg h2,if_pos h5]
   rw[hf];subst h5;obtain ⟨m,hm⟩:∃ m:Nat,(m:Int)=st:=⟨st.toNat,by omega⟩
   have hmk:=make_nums (3*m) (by omega);have h3:(3:Int)*st=((3*m:Nat):Int):=by omega
   have h4:3*st.toNat=3*m:=by omega
   rw[h4];have hn:3*m<=3000:=by omega
   generalize 3*m=n at hmk h3 hn ⊢;clear h hf h2 h4 hm
   go_enter Tryd.func85,Tryd.ntmps85
   go_wp2_with fail;go_ret;exact ⟨_,rfl,si_zeros w n (by omega),below_alloc (Below.refl _ _) _⟩
  .have b5:(ob==5)=false:=by simpa using h5
   have hf:firstOf ob st=[st]:=by unfold firstOf;rw[if_neg h2,if_neg h5]
   rw[hf];clear h hf h2 h5
   go_enter Tryd.func85,Tryd.ntmps85
   go_wp2
   go_ret;exact ⟨_,rfl,si_one (World.cell?_alloc_at _ _ _ _ rfl),below_alloc (Below.refl _ _) _⟩
theorem range_drew1 {b o:Nat}{cs:List Value}(h:w.rangeAt b o cs):w.drew.rangeAt b o cs:=h
theorem si_drew {v:Value}{s:List Int}(h:SI w v s):SI w.drew v s:=h.later (below_drew (Below.refl _ _))
end Go.Proofs.YtfjjoohflcchnaaDoor.R3
