/- Of the proof of StackKeeps. Part 7 of 33. (Joined, by program, and written short, of: MainT, Ends, Life, Body33, None, MainN.) -/
import Derived.Test.YtbbhahigofeacaaDoorStackKeeps05
import Derived.Test.YtbbhahigofeacaaDoorStackKeeps06
set_option linter.unusedSimpArgs false
set_option linter.unusedVariables false
set_option maxHeartbeats 4000000
set_option maxRecDepth 100000
namespace Go.Proofs.YtbbhahigofeacaaDoor
open Go Go.Lift Go.Conc Go.RowKit
def mainFs:List FuncId:=[117,115,116]
def LM (f:FuncId):Prop:=f∈mainFs
theorem callM:∀ f∈mainFs,Ef Tryd.prog LM f:=by
 intro f hf
 have hf':=hf
 simp only[mainFs,List.mem_cons,List.not_mem_nil,or_false] at hf
 rcases hf with rfl|rfl|rfl
 ·exact ⟨hf',Tryd.f117,Tryd.func117,by kernel_rfl,by kernel_rfl⟩
 ·exact ⟨hf',Tryd.f115,Tryd.func115,by kernel_rfl,by kernel_rfl⟩
 ·exact ⟨hf',Tryd.f116,Tryd.func116,by kernel_rfl,by kernel_rfl⟩
theorem Gw:∀ f,LM f->Ec Tryd.prog true LM f:=by
 intro f hf
 simp only[LM,mainFs,List.mem_cons,List.not_mem_nil,or_false] at hf
 rcases hf with rfl|rfl|rfl
 ·exact fineFn_of callM Tryd.func117 (c:=Tryd.f117.body.getD .skip) (by rfl) (by kernel_rfl)
 ·exact fineFn_of callM Tryd.func115 (c:=Tryd.f115.body.getD .skip) (by rfl) (by kernel_rfl)
 ·exact fineFn_of callM Tryd.func116 (c:=Tryd.f116.body.getD .skip) (by rfl) (by kernel_rfl)
theorem fineScan:A7 Tryd.prog true LM scan:=Dj callM (by kernel_rfl)
theorem thr_ev {z:Nat->Option Nat}{S:TS}{v V:World}(h:Rep z S v) {i:Nat}{t:Thr}(ht:S.thr[i]? = some t) (t':Thr) (htb:t'.tb=t.tb) (hst:∀ b,b≠t.tb->V.heap[b]? = v.heap[b]?) (hrow:V.heap[t.tb]? = some (.cells (trow S.wb i t'.gc t'.st t'.ce t'.op t'.se) 87 (fz z t.tb))) (hsz:V.heap.size=v.heap.size) (hos:V.os=v.os) (hou:V.output=v.output) :
 Ev z S v { S with thr:=S.thr.set i t' } V:=by
 have hi:i<S.thr.length:=(List.getElem?_eq_some_iff.1 ht).1
 have hbt:blk S (i+5)=some t.tb:=by simp[blk,ht]
 have hits:∀ k b,blk S k=some b->k≠i+5->V.heap[b]? = v.heap[b]?:=fun k b hk hne=>hst b (fun e=>hne (h.apart k (i+5) b hk (by rw[hbt,e])))
 have hget:∀ (j:Nat) (u:Thr),(S.thr.set i t')[j]? = some u->(j=i∧u=t')∨(j≠i∧S.thr[j]? = some u):=fun j u hj=>by
  rw[List.getElem?_set] at hj
  by_cases e:i=j
  ·subst e;rw[if_pos rfl,if_pos hi] at hj;exact .inl ⟨rfl,(Option.some.inj hj).symm⟩
  ·rw[if_neg e] at hj;exact .inr ⟨fun e'=>e e'.symm,hj⟩
 have hblk:∀ k,blk { S with thr:=S.thr.set i t' } k=blk S k:=fun k=>by
  match k with
  |0=>rfl
  |1=>rfl
  |2=>rfl
  |3=>rfl
  |4=>rfl
  |k+5 =>
   simp only[blk,List.getElem?_set]
   by_cases e:i=k
   ·subst e
    have:S.thr[i]=t:=by rw[List.getElem?_eq_getElem hi] at ht;exact Option.some.inj ht
    simp[hi,this,htb]
   ·simp[e]
 have hths:(S.thr.set i t').map (fun t=>Pt t.tb 0)=S.thr.map (fun t=>Pt t.tb 0):=by
  apply List.ext_getElem?
  intro k
  have:=hblk (k+5)
  simp only[blk] at this
  rw[List.getElem?_map,List.getElem?_map]
  have e:∀ l:List Thr,(l[k]?).map (fun t=>Pt t.tb 0)=((l[k]?).map (·.tb)).map (fun b=>Pt b 0):=fun l=>by cases l[k]?<;>rfl
  rw[e,e,this]
 refine ⟨⟨?_,fun j u hj=>?_,Au (fun b hb=>hits 3 b hb (by omega)) h.own,Au (fun b hb=>hits 1 b hb (by omega)) h.chg,?_,Au (fun b hb=>hits 4 b hb (by omega)) h.sch,?_,fun j k b hj hk=>?_,fun b n hz=>?_⟩,⟨hos,hou,by omega,fun b hb hs=>hst b (fun e=>hs ⟨i+5,by rw[hbt,e]⟩)⟩,fun b ⟨k,hk⟩=>.inl ⟨k,by rw[←hblk];exact hk⟩⟩
 ·show V.heap[S.wb]? = _
  rw[hits 0 S.wb rfl (by omega)]
  exact h.wor
 ·rcases hget j u hj with ⟨rfl,rfl⟩|⟨hne,hj⟩
  ·rw[htb];exact hrow
  ·rw[hits (j+5) u.tb (by simp[blk,hj]) (by omega)]
   exact h.thr j u hj
 ·have:=Au (w':=V) (fun b hb=>hits 2 b hb (by omega)) h.ths
  show V.ownsRow S.base 52 1 S.ths (S.thr.set i t').length ((S.thr.set i t').map fun t=>Pt t.tb 0)
  rw[hths,List.length_set]
  exact this
 ·show S.base≤V.heap.size
  rw[hsz];exact h.bs
 ·exact h.apart j k b (by rw[←hblk];exact hj) (by rw[←hblk];exact hk)
 ·rcases h.kept b n hz with h1|⟨j,u,hj,h2,h3⟩
  ·exact .inl h1
  ·right
   by_cases e:j=i
   ·subst e
    rw[ht] at hj
    cases hj
    exact ⟨j,t',by simp[hi],by rw[h2,htb],h3⟩
   ·exact ⟨j,u,by show (S.thr.set i t')[j]? = some u;rw[List.getElem?_set,if_neg (fun e'=>e e'.symm)];exact hj,h2,h3⟩
def going (S:TS) (i:Nat) (t:Thr):TS:={ (picked S) with la:=i,thr:=(picked S).thr.set i { t with st:=0 } }
noncomputable def pick15:Code:=seq1 (seq2 (seq2 (seq2 (seq2 (seq2 (Tryd.f86.body.getD .skip))))))
noncomputable def last16:Code:=seq1 (seq2 (seq2 (seq2 (seq2 (seq2 (seq2 (Tryd.f86.body.getD .skip)))))))
noncomputable def state17:Code:=seq1 (seq2 (seq2 (seq2 (seq2 (seq2 (seq2 (seq2 (Tryd.f86.body.getD .skip))))))))
theorem fine15M:A7 Tryd.prog true LM pick15:=Dj callM (by kernel_rfl)
theorem fine16M:A7 Tryd.prog true LM last16:=Dj callM (by kernel_rfl)
theorem fine17M:A7 Tryd.prog true LM state17:=Dj callM (by kernel_rfl)
noncomputable def c500:Code:=seq1 (Tryd.f86.body.getD .skip)
noncomputable def c501:Code:=seq1 (seq2 (Tryd.f86.body.getD .skip))
noncomputable def c502:Code:=seq1 (seq2 (seq2 (Tryd.f86.body.getD .skip)))
noncomputable def c504:Code:=seq2 (seq2 (seq2 (seq2 (Tryd.f86.body.getD .skip))))
theorem fine500:A7 Tryd.prog true LM c500:=Dj callM (by kernel_rfl)
theorem fine501:A7 Tryd.prog true LM c501:=Dj callM (by kernel_rfl)
theorem fine502:A7 Tryd.prog true LM c502:=Dj callM (by kernel_rfl)
noncomputable def c510:Code:=seq1 (seq2 (seq2 (seq2 (seq2 (Tryd.f86.body.getD .skip)))))
noncomputable def c518:Code:=seq2 (seq2 (seq2 (seq2 (seq2 (seq2 (seq2 (seq2 (Tryd.f86.body.getD .skip))))))))
theorem fine510:A7 Tryd.prog true LM c510:=Dj callM (by kernel_rfl)
theorem own_ptrs {w:World}{base:Nat}{v:Value}{l:List Nat}(h:w.ownsRow base 52 1 v l.length (l.map fun b=>Pt b 0)) (h0:0<l.length):PtrRow w v l:=by
 rcases h.2 with ⟨_,h1⟩|⟨g,cap,cur,rfl,hb,hh,hle,_,hsz,htake⟩
 ·omega
 ·refine ⟨g,cap,rfl,fun k b hx=>?_⟩
  have hc:k<l.length:=(List.getElem?_eq_some_iff.1 hx).1
  have e:(l.map fun b=>Pt b 0)[k]? = some (Pt b 0):=by simp[hx]
  rw[←htake,Nat.mul_one,List.getElem?_take_of_lt hc] at e
  simp only[World.cell?,hh,Option.isSome_none,Bool.false_eq_true,if_false]
  simpa using e
noncomputable def ops5019:Array Oper:=opsOf (seq1 (seq2 (seq2 (seq2 (seq2 (seq2 (seq2 (seq2 (seq2 (seq2 (Tryd.f86.body.getD .skip)))))))))))
noncomputable def c5020:Code:=seq2 (seq2 (seq2 (seq2 (seq2 (seq2 (seq2 (seq2 (seq2 (seq2 (Tryd.f86.body.getD .skip))))))))))
theorem back50 (tmps:Array Value) (hs:tmps.size=73) {bc:Frame}{ac:Act}{ops:Array Oper}{i:Nat}{rest:List Nat}{o:Oper}{k:List Item}{cs:List Frame}(ho:ops[i]? = some o) :
 Back Tryd.prog true (G ((base 86).at { tmps:=tmps,defers:=[] } [.inRegion ops5019 [4],.code c5020]) (bc.at ac (.inRegion ops (i :: rest) :: k) :: cs)) (G (bc.at (ac.put o.dst (.bool true)) (.inRegion ops rest :: k)) cs):=by
 intro D Stop x w hD h
 rw[served_fr,Frame.finish_at]
 refine Ab hD ?_
 refine Ac hD ?_
 refine Ae hD ?_
 refine I9 (v:=fun _=>.bool true) (w':=fun d=>w.at d) rfl rfl (by decide) (fun d=>rfl) (fun d=>by rw[listed_none rfl];exact hD _) (fun d=>?_)
 refine GoesI.at ?_ d
 refine Ab hD ?_
 refine GoesI.ctl rfl (fun _=>stepG_ret') hD ?_
 refine Cm (b:=base 86) (fn:=Tryd.f86) (v:=.bool true) rfl rfl Tryd.func86 (fun w=>?_) (fun w=>by simp[results,go_sem]) ho hD h
 rw[results_tmp (t:=2) rfl]
 show Result.ok (((tmps.setIfInBounds 72 x).setIfInBounds 2 (.bool true)).getD 2 undef) w=_
 simp[hs]
def ScanQ (S:TS) (v:World) (a:Act) (w':World):Prop :=
 (∃ lv,(∃ u6 u8 u9 u10 u11 u12 u13 u14 u15 u16 u17 u18 u19 u20 u21 u22 u23 u24 u25 u26 u27 u28 u29 u30 u31,a={ tmps:=#[Pt S.wb 0,undef,.bool false,lv,.bool (Db S S.thr.length),undef,u6,undef,u8,u9,u10,u11,u12,u13,u14,u15,u16,u17,u18,u19,u20,u21,u22,u23,u24,u25,u26,u27,u28,u29,u30,u31]++Array.replicate 41 undef,defers:=[] })∧w'.ownsRow v.heap.size 52 1 lv (Aq S S.thr.length).length ((tbs S (Aq S S.thr.length)).map fun b=>Pt b 0))∧v.heap.size≤w'.heap.size∧(∀ b,b<v.heap.size->w'.heap[b]? = v.heap[b]?)∧w'.os=v.os∧w'.output=v.output
theorem turn50_goes {z:Nat->Option Nat}{Ch:Nat->Prop}{Stop:Goroutine->World->Prop}{cont:Addr->Value}{S:TS}{K:List (Nat×Int)}{v w:World}{i:Nat}{t:Thr}(cs:List Frame) (Hm:Goroutine->Prop) {bc:Frame}{ac:Act}{ops:Array Oper}{q:Nat}{rest:List Nat}{oc:Oper}{k:List Item}(hoc:ops[q]? = some oc)
 (hH:∀ g,Back Tryd.prog true g (G (bc.at (ac.put oc.dst (.bool true)) (.inRegion ops rest :: k)) cs)->Hm g)
 (hvw:Rel z v w) (hn:Ah Ch v) (hm:Mem z S K v) (h8:S.thr.length≤8) (hsl:S.sched.length≤4611686018427387904) (hsc:∀ x∈S.sched,-9223372036854775808≤x∧x<9223372036854775808)
 (h0:0<(Aq S S.thr.length).length) (hi:(Aq S S.thr.length)[Fo S (Aq S S.thr.length)]? = some i) (ht:S.thr[i]? = some t) (hz:z S.wb=some 8) (hcont:cont ⟨S.wb,8,none⟩=.chan (some S.bk))
 (hstop:∀ g w',Lift.AtGive Tryd.prog (KC (ScZ z) cont) (Fv (ScZ z)) 0 t.gc (.agg #[]) (some (Seat.one S.bk (.agg #[]) false Hm)) (Then z Ch S K v (going S i t) K) g w'->Stop g w') (code:Code) (hc:Tryd.f86.body=some code) :
 GoesI Tryd.prog true (DT (ScZ z) Ch) Stop (G ((base 86).at { tmps:=#[Pt S.wb 0]++Array.replicate 72 undef,defers:=[] } [.code code]) (bc.at ac (.inRegion ops (q :: rest) :: k) :: cs)) w:=by
 have hw0:code=.seq c500 (.seq c501 (.seq c502 (.seq scan c504))):=by
  obtain rfl:=Option.some.inj hc;rfl
 subst hw0
 clear hc
 simp only[Array.replicate_succ,Array.replicate_zero,List.push_toArray,List.append_toArray,List.nil_append,List.cons_append]
 refine Ac (Aa _ _) ?_
 refine Dp hE Gw hvw hn fine500 rfl (by simp[base]) (a':={ tmps:=#[Pt S.wb 0,undef,.bool false]++Array.replicate 70 undef,defers:=[] }) (fun τ=>?_) (fun w hvw=>?_)
 ·show Code.wp Tryd.prog (c500) _ _ _
  unfold c500 Tryd.f86 seq1
  simp only[Option.getD_some,Array.replicate_succ,Array.replicate_zero,List.push_toArray,List.append_toArray,List.nil_append,List.cons_append]
  go_wp2_with fail
  exact ⟨rfl,rfl,rfl⟩
 simp only[Array.replicate_succ,Array.replicate_zero,List.push_toArray,List.append_toArray,List.nil_append,List.cons_append]
 refine Ac (Aa _ _) ?_
 refine Dp hE Gw hvw hn fine501 rfl (by simp[base]) (a':={ tmps:=#[Pt S.wb 0,undef,.bool false,.slice none 0 0]++Array.replicate 69 undef,defers:=[] }) (fun τ=>?_) (fun w hvw=>?_)
 ·show Code.wp Tryd.prog (c501) _ _ _
  unfold c501 Tryd.f86 seq1 seq2
  simp only[Option.getD_some,Array.replicate_succ,Array.replicate_zero,List.push_toArray,List.append_toArray,List.nil_append,List.cons_append]
  go_wp2_with fail
  exact ⟨rfl,rfl,rfl⟩
 simp only[Array.replicate_succ,Array.replicate_zero,List.push_toArray,List.append_toArray,List.nil_append,List.cons_append]
 refine Ac (Aa _ _) ?_
 refine Dp hE Gw hvw hn fine502 rfl (by simp[base]) (a':={ tmps:=#[Pt S.wb 0,undef,.bool false,.slice none 0 0,.bool false]++Array.replicate 68 undef,defers:=[] }) (fun τ=>?_) (fun w hvw=>?_)
 ·show Code.wp Tryd.prog (c502) _ _ _
  unfold c502 Tryd.f86 seq1 seq2
  simp only[Option.getD_some,Array.replicate_succ,Array.replicate_zero,List.push_toArray,List.append_toArray,List.nil_append,List.cons_append]
  go_wp2_with fail
  exact ⟨rfl,rfl,rfl⟩
 simp only[Array.replicate_succ,Array.replicate_zero,List.push_toArray,List.append_toArray,List.nil_append,List.cons_append]
 refine Ac (Aa _ _) ?_
 have hscan:∀ τ,scan.wp Tryd.prog (fun e a w'=>e=.normal∧ScanQ S v a w') { tmps:=#[Pt S.wb 0,undef,.bool false,.slice none 0 0,.bool false]++Array.replicate 68 undef,defers:=[] } (Ap v τ 0):=fun τ=>scan_wp (hm.rep.same (v':=Ap v τ 0) rfl) h8
 simp only[Array.replicate_succ,Array.replicate_zero,List.push_toArray,List.append_toArray,List.nil_append,List.cons_append] at hscan
 refine Ba (c:=scan) (z:=z) (wr:=true) (L:=LM) (I:=Ah Ch) hE Gw Az (fun v v' w w' es hi hr ho he=>Bq v v' w w' es hi hr ho he) hvw fineScan rfl (by simp[base]) hn hscan ?_
 rintro a' v1 w1 ⟨⟨lv,⟨u6,u8,u9,u10,u11,u12,u13,u14,u15,u16,u17,u18,u19,u20,u21,u22,u23,u24,u25,u26,u27,u28,u29,u30,u31,rfl⟩,hown⟩,hsz,hbl,hos,hou⟩ hr1 hn1 -
 have hg:Grows v v1:=⟨hsz,hbl,hos,hou⟩
 have he1:=hm.grows hg
 have hlv:=E8 hown
 obtain ⟨p,cap,rfl⟩:=hlv
 have hc504:c504=.seq c510 (.seq pick15 (.seq last16 (.seq state17 c518))):=rfl
 rw[hc504]
 clear hscan
 refine Ac (Aa _ _) ?_
 refine Dp hE Gw hr1 hn1 fine510 rfl (by simp[base]) (a':={ tmps:=#[Pt S.wb 0,undef,.bool false,.slice p (Aq S S.thr.length).length cap,.bool (Db S S.thr.length),undef,u6,undef,u8,u9,u10,u11,u12,u13,u14,u15,u16,u17,u18,u19,u20,u21,u22,u23,u24,u25,u26,u27,u28,u29,u30,u31,.slice p (Aq S S.thr.length).length cap,I (Aq S S.thr.length).length,.bool false]++Array.replicate 38 undef,defers:=[] }) (fun τ=>?_) (fun w2 hr2=>?_)
 ·have hn0:¬ (((Aq S S.thr.length).length:Int)=0):=by omega
  have hn0':((((Aq S S.thr.length).length:Int))==0)=false:=by rw[beq_eq_false_iff_ne];omega
  clear hr1 hn1 he1 hown hbl hm hH hstop hi hsc hsl h8 hos hou hsz hg
  generalize (Aq S S.thr.length).length=nn at *
  show Code.wp Tryd.prog c510 _ _ _
  unfold c510 Tryd.f86 seq1 seq2
  simp only[Option.getD_some,Array.replicate_succ,Array.replicate_zero,List.push_toArray,List.append_toArray,List.nil_append,List.cons_append]
  go_wp2_with fail
  exact ⟨rfl,rfl,rfl⟩
 simp only[Array.replicate_succ,Array.replicate_zero,List.push_toArray,List.append_toArray,List.nil_append,List.cons_append]
 have hbs:(tbs S (Aq S S.thr.length)).length=(Aq S S.thr.length).length:=by simp[tbs]
 have hrw1:Rep z S v1:=he1.mem.rep
 have hgl:∀ g,(Value.slice p (Aq S S.thr.length).length cap).ownBlock=some g->¬ Its S g:=fun g hg' ⟨kk,hkk⟩=>by
  have:=(Fp hown g hg').1
  have:=hm.rep.lt hkk
  omega
 have hrowp:PtrRow v1 (.slice p (Aq S S.thr.length).length cap) (tbs S (Aq S S.thr.length)):=by
  have h':=hown
  rw[←hbs] at h' ⊢
  exact own_ptrs h' (by omega)
 have hidsp:∀ (kk ii b:Nat),(Aq S S.thr.length)[kk]? = some ii->(tbs S (Aq S S.thr.length))[kk]? = some b->∃ t,S.thr[ii]? = some t∧t.tb=b:=fun kk ii b h1 h2=>by
  have hmem:ii∈Aq S S.thr.length:=List.mem_of_getElem? h1
  simp only[Aq,List.mem_filter] at hmem
  cases ht':S.thr[ii]? with
  |none=>rw[ht'] at hmem;simp at hmem
  |some t' =>
   refine ⟨t',rfl,?_⟩
   simp only[tbs,List.getElem?_map,h1,Option.map_some,ht',Option.getD_some,Option.some.injEq] at h2
   exact h2
 have hbi:(tbs S (Aq S S.thr.length))[Fo S (Aq S S.thr.length)]? = some t.tb:=by simp[tbs,hi,ht]
 refine Ac (Aa _ _) ?_
 refine Ba (c:=pick15) (z:=z) (wr:=true) (L:=LM) (I:=Ah Ch) hE Gw Az (fun v v' w w' es hi hr ho he=>Bq v v' w w' es hi hr ho he) hr2 fine15M rfl (by simp[base]) hn1 (Q:=fun a w'=>a={ tmps:=#[Pt S.wb 0,undef,.bool false,.slice p (Aq S S.thr.length).length cap,.bool (Db S S.thr.length),undef,u6,Pt t.tb 0,u8,u9,u10,u11,u12,u13,u14,u15,u16,u17,u18,u19,u20,u21,u22,u23,u24,u25,u26,u27,u28,u29,u30,u31,.slice p (Aq S S.thr.length).length cap,I (Aq S S.thr.length).length,.bool false,undef,undef,undef,undef,undef,undef,undef,undef,undef,undef,undef,undef,undef,undef,undef,Pt S.wb 0,.slice p (Aq S S.thr.length).length cap,Pt t.tb 0]++Array.replicate 20 undef,defers:=[] }∧Ev z S v1 (picked S) w') (fun τ=>?_) ?_
 ·have HB:=(body72 (hrw1.same (v':=Ap v1 τ 0) rfl) (.slice p (Aq S S.thr.length).length cap) (Aq S S.thr.length) (tbs S (Aq S S.thr.length)) hrowp hgl hbs hidsp h0 (Nat.le_trans (rdyIds_len S _) h8) hsl hsc).calls Tryd.func116 rfl
  have HBC:Hid (Calls Tryd.prog 116 #[Pt S.wb 0,.slice p (Aq S S.thr.length).length cap] (Ap v1 τ 0) (fun e w'=>e=.returned (Pt t.tb 0)∧Ev z S v1 (picked S) w')):=⟨HB.mono fun e w' ⟨r,h1,⟨b,h2,h3⟩,h4⟩=>⟨by rw[hbi] at h2;cases h2;rw[h1,h3],h4.base rfl rfl rfl⟩⟩
  clear HB hr1 hr2 hn1 he1 hown hbl hm hH hstop hi hsc hsl h8 hrw1 hgl hrowp hidsp hbi hbs hos hou hsz hg
  generalize (Aq S S.thr.length).length=nn at *
  show Code.wp Tryd.prog pick15 _ _ _
  unfold pick15 Tryd.f86 seq1 seq2
  simp only[Option.getD_some,Array.replicate_succ,Array.replicate_zero,List.push_toArray,List.append_toArray,List.nil_append,List.cons_append]
  go_wp2_with (go_at_call 116;refine HBC.out.mono ?_;rintro e w5 ⟨rfl,hev5⟩)
 rintro a' v2 w3 ⟨rfl,hev2⟩ hr3 hn3 -
 simp only[Array.replicate_succ,Array.replicate_zero,List.push_toArray,List.append_toArray,List.nil_append,List.cons_append]
 have hthr2:(picked S).thr=S.thr:=by unfold picked;split<;>rfl
 have hwb2:(picked S).wb=S.wb:=by unfold picked;split<;>rfl
 have hrep2:Rep z (picked S) v2:=hev2.rep
 have ht2:(picked S).thr[i]? = some t:=by rw[hthr2];exact ht
 have c1:v2.cell? ⟨t.tb,1,none⟩=some (I i):=(hrep2.cell ht2).2.1
 have c2:v2.cell? ⟨S.wb,2,none⟩=some (I (picked S).la):=by rw[←hwb2];exact hrep2.wcell.2.2.1
 have f2:v2.frozen? ⟨S.wb,2,none⟩=false:=by rw[←hwb2];exact fz_off hrep2 2 (by omega)
 have hev3:Ev z (picked S) v2 { (picked S) with la:=i } (v2.setCell ⟨S.wb,2,none⟩ (I i)):=by
  have:=world_set hrep2 (picked S).us i (picked S).stk 2 (I i) (by simp)
  rw[←hwb2]
  exact this
 refine Ac (Aa _ _) ?_
 refine Ba (c:=last16) (z:=z) (wr:=true) (L:=LM) (I:=Ah Ch) hE Gw Az (fun v v' w w' es hi hr ho he=>Bq v v' w w' es hi hr ho he) hr3 fine16M rfl (by simp[base]) hn3 (Q:=fun a w'=>a={ tmps:=#[Pt S.wb 0,undef,.bool false,.slice p (Aq S S.thr.length).length cap,.bool (Db S S.thr.length),undef,u6,Pt t.tb 0,u8,u9,u10,u11,u12,u13,u14,u15,u16,u17,u18,u19,u20,u21,u22,u23,u24,u25,u26,u27,u28,u29,u30,u31,.slice p (Aq S S.thr.length).length cap,I (Aq S S.thr.length).length,.bool false,undef,undef,undef,undef,undef,undef,undef,undef,undef,undef,undef,undef,undef,undef,undef,Pt S.wb 0,.slice p (Aq S S.thr.length).length cap,Pt t.tb 0,Pt S.wb 0,Pt t.tb 0,Pt t.tb 0,Pt t.tb 1,I i,Pt S.wb 0,Pt S.wb 2]++Array.replicate 13 undef,defers:=[] }∧w'.heap=(v2.setCell ⟨S.wb,2,none⟩ (I i)).heap∧w'.os=v2.os∧w'.output=v2.output) (fun τ=>?_) ?_
 ·have c1':(Ap v2 τ 0).cell? ⟨t.tb,1,none⟩=some (I i):=c1
  have c2':(Ap v2 τ 0).cell? ⟨S.wb,2,none⟩=some (I (picked S).la):=c2
  have f2':(Ap v2 τ 0).frozen? ⟨S.wb,2,none⟩=false:=f2
  clear hr1 hr2 hr3 hn1 hn3 he1 hown hbl hm hH hstop hi hsc hsl h8 hrw1 hgl hrowp hidsp hbi hbs hos hou hsz hg hev2 hev3 hrep2 ht2 c1 c2 f2 hthr2 hwb2
  generalize (Aq S S.thr.length).length=nn at *
  show Code.wp Tryd.prog last16 _ _ _
  unfold last16 Tryd.f86 seq1 seq2
  simp only[Option.getD_some,Array.replicate_succ,Array.replicate_zero,List.push_toArray,List.append_toArray,List.nil_append,List.cons_append]
  go_wp2_with fail
  exact ⟨rfl,rfl,rfl⟩
 rintro a' v3 w4 ⟨rfl,q1,q2,q3⟩ hr4 hn4 -
 simp only[Array.replicate_succ,Array.replicate_zero,List.push_toArray,List.append_toArray,List.nil_append,List.cons_append]
 have hev3':Ev z (picked S) v2 { (picked S) with la:=i } v3:=hev3.same q1 q2 q3
 have hrep3:=hev3'.rep
 have ht3:({ (picked S) with la:=i }:TS).thr[i]? = some t:=ht2
 have d3:v3.cell? ⟨t.tb,3,none⟩=some (I t.st):=(hrep3.cell ht3).2.2.2.1
 have g3:v3.frozen? ⟨t.tb,3,none⟩=false:=fzT_off hrep3 ht3 3 (by omega)
 have hev4:Ev z { (picked S) with la:=i } v3 (going S i t) (v3.setCell ⟨t.tb,3,none⟩ (I 0)):=by
  refine thr_ev hrep3 ht3 { t with st:=0 } rfl (fun b hb=>Below.heap_setCell _ _ _ _ hb) ?_ (by simp[World.setCell]) rfl rfl
  have:=heap_setCell_same (o:=3) (hrep3.thr i t ht3) (I 0)
  simpa using this
 refine Ac (Aa _ _) ?_
 refine Ba (c:=state17) (z:=z) (wr:=true) (L:=LM) (I:=Ah Ch) hE Gw Az (fun v v' w w' es hi hr ho he=>Bq v v' w w' es hi hr ho he) hr4 fine17M rfl (by simp[base]) hn4 (Q:=fun a w'=>a={ tmps:=#[Pt S.wb 0,undef,.bool false,.slice p (Aq S S.thr.length).length cap,.bool (Db S S.thr.length),undef,u6,Pt t.tb 0,u8,u9,u10,u11,u12,u13,u14,u15,u16,u17,u18,u19,u20,u21,u22,u23,u24,u25,u26,u27,u28,u29,u30,u31,.slice p (Aq S S.thr.length).length cap,I (Aq S S.thr.length).length,.bool false,undef,undef,undef,undef,undef,undef,undef,undef,undef,undef,undef,undef,undef,undef,undef,Pt S.wb 0,.slice p (Aq S S.thr.length).length cap,Pt t.tb 0,Pt S.wb 0,Pt t.tb 0,Pt t.tb 0,Pt t.tb 1,I i,Pt S.wb 0,Pt S.wb 2,Pt t.tb 0,Pt t.tb 0,Pt t.tb 3]++Array.replicate 10 undef,defers:=[] }∧w'.heap=(v3.setCell ⟨t.tb,3,none⟩ (I 0)).heap∧w'.os=v3.os∧w'.output=v3.output) (fun τ=>?_) ?_
 ·have d3':(Ap v3 τ 0).cell? ⟨t.tb,3,none⟩=some (I t.st):=d3
  have g3':(Ap v3 τ 0).frozen? ⟨t.tb,3,none⟩=false:=g3
  clear hr1 hr2 hr3 hr4 hn1 hn3 hn4 he1 hown hbl hm hH hstop hi hsc hsl h8 hrw1 hgl hrowp hidsp hbi hbs hos hou hsz hg hev2 hev3 hev3' hev4 hrep2 hrep3 ht2 ht3 c1 c2 f2 hthr2 hwb2 d3 g3 q1 q2 q3
  generalize (Aq S S.thr.length).length=nn at *
  show Code.wp Tryd.prog state17 _ _ _
  unfold state17 Tryd.f86 seq1 seq2
  simp only[Option.getD_some,Array.replicate_succ,Array.replicate_zero,List.push_toArray,List.append_toArray,List.nil_append,List.cons_append]
  go_wp2_with fail
  exact ⟨rfl,rfl,rfl⟩
 rintro a' v4 w5 ⟨rfl,q4,q5,q6⟩ hr5 hn5 -
 simp only[Array.replicate_succ,Array.replicate_zero,List.push_toArray,List.append_toArray,List.nil_append,List.cons_append]
 have hevo:Evo z S K v (going S i t) K v4:=by
  have e4:Ev z S v1 (going S i t) v4:=hev2.trans (hev3'.trans (hev4.same q4 q5 q6))
  refine he1.trans (Evo.of_ev he1.mem e4 ?_)
  unfold going picked
  split<;>rfl
 have c2g:w5.cell? ⟨t.tb,2,none⟩=some (.chan (some t.gc)):=by
  rw[hr5.cell?]
  have hti:(going S i t).thr[i]? = some { t with st:=0 }:=by
   unfold going
   have:i<(picked S).thr.length:=(List.getElem?_eq_some_iff.1 ht2).1
   simp[this]
  exact (hevo.mem.rep.cell hti).2.2.1
 have hwbl:S.wb<w5.heap.size:=by
  rw[hr5.size,←hwb2]
  exact (Array.getElem?_eq_some_iff.1 hevo.mem.rep.wor).1
 have HF:Hid (Then z Ch S K v (going S i t) K w5):=⟨⟨v4,hr5,hn5,hevo⟩⟩
 clear hr1 hr2 hr3 hr4 hr5 hn1 hn3 hn4 hn5 he1 hown hbl hm hi hsc hsl h8 hrw1 hgl hrowp hidsp hbi hbs hos hou hsz hg hev2 hev3 hev3' hev4 hrep2 hrep3 ht2 ht3 c1 c2 f2 hthr2 hwb2 d3 g3 q1 q2 q3 q4 q5 q6 hevo h0
 generalize (Aq S S.thr.length).length=nn
 show GoesI Tryd.prog true (DT (ScZ z) Ch) Stop (G ((base 86).at _ [.code (seq2 (seq2 (seq2 (seq2 (seq2 (seq2 (seq2 (seq2 (Tryd.f86.body.getD .skip)))))))))]) _) w5
 unfold Tryd.f86 seq2
 simp only[Option.getD_some]
 refine Ac (Aa _ _) ?_
 refine Ae (Aa _ _) ?_
 simp only[List.size_toArray,List.length_cons,List.length_nil,Nat.reduceAdd,Nat.zero_add,List.range,List.range.loop]
 iterate 5
  (refine Ad rfl rfl (by decide) (fun d K hK=>?_)
   go_simp
   refine hK _ _ ⟨Af (fun e he=>?_),GoesI.at ?_ d⟩
   ·have hm:=mem_listed he
    simp[go_sem, *] at hm
    try exact ⟨_,_,hm⟩
   clear hK K)
 refine GoesI.stop fun d=>hstop _ _ (give_at (h:=0) (z':=.tuple #[]) 8 (S.wb+1) rfl rfl (by decide) (fun w=>by simp[execOp,scase,Act.eval]) (fun w=>by simp[go_sem,execOp,Act.eval]) ?_ (Nat.succ_le_of_lt hwbl) (fun B hB T hT=>?_))
 ·obtain ⟨v',k1,k2⟩:=HF.out
  exact ⟨v',k1.re rfl rfl rfl rfl rfl rfl,k2⟩
 ·clear HF hstop c2g
  refine .inl ⟨7,w5,rfl,?_⟩
  rw[served_fr,Frame.finish_at]
  k_c stepG_region_end
  k_c stepG_seq
  k_reg
  iterate 3
   (k_in
    refine goes_oper_k rfl rfl (by decide) (fun K hK=>?_)
    go_simp
    refine hK _ _ ⟨⟨rfl,fun e he=>by (have hm:=mem_listed he;simp[go_sem, *] at hm)⟩,?_⟩
    clear hK K)
  k_in
  have q2:=h₁ ⟨S.wb,8,none⟩ ⟨rfl,hz⟩
  rw[hcont] at q2
  refine goes_oper_k rfl rfl (by decide) (fun K hK=>?_)
  go_simp
  refine hK _ _ ⟨⟨rfl,fun e he=>by (have hm:=mem_listed he;simp[go_sem, *] at hm;subst hm;exact evC_read _ ⟨_,rfl,rfl,hz⟩ (by simp;omega))⟩,?_⟩
  clear hK K
  refine Goes.stop fun w₂ h₂=>⟨_,atIn_of (s:=Seat.one S.bk (.agg #[]) false Hm) rfl rfl (by decide) (fun w=>?_) (fun w=>?_) (hH _ (back50 _ rfl hoc))⟩
  ·simp[go_sem,execOp,rcase,Act.eval,Seat.one]
  ·simp[go_sem,execOp,Act.eval]
theorem ev_nil (w:World):(binOp .neq 20 .nilIface .nilIface).events Tryd.prog w #[]=#[]:=by
 show Sem.events Tryd.prog (do pure (Value.bool (!(←Op.equalIn (9999+1) 20 .nilIface .nilIface)))) w #[]=#[]
 unfold Op.equalIn
 simp[go_sem]
def ended (S:TS) (i:Nat) (t:Thr):TS:={ S with thr:=S.thr.set i { t with st:=3 } }
theorem end_ev {z:Nat->Option Nat}{S:TS}{v:World}(h:Rep z S v) {i:Nat}{t:Thr}(ht:S.thr[i]? = some t):Ev z S v (ended S i t) (v.setCell ⟨t.tb,3,none⟩ (I 3)):=by
 refine thr_ev h ht { t with st:=3 } rfl (fun b hb=>Below.heap_setCell _ _ _ _ hb) ?_ (by simp[World.setCell]) rfl rfl
 have:=heap_setCell_same (o:=3) (h.thr i t ht) (I 3)
 simpa using this
def GiveE (z:Nat->Option Nat) (cont:Addr->Value) (h bk:Nat) (F:World->Prop):Goroutine->World->Prop:=Lift.AtGive Tryd.prog (KC (ScZ z) cont) (Fv (ScZ z)) h bk (.agg #[]) none F
theorem ends_goes {z:Nat->Option Nat}{Ch:Nat->Prop}{Stop:Goroutine->World->Prop}{h:Nat}{cont:Addr->Value}{S:TS}{K:List (Nat×Int)}{v w:World}{i:Nat}{t:Thr}(bb:Nat) (T:Array Value) (todo:List Item) (hh:0<h)
 (hvw:Rel z v w) (hn:Ah Ch v) (hm:Mem z S K v) (ht:S.thr[i]? = some t) (hbb:v.cell? ⟨bb,0,none⟩=some (Pt t.tb 0)) (hbo:¬ Own S K bb)
 (hstop:∀ g w',GiveE z cont h S.bk (Then z Ch S K v (ended S i t) K) g w'->Stop g w') :
 GoesI Tryd.prog (h==0) (DT (ScZ z) Ch) Stop (G { (baseD 85).at ⟨T,[dclo 114 #[Pt bb 0]]⟩ todo with mode:=.returning } [botP Tryd.prog]) w:=by
 have hi:i<S.thr.length:=(List.getElem?_eq_some_iff.1 ht).1
 have hne:t.tb≠bb:=fun e=>hbo (.inl ⟨i+5,by simp[blk,ht,e]⟩)
 have e0:w.cell? ⟨bb,0,none⟩=some (Pt t.tb 0):=by rw[hvw.cell?];exact hbb
 have c3:v.cell? ⟨t.tb,3,none⟩=some (I t.st):=(hm.rep.cell ht).2.2.2.1
 have f3:v.frozen? ⟨t.tb,3,none⟩=false:=fzT_off hm.rep ht 3 (by omega)
 have HM:Hid (Mem z S K v):=⟨hm⟩
 have HE:Hid (Evo z S K v (ended S i t) K (v.setCell ⟨t.tb,3,none⟩ (I 3))):=⟨Evo.of_ev hm (end_ev hm.rep ht) rfl⟩
 clear hm
 refine goesI_unwind_clo (Aa _ _) rfl Tryd.func114 (by kernel_rfl) rfl ?_
 simp only[Tryd.ntmps114,List.size_toArray,List.length_cons,List.length_nil,Nat.reduceAdd,Nat.reduceSub,Array.replicate_succ,Array.replicate_zero,List.push_toArray,List.append_toArray,List.nil_append,List.cons_append]
 refine Ac (Aa _ _) ?_
 refine Ac (Aa _ _) ?_
 refine Ae (Aa _ _) ?_
 simp only[List.size_toArray,List.length_cons,List.length_nil,Nat.reduceAdd,Nat.zero_add,List.range,List.range.loop]
 refine goesI_recover_none (Aa _ _) rfl rfl rfl rfl (fun w=>by go_simp) (fun w=>by simp[go_sem,execOp,resolve,invoke,builtin]) ?_
 (refine Ad rfl rfl (by decide) (fun d K hK=>?_)
  go_simp
  refine hK _ _ ⟨Af (fun e he=>?_),GoesI.at ?_ d⟩
  ·have hm:=mem_listed he
   simp[go_sem,ev_nil, *] at hm
  clear hK K)
 refine Ab (Aa _ _) ?_
 refine Ax (Aa _ _) (t:=false) rfl ?_
 simp only[if_true,if_false,Bool.false_eq_true]
 refine Bh (Aa _ _) ?_
 refine Ac (Aa _ _) ?_
 refine Ae (Aa _ _) ?_
 simp only[List.size_toArray,List.length_cons,List.length_nil,Nat.reduceAdd,Nat.zero_add,List.range,List.range.loop]
 iterate 3
  (refine Ad rfl rfl (by decide) (fun d K hK=>?_)
   go_simp
   refine hK _ _ ⟨Af (fun e he=>?_),GoesI.at ?_ d⟩
   ·have hm:=mem_listed he
    simp[go_sem, *] at hm
    try exact ⟨_,_,hm⟩
   clear hK K)
 refine Ew (L:=LT) rfl rfl (by decide) (Bg Ci extT (by kernel_rfl)) hvw hn (v':=v.setCell ⟨t.tb,3,none⟩ (I 3)) (by go_simp) rfl (fun w2 hr2 hn2=>?_)
 clear e0
 have ht2:(ended S i t).thr[i]? = some { t with st:=3 }:=by simp[ended,hi]
 have e0:w2.cell? ⟨bb,0,none⟩=some (Pt t.tb 0):=by rw[hr2.cell?,World.cell?_setCell_far _ _ _ _ hne];exact hbb
 have e1:w2.cell? ⟨t.tb,0,none⟩=some (Pt S.wb 0):=by rw[hr2.cell?];exact (HE.out.mem.rep.cell ht2).1
 have e8:w2.cell? ⟨S.wb,8,none⟩=some (.chan (some S.bk)):=by rw[hr2.cell?];exact HE.out.mem.rep.wcell.2.2.2.2.2.2.2.2
 clear ht2
 refine Ab (Aa _ _) ?_
 refine Ae (Aa _ _) ?_
 simp only[List.size_toArray,List.length_cons,List.length_nil,Nat.reduceAdd,Nat.zero_add,List.range,List.range.loop]
 iterate 8
  (refine Ad rfl rfl (by decide) (fun d K hK=>?_)
   go_simp
   refine hK _ _ ⟨Af (fun e he=>?_),GoesI.at ?_ d⟩
   ·have hm:=mem_listed he
    simp[go_sem, *] at hm
    try exact ⟨_,_,hm⟩
   clear hK K)
 refine GoesI.stop fun d=>hstop _ _ (give_at (z':=.tuple #[]) 5 0 rfl rfl (by decide) (fun w=>by simp[execOp,scase,Act.eval]) (fun w=>by simp[go_sem,execOp,Act.eval]) ?_ (Nat.zero_le _) (fun B hB T hT=>⟨hh,?_⟩))
 ·exact ⟨_,hr2.re rfl rfl rfl rfl rfl rfl,hn2,HE.out⟩
 ·rw[hT,served_fr,Frame.finish_at]
  refine QuitsD.ctl rfl (fun w=>stepG_region_end) ?_
  refine QuitsD.ctl rfl (fun w=>stepG_end) ?_
  refine QuitsD.leaveD rfl ?_ Tryd.func114 rfl rfl ?_
  ·show (Act.put _ _ _).defers=[]
   unfold Act.put
   split<;>rfl
  ·exact quits_last _ _ Tryd.func85 rfl
noncomputable def run0:Code:=seq1 (Tryd.f85.body.getD .skip)
theorem fineRun0:A7 Tryd.prog true LT run0:=Dc Ci extT (by kernel_rfl)
noncomputable def ops492:Array Oper:=opsOf (seq2 (seq2 (Tryd.f85.body.getD .skip)))
noncomputable def lifeAct (tb bb:Nat) (F:Value):Act:=⟨#[Pt tb 0,F,Pt bb 0,undef,.func (.func 114) #[] #[Pt bb 0],F,Pt tb 0,undef],[dclo 114 #[Pt bb 0]]⟩
noncomputable def lifeFr (tb bb:Nat) (F:Value):Frame:=(baseD 85).at (lifeAct tb bb F) [.inRegion ops492 [2]]
theorem run_goes {z : Nat → Option Nat} {Ch : Nat → Prop} {Stop : Goroutine → World → Prop} {main : Bool} {v w : World} (tb : Nat) (f : FuncId) (fn : Func) (cap : Array Value) (hf : Tryd.prog.funcs[f]? = some fn) (hname : (fn.name == "runtime.NumGoroutine") = false) (cf : Code) (hcf : fn.body = some cf)
 (hvw:Rel z v w) (hn:Ah Ch v)
 (hk:∀ v' w',Rel z v' w'->Ah Ch v'->Grows v v'->v'.heap[v.heap.size]? = some (.cells #[Pt tb 0] 52 (0,0))->v'.heap.size=v.heap.size+1 ->
   GoesI Tryd.prog main (DT (ScZ z) Ch) Stop (G ((base f).at { tmps:=(#[Pt tb 0]++cap)++Array.replicate (fn.ntmps - (#[Pt tb 0]++cap).size) undef,defers:=[] } [.code cf]) [lifeFr tb v.heap.size (.func (.func f) #[] cap),botP Tryd.prog]) w')
 (code:Code) (hc:Tryd.f85.body=some code) :
 GoesI Tryd.prog main (DT (ScZ z) Ch) Stop (G ((baseD 85).at { tmps:=#[Pt tb 0,.func (.func f) #[] cap]++Array.replicate 6 undef,defers:=[] } [.code code]) [botP Tryd.prog]) w:=by
 have h1 : ¬ fn.name = "runtime.NumGoroutine" := by simpa using hname
 have hw0:code=.seq run0 (seq2 (Tryd.f85.body.getD .skip)):=by
  rw[hc];obtain rfl:=Option.some.inj hc;rfl
 subst hw0
 clear hc
 refine Ac (Aa _ _) ?_
 refine Ba (z:=z) (wr:=true) (L:=LT) (I:=Ah Ch) hE Di Az (fun v v' w w' es hi hr ho he=>Bq v v' w w' es hi hr ho he) hvw fineRun0 rfl (by simp[baseD]) hn
  (Q:=fun a w'=>a={ tmps:=#[Pt tb 0,.func (.func f) #[] cap,Pt v.heap.size 0]++Array.replicate 5 undef,defers:=[] } ∧
    w'.heap=v.heap.push (.cells #[Pt tb 0] 52)∧w'.os=v.os∧w'.output=v.output) (fun τ=>?_) ?_
 ·show Code.wp Tryd.prog (seq1 (Tryd.f85.body.getD .skip)) _ _ _
  unfold Tryd.f85 seq1
  simp only[Option.getD_some,Array.replicate_succ,Array.replicate_zero,List.push_toArray,List.append_toArray,List.nil_append,List.cons_append]
  go_wp2_with fail
  exact ⟨rfl,rfl,rfl,rfl⟩
 rintro a' v' w' ⟨rfl,hv1,hv2,hv3⟩ hr' hn' -
 have hsz:v'.heap.size=v.heap.size+1:=by rw[hv1];simp
 have hg:Grows v v':=⟨by omega,fun b hb=>by rw[hv1,Array.getElem?_push,if_neg (by omega)],hv2,hv3⟩
 have hbox:v'.heap[v.heap.size]? = some (.cells #[Pt tb 0] 52):=by rw[hv1];exact Array.getElem?_push_size
 have e0:w'.cell? ⟨v.heap.size,0,none⟩=some (Pt tb 0):=by rw[hr'.cell?];simp[World.cell?,hbox]
 have HK:Hid (GoesI Tryd.prog main (DT (ScZ z) Ch) Stop (G ((base f).at { tmps:=(#[Pt tb 0]++cap)++Array.replicate (fn.ntmps - (#[Pt tb 0]++cap).size) undef,defers:=[] } [.code cf]) [lifeFr tb v.heap.size (.func (.func f) #[] cap),botP Tryd.prog]) w'):=⟨hk v' w' hr' hn' hg hbox hsz⟩
 clear hk hv1 hv2 hv3 hsz hg hbox hn' hr' hvw hn
 generalize v.heap.size=N at e0 HK ⊢
 simp only[Array.replicate_succ,Array.replicate_zero,List.push_toArray,List.append_toArray,List.nil_append,List.cons_append]
 show GoesI Tryd.prog main (DT (ScZ z) Ch) Stop (G ((baseD 85).at _ [.code (seq2 (Tryd.f85.body.getD .skip))]) _) w'
 unfold Tryd.f85 seq2
 simp only[Option.getD_some]
 refine Ac (Aa _ _) ?_
 refine Ae (Aa _ _) ?_
 simp only[List.size_toArray,List.length_cons,List.length_nil,Nat.reduceAdd,Nat.zero_add,List.range,List.range.loop]
 (refine Ad rfl rfl (by decide) (fun d K hK=>?_)
  go_simp
  refine hK _ _ ⟨Af (fun e he=>?_),GoesI.at ?_ d⟩
  ·have hm:=mem_listed he
   simp[go_sem, *] at hm
  clear hK K)
 refine goesI_deferV (d:=dclo 114 #[Pt N 0]) (Aa _ _) rfl rfl (by decide) (fun w=>by simp[execOp,resolve,Deferred.ofValue,Act.eval,dclo]) (fun w=>by simp[go_sem,execOp,resolve,Deferred.ofValue,Act.eval]) ?_
 refine Ab (Aa _ _) ?_
 refine Ae (Aa _ _) ?_
 simp only[List.size_toArray,List.length_cons,List.length_nil,Nat.reduceAdd,Nat.zero_add,List.range,List.range.loop]
 iterate 2
  (refine Ad rfl rfl (by decide) (fun d K hK=>?_)
   go_simp
   refine hK _ _ ⟨Af (fun e he=>?_),GoesI.at ?_ d⟩
   ·have hm:=mem_listed he
    simp[go_sem, *] at hm
    try exact ⟨_,_,hm⟩
   clear hK K)
 refine Jb (f:=f) (args:=#[Pt tb 0]++cap) rfl rfl (by decide) (fun w=>?_) (fun w=>?_) (Aa _ _) hf hcf ?_
 ·simp[execOp,resolve,Deferred.ofValue,Act.eval,invoke,callFunc,hf,h1,hcf]
 ·refine listed_none ?_
  simp[go_sem,execOp,resolve,Deferred.ofValue,Act.eval,invoke,callFunc,hf,h1,hcf]
 exact HK.out
theorem dst492:ops492[2]? = some (ops492.getD 2 default):=by kernel_rfl
theorem life_tail {z:Nat->Option Nat}{Ch:Nat->Prop}{Stop:Goroutine->World->Prop}{h:Nat}{cont:Addr->Value}{S:TS}{K:List (Nat×Int)}{v w:World}{i:Nat}{t:Thr}(bb:Nat) (F:Value) (hh:0<h)
 (hvw:Rel z v w) (hn:Ah Ch v) (hm:Mem z S K v) (ht:S.thr[i]? = some t) (hbb:v.cell? ⟨bb,0,none⟩=some (Pt t.tb 0)) (hbo:¬ Own S K bb)
 (hstop:∀ g w',GiveE z cont h S.bk (Then z Ch S K v (ended S i t) K) g w'->Stop g w') :
 GoesI Tryd.prog (h==0) (DT (ScZ z) Ch) Stop (G ((baseD 85).at ((lifeAct t.tb bb F).put (ops492.getD 2 default).dst (.tuple #[])) [.inRegion ops492 []]) [botP Tryd.prog]) w:=by
 refine Ab (Aa _ _) ?_
 refine Eu (Aa _ _) ?_
 have e:(ops492.getD 2 default).dst=some 7:=by kernel_rfl
 rw[e]
 exact ends_goes bb _ [] hh hvw hn hm ht hbb hbo hstop
noncomputable def Dn:Array Oper:=opsOf (Tryd.f59.body.getD .skip)
def val33 (csl F rsl asl:Value) (tb rb ix:Nat):Nat->Value
 |0=>Pt tb 0
 |1=>csl
 |2=>F
 |3=>rsl
 |4=>I ix
 |5=>Pt rb ix
 |6=>asl
 |_=>undef
theorem lead33:leadsOn .any Dn 7=true:=by kernel_rfl
theorem text33:inText .any Dn 7=true:=by kernel_rfl
theorem fineOps33 (i:Nat) (hi:i<7) (o:Oper) (ho:Dn[i]? = some o):D9 Tryd.prog true LT o:=by
 have h:((Dn.extract 0 7).all fun o=>Et Tryd.prog true o.op||Hf Da I5 o.op)=true:=by kernel_rfl
 refine Bg Ci extT ((Array.all_eq_true_iff_forall_mem.1 h) o ?_)
 have:(Dn.extract 0 7)[i]? = some o:=by
  have hs:=(Array.getElem?_eq_some_iff.1 ho).1
  rw[Array.getElem?_extract,if_pos (by omega)]
  simpa using ho
 exact Array.mem_of_getElem? this
theorem rest33 (t:Nat):Region.linearise.go .any Dn (Dn.size - 7) t (Cf Dn.size 7) []=[7]:=by
 have e1:((List.range Dn.size).filter fun i=>!(Cf Dn.size 7).getD i true&&((Dn[i]?).map (·.after.all fun e=>!Region.binds .any e||(Cf Dn.size 7).getD e.on false)).getD false)=[7]:=by kernel_rfl
 have e0:Dn.size - 7=1:=by kernel_rfl
 rw[e0]
 unfold Region.linearise.go
 simp only[e1,List.length_cons,List.length_nil,Nat.zero_add,Nat.mod_one,List.getElem?_cons_zero]
 rfl
theorem dst33 (i:Nat) (hi:i<7) (o:Oper) (ho:Dn[i]? = some o):o.dst=some (6+i):=by
 have h:((List.range 7).all fun i=>(Dn[i]?).map (·.dst)==some (some (6+i)))=true:=by kernel_rfl
 have:=(List.all_eq_true.1 h) i (by simpa using hi)
 rw[ho] at this
 simpa using this
theorem guard33 (i:Nat) (hi:i<8) (o:Oper) (ho:Dn[i]? = some o):o.guard=none:=by
 have h:((List.range 8).all fun i=>((Dn[i]?).map (·.guard.isNone))==some true)=true:=by kernel_rfl
 have:=(List.all_eq_true.1 h) i (by simpa using hi)
 rw[ho] at this
 simpa using this
theorem op33 {i:Nat}{o:Oper}{p:Op}(h:(Dn[i]?).map (·.op)=some p) (ho:Dn[i]? = some o):o.op=p:=by
 rw[ho] at h
 exact Option.some.inj h
theorem after33 {i j:Nat}{o:Oper}(h:((Dn[i]?).map (fun o=>o.after.toList.any fun e=>e.on==j&&Region.binds .any e))=some true) (ho:Dn[i]? = some o) {l:Array Bool}(hd:∀ e∈o.after.toList,Region.binds .any e=true->l.getD e.on false=true):l.getD j false=true:=by
 rw[ho] at h
 simp only[Option.map_some,Option.some.injEq,List.any_eq_true,Bool.and_eq_true,beq_iff_eq] at h
 obtain ⟨e,he,rfl,hb⟩:=h
 exact hd e he hb
theorem body33_goes {z:Nat->Option Nat}{Ch:Nat->Prop}{Stop:Goroutine->World->Prop}{main:Bool}{v w:World}{tb p1 p2 p3 p4:Nat}(csl F asl:Value) (rb m cap ix:Nat) (hix:ix<m)
 (h1:v.cell? ⟨p1,0,none⟩=some csl) (h2:v.cell? ⟨p2,0,none⟩=some F) (h3:v.cell? ⟨p3,0,none⟩=some (.slice (some ⟨rb,0,none⟩) m cap)) (h4:v.cell? ⟨p4,0,none⟩=some (I ix)) (h5:v.cell? ⟨rb,ix,none⟩=some asl) (cs:List Frame) {bc:Frame} {ac:Act} {ops:Array Oper} {q:Nat} {rest:List Nat} {oc:Oper} {k:List Item} (hoc:ops[q]? = some oc)
 (hvw:Rel z v w) (hn:Ah Ch v)
 (hk:∀ w' (bd:Frame) (ad:Act) (od:Array Oper) (qd:Nat) (rd:List Nat) (oe:Oper) (kd:List Item),Rel z v w'->od[qd]? = some oe ->
   (∀ (z:Nat->Option Nat) (Ch:Nat->Prop) (Stop:Goroutine->World->Prop) (w:World),GoesI Tryd.prog main (DT (ScZ z) Ch) Stop (G (bc.at (ac.put oc.dst (.tuple #[])) (.inRegion ops rest :: k)) cs) w->GoesI Tryd.prog main (DT (ScZ z) Ch) Stop (G (bd.at (ad.put oe.dst (.tuple #[])) (.inRegion od rd :: kd)) (bc.at ac (.inRegion ops (q :: rest) :: k) :: cs)) w)->∀ code,Tryd.f60.body=some code ->
   GoesI Tryd.prog main (DT (ScZ z) Ch) Stop (G ((base 60).at { tmps:=#[Pt tb 0,csl,F,asl]++Array.replicate 44 undef,defers:=[] } [.code code]) (bd.at ad (.inRegion od (qd :: rd) :: kd) :: bc.at ac (.inRegion ops (q :: rest) :: k) :: cs)) w') (code:Code) (hc:Tryd.f59.body=some code) :
 GoesI Tryd.prog main (DT (ScZ z) Ch) Stop (G ((base 59).at { tmps:=#[Pt tb 0,Pt p1 0,Pt p2 0,Pt p3 0,Pt p4 0]++Array.replicate 9 undef,defers:=[] } [.code code]) (bc.at ac (.inRegion ops (q :: rest) :: k) :: cs)) w:=by
 have hc0:code=.region 0 Dn true:=by
  have:Tryd.f59.body=some (.region 0 Dn true):=rfl
  rw[this] at hc
  exact (Option.some.inj hc).symm
 subst hc0
 clear hc
 simp only[Array.replicate_succ,Array.replicate_zero,List.push_toArray,List.append_toArray,List.nil_append,List.cons_append]
 refine Iu (n:=7) (val:=val33 csl F (.slice (some ⟨rb,0,none⟩) m cap) asl tb rb ix) (J:=fun w=>Rel z v w) mix21 (fun w d hJ=>hJ.re rfl rfl rfl rfl rfl rfl) (fun w=>dt_draw _ _ w) lead33 text33 (on:=Dn[7]'(by decide)) rfl ?_ ?_ ?_
  { tmps:=#[Pt tb 0,Pt p1 0,Pt p2 0,Pt p3 0,Pt p4 0,undef,Pt tb 0,csl,F,.slice (some ⟨rb,0,none⟩) m cap,I ix,Pt rb ix,asl,undef],defers:=[] } ?_ ?_ hvw
 ·intro i1 j1 oi oj t1 h1 h2 h3 h4 h5 h6
  rw[dst33 i1 h1 oi h3] at h5
  rw[dst33 j1 h2 oj h4] at h6
  have:=Option.some.inj (h5.trans h6.symm)
  omega
 ·intro i1 o1 t1 h1 h2 h3
  rw[dst33 i1 h1 o1 h2] at h3
  have:=Option.some.inj h3
  subst this
  show (6+i1:Nat)<14
  omega
 ·intro i' o rest' listed a w1 hi ho hdep hagr hJ hgo
  have ev:∀ j,j<7->listed.getD j false=true->a.eval (.tmp (6+j))=val33 csl F (.slice (some ⟨rb,0,none⟩) m cap) asl tb rb ix j:=fun j hj hl =>
   hagr.eval hj (o:=Dn[j]'(by have:Dn.size=8:=rfl;omega)) (Array.getElem?_eq_getElem _) hl (dst33 j hj _ (Array.getElem?_eq_getElem _))
  have ev0:∀ t':Nat,t'<6->a.eval (.tmp t')=_:=fun t' ht'=>hagr.eval0 (t:=t') (fun j o hj ho e=>by
   rw[dst33 j hj o ho] at e
   have:(6+j:Nat)=t':=Option.some.inj e
   omega)
  have e0:a.eval (.tmp 0)=Pt tb 0:=ev0 0 (by omega)
  have e1:a.eval (.tmp 1)=Pt p1 0:=ev0 1 (by omega)
  have e2:a.eval (.tmp 2)=Pt p2 0:=ev0 2 (by omega)
  have e3:a.eval (.tmp 3)=Pt p3 0:=ev0 3 (by omega)
  have e4:a.eval (.tmp 4)=Pt p4 0:=ev0 4 (by omega)
  have hw:Region.wanted o (yielded Dn a.tmps)=true:=by simp[Region.wanted,guard33 i' (by omega) o ho]
  have hrun:(execOp a.eval o).run Tryd.prog v=.ok (.value (val33 csl F (.slice (some ⟨rb,0,none⟩) m cap) asl tb rb ix i')) v:=by
   have hjl:(ix:Int)<(m:Int):=by omega
   match i',hi,ho with
   |0,_,ho=>have hop:=op33 (p:=.move (.tmp 0)) rfl ho;unfold execOp;rw[hop];simp only[e0];simp[go_sem,val33]
   |1,_,ho=>have hop:=op33 (p:=.load 45 (.tmp 1)) rfl ho;unfold execOp;rw[hop];simp only[e1];simp[go_sem,h1,val33]
   |2,_,ho=>have hop:=op33 (p:=.load 85 (.tmp 2)) rfl ho;unfold execOp;rw[hop];simp only[e2];simp[go_sem,h2,val33]
   |3,_,ho=>have hop:=op33 (p:=.load 31 (.tmp 3)) rfl ho;unfold execOp;rw[hop];simp only[e3];simp[go_sem,h3,val33]
   |4,_,ho=>have hop:=op33 (p:=.load 3 (.tmp 4)) rfl ho;unfold execOp;rw[hop];simp only[e4];simp[go_sem,h4,val33]
   |5,_,ho=>have hop:=op33 (p:=.indexAddr 31 (.tmp 9) (.tmp 10)) rfl ho;have l:a.eval (.tmp 9)=.slice (some ⟨rb,0,none⟩) m cap:=ev 3 (by omega) (after33 (by kernel_rfl) ho hdep);have l':a.eval (.tmp 10)=I ix:=ev 4 (by omega) (after33 (by kernel_rfl) ho hdep);unfold execOp;rw[hop];simp only[l,l'];simp[go_sem,val33,hjl]
   |6,_,ho=>have hop:=op33 (p:=.load 46 (.tmp 11)) rfl ho;have l:a.eval (.tmp 11)=Pt rb ix:=ev 5 (by omega) (after33 (by kernel_rfl) ho hdep);unfold execOp;rw[hop];simp only[l];simp[go_sem,h5,val33]
  exact B9 ho hw (by simp[base]) (fineOps33 i' hi o ho) hJ hn hrun rfl (fun w2 hr2 _=>hgo w2 hr2)
 ·refine ⟨rfl,rfl,fun j o t' hj ho _ hd=>?_,fun t' hne=>?_⟩
  ·rw[dst33 j hj o ho] at hd
   have:(6+j:Nat)=t':=Option.some.inj hd
   subst this
   match j,hj with
   |0,_=>rfl
   |1,_=>rfl
   |2,_=>rfl
   |3,_=>rfl
   |4,_=>rfl
   |5,_=>rfl
   |6,_=>rfl
  ·have hcase:∀ m:Nat,m<7->t'≠6+m:=fun m hm e=>by
    have hs:m<Dn.size:=by have:Dn.size=8:=rfl;omega
    refine hne m (Dn[m]'hs) hm (Array.getElem?_eq_getElem hs) ?_ ((dst33 m hm _ (Array.getElem?_eq_getElem hs)).trans (by rw[e]))
    rw[Array.getD_eq_getD_getElem?,Hk hs]
    simp[hm]
   match t',hcase with
   |0,_=>rfl
   |1,_=>rfl
   |2,_=>rfl
   |3,_=>rfl
   |4,_=>rfl
   |5,_=>rfl
   |6,h=>exact absurd rfl (h 0 (by omega))
   |7,h=>exact absurd rfl (h 1 (by omega))
   |8,h=>exact absurd rfl (h 2 (by omega))
   |9,h=>exact absurd rfl (h 3 (by omega))
   |10,h=>exact absurd rfl (h 4 (by omega))
   |11,h=>exact absurd rfl (h 5 (by omega))
   |12,h=>exact absurd rfl (h 6 (by omega))
   |13,_=>rfl
   |m+14,_=>rfl
 ·intro tt w1 hJ
  rw[rest33]
  refine Ao (f:=60) (fn:=Tryd.f60) (args:=#[Pt tb 0,csl,F,asl]) (Aa _ _) (o:=Dn[7]'(by decide)) rfl rfl (by decide) rfl (by simp[Act.eval]) Tryd.func60 (by decide) rfl ?_
  refine hk w1 _ _ _ _ _ _ _ hJ rfl (fun z Ch Stop w hg=>?_) _ rfl
  refine Ab (Aa _ _) ?_
  refine Eu (Aa _ _) ?_
  refine Cm (b:=base 59) (fn:=Tryd.f59) rfl ?_ Tryd.func59 (fun w=>results_none rfl _ _ _) (fun w=>by simp[results,go_sem]) hoc (Aa _ _) hg
  show (Act.put _ _ _).defers=[]
  unfold Act.put
  split<;>rfl
theorem noted_ev {z:Nat->Option Nat}{S:TS}{v v':World}{news:List Value}(h:Rep z S v) (hN:Noted S.wb S.tv S.n S.base S.tr news v v'):∃ tv',Ev z S v { S with tv:=tv',n:=S.n+1,tr:=S.tr++news } v':=by
 obtain ⟨g,cap,hw,hown,hat,hfr⟩:=hN
 have hst:∀ k b,blk S k=some b->k≠0->k≠3->v'.heap[b]? = v.heap[b]?:=fun k b hk h0 h3=>hfr.block b (h.lt hk) (fun hS=>by
  rcases hS with rfl|hS
  ·exact h0 (h.apart k 0 _ hk rfl)
  ·exact h3 (h.apart k 3 b hk hS.symm))
 have hnew:∀ k b,blk { S with tv:=.slice (some ⟨g,0,none⟩) (S.n+1) cap,n:=S.n+1,tr:=S.tr++news } k=some b->(blk S k=some b)∨(k=3∧b=g):=fun k b hk=>by
  match k,hk with
  |0,hk=>exact .inl hk
  |1,hk=>exact .inl hk
  |2,hk=>exact .inl hk
  |3,hk=>cases hk;exact .inr ⟨rfl,rfl⟩
  |4,hk=>exact .inl hk
  |k+5,hk=>exact .inl hk
 refine ⟨.slice (some ⟨g,0,none⟩) (S.n+1) cap,⟨?_,fun j t' ht'=>?_,hown,?_,?_,?_,Nat.le_trans h.bs hfr.size,fun j k b hj hk=>?_,h.kept⟩,hfr.mono (fun x _ hx=>?_),fun b ⟨k,hk⟩=>?_⟩
 ·have:=hw _ _ _ h.wor
  simpa using this
 ·rw[hst (j+5) t'.tb (by simp[blk,ht']) (by omega) (by omega)]
  exact h.thr j t' ht'
 ·exact Au (fun b hb=>hst 1 b hb (by omega) (by omega)) h.chg
 ·exact Au (fun b hb=>hst 2 b hb (by omega) (by omega)) h.ths
 ·exact Au (fun b hb=>hst 4 b hb (by omega) (by omega)) h.sch
 ·rcases hnew j b hj with e1|⟨rfl,rfl⟩<;>rcases hnew k b hk with e2|⟨rfl,e2⟩
  ·exact h.apart j k b e1 e2
  ·subst e2
   rcases hat with ha|ha
   ·exact h.apart j 3 b e1 ha
   ·have:=h.lt e1;omega
  ·rcases hat with ha|ha
   ·exact h.apart 3 k b ha e2
   ·have:=h.lt e2;omega
  ·rfl
 ·rcases hx with rfl|hx
  ·exact ⟨0,rfl⟩
  ·exact ⟨3,hx.symm⟩
 ·rcases hnew k b hk with e1|⟨_,rfl⟩
  ·exact .inl ⟨k,e1⟩
  ·rcases hat with ha|ha
   ·exact .inl ⟨3,ha⟩
   ·exact .inr ha
def stuckS (S:TS) (tv:Value):TS:={ S with stk:=true,tv:=tv,n:=S.n+1,tr:=S.tr++[I (-1),I (-1),I 7,I 0,I 0] }
theorem news5n (w:World) (a b c d e:Int) (t:TypeId) {n:Nat}(hn:n=w.heap.size):∀ j u,[I a,I b,I c,I d,I e][j]? = some u->(w.alloc (.cells #[I a,I b,I c,I d,I e] t)).cell? ((⟨n,0,none⟩:Addr).add j)=some u:=by
 subst hn;exact news5 w a b c d e t
theorem end_wp {S:TS}{v:World}(p:Option Addr) (cap:Nat) (u6 u8 u9 u10 u11 u12 u13 u14 u15 u16 u17 u18 u19 u20 u21 u22 u23 u24 u25 u26 u27 u28 u29 u30 u31:Value) :
 c510.wp Tryd.prog (fun e a w'=>e=.ret∧∃ x,(results Tryd.f86 a.tmps).run Tryd.prog w'=.ok x w'∧(x=.bool false∧w'=v)) { tmps:=#[Pt S.wb 0,undef,.bool false,.slice p 0 cap,.bool false,undef,u6,undef,u8,u9,u10,u11,u12,u13,u14,u15,u16,u17,u18,u19,u20,u21,u22,u23,u24,u25,u26,u27,u28,u29,u30,u31]++Array.replicate 41 undef,defers:=[] } v:=by
 show Code.wp Tryd.prog c510 _ _ _
 unfold c510 Tryd.f86 seq1 seq2
 simp only[Option.getD_some,Array.replicate_succ,Array.replicate_zero,List.push_toArray,List.append_toArray,List.nil_append,List.cons_append]
 go_wp2_with fail
 exact results_tmp (t:=2) rfl _ _ _
theorem stuck_wp {z:Nat->Option Nat}{S:TS}{v:World}(h:Rep z S v) (hn:(S.n+1)*40≤140737488355328) (p:Option Addr) (cap:Nat) (u6 u8 u9 u10 u11 u12 u13 u14 u15 u16 u17 u18 u19 u20 u21 u22 u23 u24 u25 u26 u27 u28 u29 u30 u31:Value) :
 c510.wp Tryd.prog (fun e a w'=>e=.ret∧∃ x,(results Tryd.f86 a.tmps).run Tryd.prog w'=.ok x w'∧(x=.bool true∧∃ tv,Ev z S v (stuckS S tv) w')) { tmps:=#[Pt S.wb 0,undef,.bool false,.slice p 0 cap,.bool true,undef,u6,undef,u8,u9,u10,u11,u12,u13,u14,u15,u16,u17,u18,u19,u20,u21,u22,u23,u24,u25,u26,u27,u28,u29,u30,u31]++Array.replicate 41 undef,defers:=[] } v:=by
 have c5:=h.wcell.2.2.2.2.2.1
 have c6:=h.wcell.2.2.2.2.2.2.1
 have f5:=fz_off h 5 (by omega)
 have f6:=fz_off h 6 (by omega)
 have h1:=world_set h S.us S.la true 6 (.bool true) (by simp)
 have HV:Hid (Ev z S v { S with us:=S.us,la:=S.la,stk:=true } (v.setCell ⟨S.wb,6,none⟩ (.bool true))):=⟨h1⟩
 have K5:Hid ((v.setCell ⟨S.wb,6,none⟩ (.bool true)).cell? ⟨S.wb,5,none⟩=some S.tv∧(v.setCell ⟨S.wb,6,none⟩ (.bool true)).frozen? ⟨S.wb,5,none⟩=false):=⟨⟨h1.rep.wcell.2.2.2.2.2.1,fz_off h1.rep 5 (by omega)⟩⟩
 have n1:S.tv.ownBlock≠some S.wb:=fun e=>by have:=h.apart 3 0 S.wb e rfl;omega
 have q5:S.wb<v.heap.size:=World.block_lt_of_cell? _ _ c5
 have qb:S.base≤v.heap.size:=h.bs
 have HO:Hid ((v.setCell ⟨S.wb,6,none⟩ (.bool true)).ownsRow S.base 38 5 S.tv S.n S.tr):=⟨h1.rep.own⟩
 obtain ⟨tp,tc,htv⟩:=E8 h.own
 rw[htv] at c5
 have HO':Hid ((v.setCell ⟨S.wb,6,none⟩ (.bool true)).ownsRow S.base 38 5 (.slice tp S.n tc) S.n S.tr):=⟨by rw[←htv];exact HO.out⟩
 have n1':(Value.slice tp S.n tc).ownBlock≠some S.wb:=by rw[←htv];exact n1
 have HTV:Hid (S.tv=.slice tp S.n tc):=⟨htv⟩
 clear htv
 obtain ⟨j0,hj,hj0,hj1,hj2⟩:=info_parts info34
 have hne:S.wb≠v.heap.size:=by omega
 have hne':v.heap.size≠S.wb:=by omega
 clear h h1
 show Code.wp Tryd.prog c510 _ _ _
 unfold c510 Tryd.f86 seq1 seq2
 simp only[Option.getD_some,Array.replicate_succ,Array.replicate_zero,List.push_toArray,List.append_toArray,List.nil_append,List.cons_append]
 go_wp2_with (first
  |(refine wpList_append_lies _ rfl (.tmp 43) (.tmp 45) 34 rfl S.base 38 j0 _ 5 40 Tryd.underlying34 hj hj0 hj1 hj2 rfl (by decide) (.slice tp S.n tc) S.n S.tr rfl (F5 (Br (Below.refl _ _) _) HO'.out) ⟨_,0,none⟩ 1 1 [I (-1),I (-1),I 7,I 0,I 0] rfl rfl (news5n _ _ _ _ _ _ _ (by simp[World.setCell])) (one5 _ _ _ _ _) (by decide) (by unfold maxLen;omega) (by omega) (by simp;omega) _ rfl ?_
    intro g cpg w6 hown6 hgrow6 hat6 hlt6
    obtain ⟨_,_,k5,k6⟩:=keep4g (keep4 ⟨K5.out.1,K5.out.1,K5.out.1,K5.out.2⟩ (Br (Below.refl _ _) _)) hgrow6 n1' n1' n1'))
 refine ⟨_,results_tmp (t:=2) rfl _ _ _,rfl,?_⟩
 have hN:Noted S.wb S.tv S.n S.base S.tr [I (-1),I (-1),I 7,I 0,I 0] (v.setCell ⟨S.wb,6,none⟩ (.bool true)) (w6.setCell ⟨S.wb,5,none⟩ (.slice (some ⟨g,0,none⟩) (S.n+1) cpg)):=by
  rw[HTV.out]
  exact noted_of (Br (Below.refl _ _) _) (by simpa [World.setCell] using q5) hgrow6 hown6 hat6 n1'
 obtain ⟨tv,hev⟩:=noted_ev HV.out.rep hN
 exact ⟨tv,HV.out.trans hev⟩
theorem turn50_stuck {z:Nat->Option Nat}{Ch:Nat->Prop}{Stop:Goroutine->World->Prop}{S:TS}{K:List (Nat×Int)}{v w:World}(cs:List Frame) {bc:Frame}{ac:Act}{ops:Array Oper}{q:Nat}{rest:List Nat}{oc:Oper}{k:List Item}(hoc:ops[q]? = some oc)
 (hvw:Rel z v w) (hn:Ah Ch v) (hm:Mem z S K v) (h8:S.thr.length≤8) (h0:Aq S S.thr.length=[]) (hw:Db S S.thr.length=true) (hnn:(S.n+1)*40≤140737488355328)
 (hk:∀ v' w' tv,Rel z v' w'->Ah Ch v'->Evo z S K v (stuckS S tv) K v'->GoesI Tryd.prog true (DT (ScZ z) Ch) Stop (G (bc.at (ac.put oc.dst (.bool true)) (.inRegion ops rest :: k)) cs) w') (code:Code) (hc:Tryd.f86.body=some code) :
 GoesI Tryd.prog true (DT (ScZ z) Ch) Stop (G ((base 86).at { tmps:=#[Pt S.wb 0]++Array.replicate 72 undef,defers:=[] } [.code code]) (bc.at ac (.inRegion ops (q :: rest) :: k) :: cs)) w:=by
 have hw0:code=.seq c500 (.seq c501 (.seq c502 (.seq scan c504))):=by
  obtain rfl:=Option.some.inj hc;rfl
 subst hw0
 clear hc
 simp only[Array.replicate_succ,Array.replicate_zero,List.push_toArray,List.append_toArray,List.nil_append,List.cons_append]
 refine Ac (Aa _ _) ?_
 refine Dp hE Gw hvw hn fine500 rfl (by simp[base]) (a':={ tmps:=#[Pt S.wb 0,undef,.bool false]++Array.replicate 70 undef,defers:=[] }) (fun τ=>?_) (fun w hvw=>?_)
 ·show Code.wp Tryd.prog (c500) _ _ _
  unfold c500 Tryd.f86 seq1
  simp only[Option.getD_some,Array.replicate_succ,Array.replicate_zero,List.push_toArray,List.append_toArray,List.nil_append,List.cons_append]
  go_wp2_with fail
  exact ⟨rfl,rfl,rfl⟩
 simp only[Array.replicate_succ,Array.replicate_zero,List.push_toArray,List.append_toArray,List.nil_append,List.cons_append]
 refine Ac (Aa _ _) ?_
 refine Dp hE Gw hvw hn fine501 rfl (by simp[base]) (a':={ tmps:=#[Pt S.wb 0,undef,.bool false,.slice none 0 0]++Array.replicate 69 undef,defers:=[] }) (fun τ=>?_) (fun w hvw=>?_)
 ·show Code.wp Tryd.prog (c501) _ _ _
  unfold c501 Tryd.f86 seq1 seq2
  simp only[Option.getD_some,Array.replicate_succ,Array.replicate_zero,List.push_toArray,List.append_toArray,List.nil_append,List.cons_append]
  go_wp2_with fail
  exact ⟨rfl,rfl,rfl⟩
 simp only[Array.replicate_succ,Array.replicate_zero,List.push_toArray,List.append_toArray,List.nil_append,List.cons_append]
 refine Ac (Aa _ _) ?_
 refine Dp hE Gw hvw hn fine502 rfl (by simp[base]) (a':={ tmps:=#[Pt S.wb 0,undef,.bool false,.slice none 0 0,.bool false]++Array.replicate 68 undef,defers:=[] }) (fun τ=>?_) (fun w hvw=>?_)
 ·show Code.wp Tryd.prog (c502) _ _ _
  unfold c502 Tryd.f86 seq1 seq2
  simp only[Option.getD_some,Array.replicate_succ,Array.replicate_zero,List.push_toArray,List.append_toArray,List.nil_append,List.cons_append]
  go_wp2_with fail
  exact ⟨rfl,rfl,rfl⟩
 simp only[Array.replicate_succ,Array.replicate_zero,List.push_toArray,List.append_toArray,List.nil_append,List.cons_append]
 refine Ac (Aa _ _) ?_
 have hscan:∀ τ,scan.wp Tryd.prog (fun e a w'=>e=.normal∧ScanQ S v a w') { tmps:=#[Pt S.wb 0,undef,.bool false,.slice none 0 0,.bool false]++Array.replicate 68 undef,defers:=[] } (Ap v τ 0):=fun τ=>scan_wp (hm.rep.same (v':=Ap v τ 0) rfl) h8
 simp only[Array.replicate_succ,Array.replicate_zero,List.push_toArray,List.append_toArray,List.nil_append,List.cons_append] at hscan
 refine Ba (c:=scan) (z:=z) (wr:=true) (L:=LM) (I:=Ah Ch) hE Gw Az (fun v v' w w' es hi hr ho he=>Bq v v' w w' es hi hr ho he) hvw fineScan rfl (by simp[base]) hn hscan ?_
 rintro a' v1 w1 ⟨⟨lv,⟨u6,u8,u9,u10,u11,u12,u13,u14,u15,u16,u17,u18,u19,u20,u21,u22,u23,u24,u25,u26,u27,u28,u29,u30,u31,rfl⟩,hown⟩,hsz,hbl,hos,hou⟩ hr1 hn1 -
 have hg:Grows v v1:=⟨hsz,hbl,hos,hou⟩
 have he1:=hm.grows hg
 obtain ⟨p,cap,rfl⟩:=E8 hown
 have hc504:c504=.seq c510 (.seq pick15 (.seq last16 (.seq state17 c518))):=rfl
 rw[hc504]
 clear hscan
 rw[h0,hw]
 simp only[List.length_nil]
 refine Ac (Aa _ _) ?_
 have hst:=fun τ=>stuck_wp (he1.mem.rep.same (v':=Ap v1 τ 0) rfl) hnn p cap u6 u8 u9 u10 u11 u12 u13 u14 u15 u16 u17 u18 u19 u20 u21 u22 u23 u24 u25 u26 u27 u28 u29 u30 u31
 refine G0 (f:=86) (fn:=Tryd.f86) (c:=c510) hE Gw hr1 hn1 Tryd.func86 fine510 rfl hoc (R:=fun x w'=>x=.bool true∧∃ tv,Ev z S v1 (stuckS S tv) w') (fun τ=>wp_mono (hst τ) (fun e a w' hq=>by obtain ⟨h1,x,h2,h3,tv,h4⟩:=hq;exact ⟨h1,x,h2,h3,tv,h4.base rfl rfl rfl⟩)) ?_
 rintro x v2 w2 ⟨rfl,tv,hev⟩ hr2 hn2
 exact hk v2 w2 tv hr2 hn2 (he1.trans (Evo.of_ev he1.mem hev rfl))
theorem turn50_end {z:Nat->Option Nat}{Ch:Nat->Prop}{Stop:Goroutine->World->Prop}{S:TS}{K:List (Nat×Int)}{v w:World}(cs:List Frame) {bc:Frame}{ac:Act}{ops:Array Oper}{q:Nat}{rest:List Nat}{oc:Oper}{k:List Item}(hoc:ops[q]? = some oc)
 (hvw:Rel z v w) (hn:Ah Ch v) (hm:Mem z S K v) (h8:S.thr.length≤8) (h0:Aq S S.thr.length=[]) (hw:Db S S.thr.length=false)
 (hk:∀ v' w',Rel z v' w'->Ah Ch v'->Evo z S K v S K v'->GoesI Tryd.prog true (DT (ScZ z) Ch) Stop (G (bc.at (ac.put oc.dst (.bool false)) (.inRegion ops rest :: k)) cs) w') (code:Code) (hc:Tryd.f86.body=some code) :
 GoesI Tryd.prog true (DT (ScZ z) Ch) Stop (G ((base 86).at { tmps:=#[Pt S.wb 0]++Array.replicate 72 undef,defers:=[] } [.code code]) (bc.at ac (.inRegion ops (q :: rest) :: k) :: cs)) w:=by
 have hw0:code=.seq c500 (.seq c501 (.seq c502 (.seq scan c504))):=by
  obtain rfl:=Option.some.inj hc;rfl
 subst hw0
 clear hc
 simp only[Array.replicate_succ,Array.replicate_zero,List.push_toArray,List.append_toArray,List.nil_append,List.cons_append]
 refine Ac (Aa _ _) ?_
 refine Dp hE Gw hvw hn fine500 rfl (by simp[base]) (a':={ tmps:=#[Pt S.wb 0,undef,.bool false]++Array.replicate 70 undef,defers:=[] }) (fun τ=>?_) (fun w hvw=>?_)
 ·show Code.wp Tryd.prog (c500) _ _ _
  unfold c500 Tryd.f86 seq1
  simp only[Option.getD_some,Array.replicate_succ,Array.replicate_zero,List.push_toArray,List.append_toArray,List.nil_append,List.cons_append]
  go_wp2_with fail
  exact ⟨rfl,rfl,rfl⟩
 simp only[Array.replicate_succ,Array.replicate_zero,List.push_toArray,List.append_toArray,List.nil_append,List.cons_append]
 refine Ac (Aa _ _) ?_
 refine Dp hE Gw hvw hn fine501 rfl (by simp[base]) (a':={ tmps:=#[Pt S.wb 0,undef,.bool false,.slice none 0 0]++Array.replicate 69 undef,defers:=[] }) (fun τ=>?_) (fun w hvw=>?_)
 ·show Code.wp Tryd.prog (c501) _ _ _
  unfold c501 Tryd.f86 seq1 seq2
  simp only[Option.getD_some,Array.replicate_succ,Array.replicate_zero,List.push_toArray,List.append_toArray,List.nil_append,List.cons_append]
  go_wp2_with fail
  exact ⟨rfl,rfl,rfl⟩
 simp only[Array.replicate_succ,Array.replicate_zero,List.push_toArray,List.append_toArray,List.nil_append,List.cons_append]
 refine Ac (Aa _ _) ?_
 refine Dp hE Gw hvw hn fine502 rfl (by simp[base]) (a':={ tmps:=#[Pt S.wb 0,undef,.bool false,.slice none 0 0,.bool false]++Array.replicate 68 undef,defers:=[] }) (fun τ=>?_) (fun w hvw=>?_)
 ·show Code.wp Tryd.prog (c502) _ _ _
  unfold c502 Tryd.f86 seq1 seq2
  simp only[Option.getD_some,Array.replicate_succ,Array.replicate_zero,List.push_toArray,List.append_toArray,List.nil_append,List.cons_append]
  go_wp2_with fail
  exact ⟨rfl,rfl,rfl⟩
 simp only[Array.replicate_succ,Array.replicate_zero,List.push_toArray,List.append_toArray,List.nil_append,List.cons_append]
 refine Ac (Aa _ _) ?_
 have hscan:∀ τ,scan.wp Tryd.prog (fun e a w'=>e=.normal∧ScanQ S v a w') { tmps:=#[Pt S.wb 0,undef,.bool false,.slice none 0 0,.bool false]++Array.replicate 68 undef,defers:=[] } (Ap v τ 0):=fun τ=>scan_wp (hm.rep.same (v':=Ap v τ 0) rfl) h8
 simp only[Array.replicate_succ,Array.replicate_zero,List.push_toArray,List.append_toArray,List.nil_append,List.cons_append] at hscan
 refine Ba (c:=scan) (z:=z) (wr:=true) (L:=LM) (I:=Ah Ch) hE Gw Az (fun v v' w w' es hi hr ho he=>Bq v v' w w' es hi hr ho he) hvw fineScan rfl (by simp[base]) hn hscan ?_
 rintro a' v1 w1 ⟨⟨lv,⟨u6,u8,u9,u10,u11,u12,u13,u14,u15,u16,u17,u18,u19,u20,u21,u22,u23,u24,u25,u26,u27,u28,u29,u30,u31,rfl⟩,hown⟩,hsz,hbl,hos,hou⟩ hr1 hn1 -
 have hg:Grows v v1:=⟨hsz,hbl,hos,hou⟩
 have he1:=hm.grows hg
 obtain ⟨p,cap,rfl⟩:=E8 hown
 have hc504:c504=.seq c510 (.seq pick15 (.seq last16 (.seq state17 c518))):=rfl
 rw[hc504]
 clear hscan
 rw[h0,hw]
 simp only[List.length_nil]
 refine Ac (Aa _ _) ?_
 have hst:=fun τ=>end_wp (S:=S) (v:=Ap v1 τ 0) p cap u6 u8 u9 u10 u11 u12 u13 u14 u15 u16 u17 u18 u19 u20 u21 u22 u23 u24 u25 u26 u27 u28 u29 u30 u31
 refine G0 (f:=86) (fn:=Tryd.f86) (c:=c510) hE Gw hr1 hn1 Tryd.func86 fine510 rfl hoc (R:=fun x w'=>x=.bool false∧w'.heap=v1.heap∧w'.os=v1.os∧w'.output=v1.output) (fun τ=>wp_mono (hst τ) (fun e a w' hq=>by obtain ⟨h1,x,h2,h3,h4⟩:=hq;subst h4;exact ⟨h1,x,h2,h3,rfl,rfl,rfl⟩)) ?_
 rintro x v2 w2 ⟨rfl,q1,q2,q3⟩ hr2 hn2
 exact hk v2 w2 hr2 hn2 (he1.same q1 q2 q3)
end Go.Proofs.YtbbhahigofeacaaDoor
