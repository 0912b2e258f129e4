/- Of the proof of CounterAlone. Part 7 of 21. (Joined, by program, and written short, of: MainT, Ends, Life, None, Until, Carry, Hire, Hire2.) -/
import Derived.Test.YtfjjoohflcchnaaDoorCounterAlone05
import Derived.Test.YtfjjoohflcchnaaDoorCounterAlone06
import Derived.Conc.SmallLaws
set_option linter.unusedSimpArgs false
set_option linter.unusedVariables false
set_option maxHeartbeats 4000000
set_option maxRecDepth 100000
namespace Go.Proofs.YtfjjoohflcchnaaDoor
open Go Go.Lift Go.Conc Go.RowKit
def mainFs:List FuncId:=[157,155,156]
def LM (f:FuncId):Prop:=f∈mainFs
theorem callM:∀ f∈mainFs,Callable Tryd.prog LM f:=by
 intro f hf
 have hf':=hf
 simp only [mainFs,List.mem_cons,List.not_mem_nil,or_false] at hf
 rcases hf with rfl|rfl|rfl
 ·exact ⟨hf',Tryd.f157,Tryd.func157,by kernel_rfl,by kernel_rfl⟩
 ·exact ⟨hf',Tryd.f155,Tryd.func155,by kernel_rfl,by kernel_rfl⟩
 ·exact ⟨hf',Tryd.f156,Tryd.func156,by kernel_rfl,by kernel_rfl⟩
theorem fineM:∀ f,LM f→fineFn Tryd.prog true LM f:=by
 intro f hf
 simp only [LM,mainFs,List.mem_cons,List.not_mem_nil,or_false] at hf
 rcases hf with rfl|rfl|rfl
 ·exact fineFn_of callM Tryd.func157 (c:=Tryd.f157.body.getD .skip) (by rfl) (by kernel_rfl)
 ·exact fineFn_of callM Tryd.func155 (c:=Tryd.f155.body.getD .skip) (by rfl) (by kernel_rfl)
 ·exact fineFn_of callM Tryd.func156 (c:=Tryd.f156.body.getD .skip) (by rfl) (by kernel_rfl)
theorem fineScan:fineCode Tryd.prog true LM scan:=fineCode_of callM (by kernel_rfl)
theorem thr_ev {z:Nat→Option Nat} {S:TS} {v V:World} (h:Rep z S v) {i:Nat} {t:Thr} (ht:S.thr[i]? = some t) (t':Thr) (htb:t'.tb=t.tb) (hst:∀ b,b≠t.tb→V.heap[b]? = v.heap[b]?) (hrow:V.heap[t.tb]? = some (.cells (trow S.wb i t'.gc t'.st t'.ce t'.op t'.se) 107 (fz z t.tb))) (hsz:V.heap.size=v.heap.size) (hos:V.os=v.os) (hou:V.output=v.output) :
 Ev z S v { S with thr:=S.thr.set i t' } V:=by
 have hi:i<S.thr.length:=(List.getElem?_eq_some_iff.1 ht).1
 have hbt:blk S (i+5)=some t.tb:=by simp [blk,ht]
 have hits:∀ k b,blk S k=some b→k≠i+5→V.heap[b]? = v.heap[b]?:=fun k b hk hne=>hst b (fun e=>hne (h.apart k (i+5) b hk (by rw [hbt,e])))
 have hget:∀ (j:Nat) (u:Thr),(S.thr.set i t')[j]? = some u→(j=i∧u=t')∨(j≠i∧S.thr[j]? = some u):=fun j u hj=>by
  rw [List.getElem?_set] at hj
  by_cases e:i=j
  ·subst e;rw [if_pos rfl,if_pos hi] at hj;exact .inl ⟨rfl,(Option.some.inj hj).symm⟩
  ·rw [if_neg e] at hj;exact .inr ⟨fun e'=>e e'.symm,hj⟩
 have hblk:∀ k,blk { S with thr:=S.thr.set i t' } k=blk S k:=fun k=>by
  match k with
  |0=>rfl
  |1=>rfl
  |2=>rfl
  |3=>rfl
  |4=>rfl
  |k+5 =>
   simp only [blk,List.getElem?_set]
   by_cases e:i=k
   ·subst e
    have:S.thr[i]=t:=by rw [List.getElem?_eq_getElem hi] at ht;exact Option.some.inj ht
    simp [hi,this,htb]
   ·simp [e]
 have hths:(S.thr.set i t').map (fun t=>Pt t.tb 0)=S.thr.map (fun t=>Pt t.tb 0):=by
  apply List.ext_getElem?
  intro k
  have:=hblk (k+5)
  simp only [blk] at this
  rw [List.getElem?_map,List.getElem?_map]
  have e:∀ l:List Thr,(l[k]?).map (fun t=>Pt t.tb 0)=((l[k]?).map (·.tb)).map (fun b=>Pt b 0):=fun l=>by cases l[k]?<;>rfl
  rw [e,e,this]
 refine ⟨⟨?_,fun j u hj=>?_,own_stay (fun b hb=>hits 3 b hb (by omega)) h.own,own_stay (fun b hb=>hits 1 b hb (by omega)) h.chg,?_,own_stay (fun b hb=>hits 4 b hb (by omega)) h.sch,?_,fun j k b hj hk=>?_,fun b n hz=>?_⟩,⟨hos,hou,by omega,fun b hb hs=>hst b (fun e=>hs ⟨i+5,by rw [hbt,e]⟩)⟩,fun b ⟨k,hk⟩=>.inl ⟨k,by rw [←hblk];exact hk⟩⟩
 ·show V.heap[S.wb]? = _
  rw [hits 0 S.wb rfl (by omega)]
  exact h.wor
 ·rcases hget j u hj with ⟨rfl,rfl⟩|⟨hne,hj⟩
  ·rw [htb];exact hrow
  ·rw [hits (j+5) u.tb (by simp [blk,hj]) (by omega)]
   exact h.thr j u hj
 ·have:=own_stay (w':=V) (fun b hb=>hits 2 b hb (by omega)) h.ths
  show V.ownsRow S.base 48 1 S.ths (S.thr.set i t').length ((S.thr.set i t').map fun t=>Pt t.tb 0)
  rw [hths,List.length_set]
  exact this
 ·show S.base≤V.heap.size
  rw [hsz];exact h.bs
 ·exact h.apart j k b (by rw [←hblk];exact hj) (by rw [←hblk];exact hk)
 ·rcases h.kept b n hz with h1|⟨j,u,hj,h2,h3⟩
  ·exact .inl h1
  ·right
   by_cases e:j=i
   ·subst e
    rw [ht] at hj
    cases hj
    exact ⟨j,t',by simp [hi],by rw [h2,htb],h3⟩
   ·exact ⟨j,u,by show (S.thr.set i t')[j]? = some u;rw [List.getElem?_set,if_neg (fun e'=>e e'.symm)];exact hj,h2,h3⟩
def going (S:TS) (i:Nat) (t:Thr):TS:={ (picked S) with la:=i,thr:=(picked S).thr.set i { t with st:=0 } }
noncomputable def pick15:Code:=seq1 (seq2 (seq2 (seq2 (seq2 (seq2 (Tryd.f125.body.getD .skip))))))
noncomputable def last16:Code:=seq1 (seq2 (seq2 (seq2 (seq2 (seq2 (seq2 (Tryd.f125.body.getD .skip)))))))
noncomputable def state17:Code:=seq1 (seq2 (seq2 (seq2 (seq2 (seq2 (seq2 (seq2 (Tryd.f125.body.getD .skip))))))))
theorem fine15M:fineCode Tryd.prog true LM pick15:=fineCode_of callM (by kernel_rfl)
theorem fine16M:fineCode Tryd.prog true LM last16:=fineCode_of callM (by kernel_rfl)
theorem fine17M:fineCode Tryd.prog true LM state17:=fineCode_of callM (by kernel_rfl)
noncomputable def c500:Code:=seq1 (Tryd.f125.body.getD .skip)
noncomputable def c501:Code:=seq1 (seq2 (Tryd.f125.body.getD .skip))
noncomputable def c502:Code:=seq1 (seq2 (seq2 (Tryd.f125.body.getD .skip)))
noncomputable def c504:Code:=seq2 (seq2 (seq2 (seq2 (Tryd.f125.body.getD .skip))))
theorem fine500:fineCode Tryd.prog true LM c500:=fineCode_of callM (by kernel_rfl)
theorem fine501:fineCode Tryd.prog true LM c501:=fineCode_of callM (by kernel_rfl)
theorem fine502:fineCode Tryd.prog true LM c502:=fineCode_of callM (by kernel_rfl)
noncomputable def c510:Code:=seq1 (seq2 (seq2 (seq2 (seq2 (Tryd.f125.body.getD .skip)))))
noncomputable def c518:Code:=seq2 (seq2 (seq2 (seq2 (seq2 (seq2 (seq2 (seq2 (Tryd.f125.body.getD .skip))))))))
theorem fine510:fineCode Tryd.prog true LM c510:=fineCode_of callM (by kernel_rfl)
theorem own_ptrs {w:World} {base:Nat} {v:Value} {l:List Nat} (h:w.ownsRow base 48 1 v l.length (l.map fun b=>Pt b 0)) (h0:0<l.length):PtrRow w v l:=by
 rcases h.2 with ⟨_,h1⟩|⟨g,cap,cur,rfl,hb,hh,hle,_,hsz,htake⟩
 ·omega
 ·refine ⟨g,cap,rfl,fun k b hx=>?_⟩
  have hc:k<l.length:=(List.getElem?_eq_some_iff.1 hx).1
  have e:(l.map fun b=>Pt b 0)[k]? = some (Pt b 0):=by simp [hx]
  rw [←htake,Nat.mul_one,List.getElem?_take_of_lt hc] at e
  simp only [World.cell?,hh,Option.isSome_none,Bool.false_eq_true,if_false]
  simpa using e
noncomputable def ops5019:Array Oper:=opsOf (seq1 (seq2 (seq2 (seq2 (seq2 (seq2 (seq2 (seq2 (seq2 (seq2 (Tryd.f125.body.getD .skip)))))))))))
noncomputable def c5020:Code:=seq2 (seq2 (seq2 (seq2 (seq2 (seq2 (seq2 (seq2 (seq2 (seq2 (Tryd.f125.body.getD .skip))))))))))
theorem back50 (tmps:Array Value) (hs:tmps.size=73) {bc:Frame} {ac:Act} {ops:Array Oper} {i:Nat} {rest:List Nat} {o:Oper} {k:List Item} {cs:List Frame} (ho:ops[i]? = some o) :
 Back Tryd.prog true (G ((base 125).at { tmps:=tmps,defers:=[] } [.inRegion ops5019 [4],.code c5020]) (bc.at ac (.inRegion ops (i :: rest) :: k) :: cs)) (G (bc.at (ac.put o.dst (.bool true)) (.inRegion ops rest :: k)) cs):=by
 intro D Stop x w hD h
 rw [served_fr,Frame.finish_at]
 refine goesI_regionEnd hD ?_
 refine goesI_seq hD ?_
 refine goesI_region hD ?_
 refine goesI_value (v:=fun _=>.bool true) (w':=fun d=>w.at d) rfl rfl (by decide) (fun d=>rfl) (fun d=>by rw [listed_none rfl];exact hD _) (fun d=>?_)
 refine GoesI.at ?_ d
 refine goesI_regionEnd hD ?_
 refine GoesI.ctl rfl (fun _=>stepG_ret') hD ?_
 refine goesI_leave (b:=base 125) (fn:=Tryd.f125) (v:=.bool true) rfl rfl Tryd.func125 (fun w=>?_) (fun w=>by simp [results,go_sem]) ho hD h
 rw [results_tmp (t:=2) rfl]
 show Result.ok (((tmps.setIfInBounds 72 x).setIfInBounds 2 (.bool true)).getD 2 undef) w=_
 simp [hs]
def ScanQ (S:TS) (v:World) (a:Act) (w':World):Prop :=
 (∃ lv,(∃ u6 u8 u9 u10 u11 u12 u13 u14 u15 u16 u17 u18 u19 u20 u21 u22 u23 u24 u25 u26 u27 u28 u29 u30 u31,a={ tmps:=#[Pt S.wb 0,undef,.bool false,lv,.bool (waits2 S S.thr.length),undef,u6,undef,u8,u9,u10,u11,u12,u13,u14,u15,u16,u17,u18,u19,u20,u21,u22,u23,u24,u25,u26,u27,u28,u29,u30,u31]++Array.replicate 41 undef,defers:=[] })∧w'.ownsRow v.heap.size 48 1 lv (rdyIds S S.thr.length).length ((tbs S (rdyIds S S.thr.length)).map fun b=>Pt b 0))∧v.heap.size≤w'.heap.size∧(∀ b,b<v.heap.size→w'.heap[b]? = v.heap[b]?)∧w'.os=v.os∧w'.output=v.output
theorem turn50_goes {z:Nat→Option Nat} {Ch:Nat→Prop} {Stop:Goroutine→World→Prop} {cont:Addr→Value} {S:TS} {K:List (Nat×Int)} {v w:World} {i:Nat} {t:Thr} (cs:List Frame) (Hm:Goroutine→Prop) {bc:Frame} {ac:Act} {ops:Array Oper} {q:Nat} {rest:List Nat} {oc:Oper} {k:List Item} (hoc:ops[q]? = some oc)
 (hH:∀ g,Back Tryd.prog true g (G (bc.at (ac.put oc.dst (.bool true)) (.inRegion ops rest :: k)) cs)→Hm g)
 (hvw:Rel z v w) (hn:NoRow Ch v) (hm:Mem z S K v) (h8:S.thr.length≤8) (hsl:S.sched.length≤4611686018427387904) (hsc:∀ x∈S.sched,-9223372036854775808≤x∧x<9223372036854775808)
 (h0:0<(rdyIds S S.thr.length).length) (hi:(rdyIds S S.thr.length)[pickAt S (rdyIds S S.thr.length)]? = some i) (ht:S.thr[i]? = some t) (hz:z S.wb=some 8) (hcont:cont ⟨S.wb,8,none⟩=.chan (some S.bk))
 (hstop:∀ g w',Lift.AtGive Tryd.prog (KC (ScZ z) cont) (StillC (ScZ z)) 0 t.gc (.agg #[]) (some (Seat.one S.bk (.agg #[]) false Hm)) (Then z Ch S K v (going S i t) K) g w'→Stop g w') (code:Code) (hc:Tryd.f125.body=some code) :
 GoesI Tryd.prog true (DT (ScZ z) Ch) Stop (G ((base 125).at { tmps:=#[Pt S.wb 0]++Array.replicate 72 undef,defers:=[] } [.code code]) (bc.at ac (.inRegion ops (q :: rest) :: k) :: cs)) w:=by
 have hw0:code=.seq c500 (.seq c501 (.seq c502 (.seq scan c504))):=by
  obtain rfl:=Option.some.inj hc;rfl
 subst hw0
 clear hc
 simp only [Array.replicate_succ,Array.replicate_zero,List.push_toArray,List.append_toArray,List.nil_append,List.cons_append]
 refine goesI_seq (dt_idle _ _) ?_
 refine goesI_look hE fineM hvw hn fine500 rfl (by simp [base]) (a':={ tmps:=#[Pt S.wb 0,undef,.bool false]++Array.replicate 70 undef,defers:=[] }) (fun τ=>?_) (fun w hvw=>?_)
 ·show Code.wp Tryd.prog (c500) _ _ _
  unfold c500 Tryd.f125 seq1
  simp only [Option.getD_some,Array.replicate_succ,Array.replicate_zero,List.push_toArray,List.append_toArray,List.nil_append,List.cons_append]
  go_wp2_with fail
  exact ⟨rfl,rfl,rfl⟩
 simp only [Array.replicate_succ,Array.replicate_zero,List.push_toArray,List.append_toArray,List.nil_append,List.cons_append]
 refine goesI_seq (dt_idle _ _) ?_
 refine goesI_look hE fineM hvw hn fine501 rfl (by simp [base]) (a':={ tmps:=#[Pt S.wb 0,undef,.bool false,.slice none 0 0]++Array.replicate 69 undef,defers:=[] }) (fun τ=>?_) (fun w hvw=>?_)
 ·show Code.wp Tryd.prog (c501) _ _ _
  unfold c501 Tryd.f125 seq1 seq2
  simp only [Option.getD_some,Array.replicate_succ,Array.replicate_zero,List.push_toArray,List.append_toArray,List.nil_append,List.cons_append]
  go_wp2_with fail
  exact ⟨rfl,rfl,rfl⟩
 simp only [Array.replicate_succ,Array.replicate_zero,List.push_toArray,List.append_toArray,List.nil_append,List.cons_append]
 refine goesI_seq (dt_idle _ _) ?_
 refine goesI_look hE fineM hvw hn fine502 rfl (by simp [base]) (a':={ tmps:=#[Pt S.wb 0,undef,.bool false,.slice none 0 0,.bool false]++Array.replicate 68 undef,defers:=[] }) (fun τ=>?_) (fun w hvw=>?_)
 ·show Code.wp Tryd.prog (c502) _ _ _
  unfold c502 Tryd.f125 seq1 seq2
  simp only [Option.getD_some,Array.replicate_succ,Array.replicate_zero,List.push_toArray,List.append_toArray,List.nil_append,List.cons_append]
  go_wp2_with fail
  exact ⟨rfl,rfl,rfl⟩
 simp only [Array.replicate_succ,Array.replicate_zero,List.push_toArray,List.append_toArray,List.nil_append,List.cons_append]
 refine goesI_seq (dt_idle _ _) ?_
 have hscan:∀ τ,scan.wp Tryd.prog (fun e a w'=>e=.normal∧ScanQ S v a w') { tmps:=#[Pt S.wb 0,undef,.bool false,.slice none 0 0,.bool false]++Array.replicate 68 undef,defers:=[] } (onTape v τ 0):=fun τ=>scan_wp (hm.rep.same (v':=onTape v τ 0) rfl) h8
 simp only [Array.replicate_succ,Array.replicate_zero,List.push_toArray,List.append_toArray,List.nil_append,List.cons_append] at hscan
 refine goesI_plain (c:=scan) (z:=z) (wr:=true) (L:=LM) (I:=NoRow Ch) hE fineM noRow_keeps (fun v v' w w' es hi hr ho he=>dt_of_z v v' w w' es hi hr ho he) hvw fineScan rfl (by simp [base]) hn hscan ?_
 rintro a' v1 w1 ⟨⟨lv,⟨u6,u8,u9,u10,u11,u12,u13,u14,u15,u16,u17,u18,u19,u20,u21,u22,u23,u24,u25,u26,u27,u28,u29,u30,u31,rfl⟩,hown⟩,hsz,hbl,hos,hou⟩ hr1 hn1 -
 have hg:Grows v v1:=⟨hsz,hbl,hos,hou⟩
 have he1:=hm.grows hg
 have hlv:=own_form hown
 obtain ⟨p,cap,rfl⟩:=hlv
 have hc504:c504=.seq c510 (.seq pick15 (.seq last16 (.seq state17 c518))):=rfl
 rw [hc504]
 clear hscan
 refine goesI_seq (dt_idle _ _) ?_
 refine goesI_look hE fineM hr1 hn1 fine510 rfl (by simp [base]) (a':={ tmps:=#[Pt S.wb 0,undef,.bool false,.slice p (rdyIds S S.thr.length).length cap,.bool (waits2 S S.thr.length),undef,u6,undef,u8,u9,u10,u11,u12,u13,u14,u15,u16,u17,u18,u19,u20,u21,u22,u23,u24,u25,u26,u27,u28,u29,u30,u31,.slice p (rdyIds S S.thr.length).length cap,I (rdyIds S S.thr.length).length,.bool false]++Array.replicate 38 undef,defers:=[] }) (fun τ=>?_) (fun w2 hr2=>?_)
 ·have hn0:¬ (((rdyIds S S.thr.length).length:Int)=0):=by omega
  have hn0':((((rdyIds S S.thr.length).length:Int))==0)=false:=by rw [beq_eq_false_iff_ne];omega
  clear hr1 hn1 he1 hown hbl hm hH hstop hi hsc hsl h8 hos hou hsz hg
  generalize (rdyIds S S.thr.length).length=nn at *
  show Code.wp Tryd.prog c510 _ _ _
  unfold c510 Tryd.f125 seq1 seq2
  simp only [Option.getD_some,Array.replicate_succ,Array.replicate_zero,List.push_toArray,List.append_toArray,List.nil_append,List.cons_append]
  go_wp2_with fail
  exact ⟨rfl,rfl,rfl⟩
 simp only [Array.replicate_succ,Array.replicate_zero,List.push_toArray,List.append_toArray,List.nil_append,List.cons_append]
 have hbs:(tbs S (rdyIds S S.thr.length)).length=(rdyIds S S.thr.length).length:=by simp [tbs]
 have hrw1:Rep z S v1:=he1.mem.rep
 have hgl:∀ g,(Value.slice p (rdyIds S S.thr.length).length cap).ownBlock=some g→¬ Its S g:=fun g hg' ⟨kk,hkk⟩=>by
  have:=(own_lt hown g hg').1
  have:=hm.rep.lt hkk
  omega
 have hrowp:PtrRow v1 (.slice p (rdyIds S S.thr.length).length cap) (tbs S (rdyIds S S.thr.length)):=by
  have h':=hown
  rw [←hbs] at h' ⊢
  exact own_ptrs h' (by omega)
 have hidsp:∀ (kk ii b:Nat),(rdyIds S S.thr.length)[kk]? = some ii→(tbs S (rdyIds S S.thr.length))[kk]? = some b→∃ t,S.thr[ii]? = some t∧t.tb=b:=fun kk ii b h1 h2=>by
  have hmem:ii∈rdyIds S S.thr.length:=List.mem_of_getElem? h1
  simp only [rdyIds,List.mem_filter] at hmem
  cases ht':S.thr[ii]? with
  |none=>rw [ht'] at hmem;simp at hmem
  |some t' =>
   refine ⟨t',rfl,?_⟩
   simp only [tbs,List.getElem?_map,h1,Option.map_some,ht',Option.getD_some,Option.some.injEq] at h2
   exact h2
 have hbi:(tbs S (rdyIds S S.thr.length))[pickAt S (rdyIds S S.thr.length)]? = some t.tb:=by simp [tbs,hi,ht]
 refine goesI_seq (dt_idle _ _) ?_
 refine goesI_plain (c:=pick15) (z:=z) (wr:=true) (L:=LM) (I:=NoRow Ch) hE fineM noRow_keeps (fun v v' w w' es hi hr ho he=>dt_of_z v v' w w' es hi hr ho he) hr2 fine15M rfl (by simp [base]) hn1 (Q:=fun a w'=>a={ tmps:=#[Pt S.wb 0,undef,.bool false,.slice p (rdyIds S S.thr.length).length cap,.bool (waits2 S S.thr.length),undef,u6,Pt t.tb 0,u8,u9,u10,u11,u12,u13,u14,u15,u16,u17,u18,u19,u20,u21,u22,u23,u24,u25,u26,u27,u28,u29,u30,u31,.slice p (rdyIds S S.thr.length).length cap,I (rdyIds S S.thr.length).length,.bool false,undef,undef,undef,undef,undef,undef,undef,undef,undef,undef,undef,undef,undef,undef,undef,Pt S.wb 0,.slice p (rdyIds S S.thr.length).length cap,Pt t.tb 0]++Array.replicate 20 undef,defers:=[] }∧Ev z S v1 (picked S) w') (fun τ=>?_) ?_
 ·have HB:=(body72 (hrw1.same (v':=onTape v1 τ 0) rfl) (.slice p (rdyIds S S.thr.length).length cap) (rdyIds S S.thr.length) (tbs S (rdyIds S S.thr.length)) hrowp hgl hbs hidsp h0 (Nat.le_trans (rdyIds_len S _) h8) hsl hsc).calls Tryd.func156 rfl
  have HBC:Hid (Calls Tryd.prog 156 #[Pt S.wb 0,.slice p (rdyIds S S.thr.length).length cap] (onTape v1 τ 0) (fun e w'=>e=.returned (Pt t.tb 0)∧Ev z S v1 (picked S) w')):=⟨HB.mono fun e w' ⟨r,h1,⟨b,h2,h3⟩,h4⟩=>⟨by rw [hbi] at h2;cases h2;rw [h1,h3],h4.base rfl rfl rfl⟩⟩
  clear HB hr1 hr2 hn1 he1 hown hbl hm hH hstop hi hsc hsl h8 hrw1 hgl hrowp hidsp hbi hbs hos hou hsz hg
  generalize (rdyIds S S.thr.length).length=nn at *
  show Code.wp Tryd.prog pick15 _ _ _
  unfold pick15 Tryd.f125 seq1 seq2
  simp only [Option.getD_some,Array.replicate_succ,Array.replicate_zero,List.push_toArray,List.append_toArray,List.nil_append,List.cons_append]
  go_wp2_with (go_at_call 156;refine HBC.out.mono ?_;rintro e w5 ⟨rfl,hev5⟩)
 rintro a' v2 w3 ⟨rfl,hev2⟩ hr3 hn3 -
 simp only [Array.replicate_succ,Array.replicate_zero,List.push_toArray,List.append_toArray,List.nil_append,List.cons_append]
 have hthr2:(picked S).thr=S.thr:=by unfold picked;split<;>rfl
 have hwb2:(picked S).wb=S.wb:=by unfold picked;split<;>rfl
 have hrep2:Rep z (picked S) v2:=hev2.rep
 have ht2:(picked S).thr[i]? = some t:=by rw [hthr2];exact ht
 have c1:v2.cell? ⟨t.tb,1,none⟩=some (I i):=(hrep2.cell ht2).2.1
 have c2:v2.cell? ⟨S.wb,2,none⟩=some (I (picked S).la):=by rw [←hwb2];exact hrep2.wcell.2.2.1
 have f2:v2.frozen? ⟨S.wb,2,none⟩=false:=by rw [←hwb2];exact fz_off hrep2 2 (by omega)
 have hev3:Ev z (picked S) v2 { (picked S) with la:=i } (v2.setCell ⟨S.wb,2,none⟩ (I i)):=by
  have:=world_set hrep2 (picked S).us i (picked S).stk 2 (I i) (by simp)
  rw [←hwb2]
  exact this
 refine goesI_seq (dt_idle _ _) ?_
 refine goesI_plain (c:=last16) (z:=z) (wr:=true) (L:=LM) (I:=NoRow Ch) hE fineM noRow_keeps (fun v v' w w' es hi hr ho he=>dt_of_z v v' w w' es hi hr ho he) hr3 fine16M rfl (by simp [base]) hn3 (Q:=fun a w'=>a={ tmps:=#[Pt S.wb 0,undef,.bool false,.slice p (rdyIds S S.thr.length).length cap,.bool (waits2 S S.thr.length),undef,u6,Pt t.tb 0,u8,u9,u10,u11,u12,u13,u14,u15,u16,u17,u18,u19,u20,u21,u22,u23,u24,u25,u26,u27,u28,u29,u30,u31,.slice p (rdyIds S S.thr.length).length cap,I (rdyIds S S.thr.length).length,.bool false,undef,undef,undef,undef,undef,undef,undef,undef,undef,undef,undef,undef,undef,undef,undef,Pt S.wb 0,.slice p (rdyIds S S.thr.length).length cap,Pt t.tb 0,Pt S.wb 0,Pt t.tb 0,Pt t.tb 0,Pt t.tb 1,I i,Pt S.wb 0,Pt S.wb 2]++Array.replicate 13 undef,defers:=[] }∧w'.heap=(v2.setCell ⟨S.wb,2,none⟩ (I i)).heap∧w'.os=v2.os∧w'.output=v2.output) (fun τ=>?_) ?_
 ·have c1':(onTape v2 τ 0).cell? ⟨t.tb,1,none⟩=some (I i):=c1
  have c2':(onTape v2 τ 0).cell? ⟨S.wb,2,none⟩=some (I (picked S).la):=c2
  have f2':(onTape v2 τ 0).frozen? ⟨S.wb,2,none⟩=false:=f2
  clear hr1 hr2 hr3 hn1 hn3 he1 hown hbl hm hH hstop hi hsc hsl h8 hrw1 hgl hrowp hidsp hbi hbs hos hou hsz hg hev2 hev3 hrep2 ht2 c1 c2 f2 hthr2 hwb2
  generalize (rdyIds S S.thr.length).length=nn at *
  show Code.wp Tryd.prog last16 _ _ _
  unfold last16 Tryd.f125 seq1 seq2
  simp only [Option.getD_some,Array.replicate_succ,Array.replicate_zero,List.push_toArray,List.append_toArray,List.nil_append,List.cons_append]
  go_wp2_with fail
  exact ⟨rfl,rfl,rfl⟩
 rintro a' v3 w4 ⟨rfl,q1,q2,q3⟩ hr4 hn4 -
 simp only [Array.replicate_succ,Array.replicate_zero,List.push_toArray,List.append_toArray,List.nil_append,List.cons_append]
 have hev3':Ev z (picked S) v2 { (picked S) with la:=i } v3:=hev3.same q1 q2 q3
 have hrep3:=hev3'.rep
 have ht3:({ (picked S) with la:=i }:TS).thr[i]? = some t:=ht2
 have d3:v3.cell? ⟨t.tb,3,none⟩=some (I t.st):=(hrep3.cell ht3).2.2.2.1
 have g3:v3.frozen? ⟨t.tb,3,none⟩=false:=fzT_off hrep3 ht3 3 (by omega)
 have hev4:Ev z { (picked S) with la:=i } v3 (going S i t) (v3.setCell ⟨t.tb,3,none⟩ (I 0)):=by
  refine thr_ev hrep3 ht3 { t with st:=0 } rfl (fun b hb=>Below.heap_setCell _ _ _ _ hb) ?_ (by simp [World.setCell]) rfl rfl
  have:=heap_setCell_same (o:=3) (hrep3.thr i t ht3) (I 0)
  simpa using this
 refine goesI_seq (dt_idle _ _) ?_
 refine goesI_plain (c:=state17) (z:=z) (wr:=true) (L:=LM) (I:=NoRow Ch) hE fineM noRow_keeps (fun v v' w w' es hi hr ho he=>dt_of_z v v' w w' es hi hr ho he) hr4 fine17M rfl (by simp [base]) hn4 (Q:=fun a w'=>a={ tmps:=#[Pt S.wb 0,undef,.bool false,.slice p (rdyIds S S.thr.length).length cap,.bool (waits2 S S.thr.length),undef,u6,Pt t.tb 0,u8,u9,u10,u11,u12,u13,u14,u15,u16,u17,u18,u19,u20,u21,u22,u23,u24,u25,u26,u27,u28,u29,u30,u31,.slice p (rdyIds S S.thr.length).length cap,I (rdyIds S S.thr.length).length,.bool false,undef,undef,undef,undef,undef,undef,undef,undef,undef,undef,undef,undef,undef,undef,undef,Pt S.wb 0,.slice p (rdyIds S S.thr.length).length cap,Pt t.tb 0,Pt S.wb 0,Pt t.tb 0,Pt t.tb 0,Pt t.tb 1,I i,Pt S.wb 0,Pt S.wb 2,Pt t.tb 0,Pt t.tb 0,Pt t.tb 3]++Array.replicate 10 undef,defers:=[] }∧w'.heap=(v3.setCell ⟨t.tb,3,none⟩ (I 0)).heap∧w'.os=v3.os∧w'.output=v3.output) (fun τ=>?_) ?_
 ·have d3':(onTape v3 τ 0).cell? ⟨t.tb,3,none⟩=some (I t.st):=d3
  have g3':(onTape v3 τ 0).frozen? ⟨t.tb,3,none⟩=false:=g3
  clear hr1 hr2 hr3 hr4 hn1 hn3 hn4 he1 hown hbl hm hH hstop hi hsc hsl h8 hrw1 hgl hrowp hidsp hbi hbs hos hou hsz hg hev2 hev3 hev3' hev4 hrep2 hrep3 ht2 ht3 c1 c2 f2 hthr2 hwb2 d3 g3 q1 q2 q3
  generalize (rdyIds S S.thr.length).length=nn at *
  show Code.wp Tryd.prog state17 _ _ _
  unfold state17 Tryd.f125 seq1 seq2
  simp only [Option.getD_some,Array.replicate_succ,Array.replicate_zero,List.push_toArray,List.append_toArray,List.nil_append,List.cons_append]
  go_wp2_with fail
  exact ⟨rfl,rfl,rfl⟩
 rintro a' v4 w5 ⟨rfl,q4,q5,q6⟩ hr5 hn5 -
 simp only [Array.replicate_succ,Array.replicate_zero,List.push_toArray,List.append_toArray,List.nil_append,List.cons_append]
 have hevo:Evo z S K v (going S i t) K v4:=by
  have e4:Ev z S v1 (going S i t) v4:=hev2.trans (hev3'.trans (hev4.same q4 q5 q6))
  refine he1.trans (Evo.of_ev he1.mem e4 ?_)
  unfold going picked
  split<;>rfl
 have c2g:w5.cell? ⟨t.tb,2,none⟩=some (.chan (some t.gc)):=by
  rw [hr5.cell?]
  have hti:(going S i t).thr[i]? = some { t with st:=0 }:=by
   unfold going
   have:i<(picked S).thr.length:=(List.getElem?_eq_some_iff.1 ht2).1
   simp [this]
  exact (hevo.mem.rep.cell hti).2.2.1
 have hwbl:S.wb<w5.heap.size:=by
  rw [hr5.size,←hwb2]
  exact (Array.getElem?_eq_some_iff.1 hevo.mem.rep.wor).1
 have HF:Hid (Then z Ch S K v (going S i t) K w5):=⟨⟨v4,hr5,hn5,hevo⟩⟩
 clear hr1 hr2 hr3 hr4 hr5 hn1 hn3 hn4 hn5 he1 hown hbl hm hi hsc hsl h8 hrw1 hgl hrowp hidsp hbi hbs hos hou hsz hg hev2 hev3 hev3' hev4 hrep2 hrep3 ht2 ht3 c1 c2 f2 hthr2 hwb2 d3 g3 q1 q2 q3 q4 q5 q6 hevo h0
 generalize (rdyIds S S.thr.length).length=nn
 show GoesI Tryd.prog true (DT (ScZ z) Ch) Stop (G ((base 125).at _ [.code (seq2 (seq2 (seq2 (seq2 (seq2 (seq2 (seq2 (seq2 (Tryd.f125.body.getD .skip)))))))))]) _) w5
 unfold Tryd.f125 seq2
 simp only [Option.getD_some]
 refine goesI_seq (dt_idle _ _) ?_
 refine goesI_region (dt_idle _ _) ?_
 simp only [List.size_toArray,List.length_cons,List.length_nil,Nat.reduceAdd,Nat.zero_add,List.range,List.range.loop]
 iterate 5
  (refine goesI_oper rfl rfl (by decide) (fun d K hK=>?_)
   go_simp
   refine hK _ _ ⟨dt_reads (fun e he=>?_),GoesI.at ?_ d⟩
   ·have hm:=mem_listed he
    simp [go_sem, *] at hm
    try exact ⟨_,_,hm⟩
   clear hK K)
 refine GoesI.stop fun d=>hstop _ _ (give_at (h:=0) (z':=.tuple #[]) 8 (S.wb+1) rfl rfl (by decide) (fun w=>by simp [execOp,scase,Act.eval]) (fun w=>by simp [go_sem,execOp,Act.eval]) ?_ (Nat.succ_le_of_lt hwbl) (fun B hB T hT=>?_))
 ·obtain ⟨v',k1,k2⟩:=HF.out
  exact ⟨v',k1.re rfl rfl rfl rfl rfl rfl,k2⟩
 ·clear HF hstop c2g
  refine .inl ⟨7,w5,rfl,?_⟩
  rw [served_fr,Frame.finish_at]
  k_c stepG_region_end
  k_c stepG_seq
  k_reg
  iterate 3
   (k_in
    refine goes_oper_k rfl rfl (by decide) (fun K hK=>?_)
    go_simp
    refine hK _ _ ⟨⟨rfl,fun e he=>by (have hm:=mem_listed he;simp [go_sem, *] at hm)⟩,?_⟩
    clear hK K)
  k_in
  have q2:=h₁ ⟨S.wb,8,none⟩ ⟨rfl,hz⟩
  rw [hcont] at q2
  refine goes_oper_k rfl rfl (by decide) (fun K hK=>?_)
  go_simp
  refine hK _ _ ⟨⟨rfl,fun e he=>by (have hm:=mem_listed he;simp [go_sem, *] at hm;subst hm;exact evC_read _ ⟨_,rfl,rfl,hz⟩ (by simp;omega))⟩,?_⟩
  clear hK K
  refine Goes.stop fun w₂ h₂=>⟨_,atIn_of (s:=Seat.one S.bk (.agg #[]) false Hm) rfl rfl (by decide) (fun w=>?_) (fun w=>?_) (hH _ (back50 _ rfl hoc))⟩
  ·simp [go_sem,execOp,rcase,Act.eval,Seat.one]
  ·simp [go_sem,execOp,Act.eval]
theorem ev_nil (w:World):(binOp .neq 20 .nilIface .nilIface).events Tryd.prog w #[]=#[]:=by
 show Sem.events Tryd.prog (do pure (Value.bool (!(←Op.equalIn (9999+1) 20 .nilIface .nilIface)))) w #[]=#[]
 unfold Op.equalIn
 simp [go_sem]
def ended (S:TS) (i:Nat) (t:Thr):TS:={ S with thr:=S.thr.set i { t with st:=3 } }
theorem end_ev {z:Nat→Option Nat} {S:TS} {v:World} (h:Rep z S v) {i:Nat} {t:Thr} (ht:S.thr[i]? = some t):Ev z S v (ended S i t) (v.setCell ⟨t.tb,3,none⟩ (I 3)):=by
 refine thr_ev h ht { t with st:=3 } rfl (fun b hb=>Below.heap_setCell _ _ _ _ hb) ?_ (by simp [World.setCell]) rfl rfl
 have:=heap_setCell_same (o:=3) (h.thr i t ht) (I 3)
 simpa using this
def GiveE (z:Nat→Option Nat) (cont:Addr→Value) (h bk:Nat) (F:World→Prop):Goroutine→World→Prop:=Lift.AtGive Tryd.prog (KC (ScZ z) cont) (StillC (ScZ z)) h bk (.agg #[]) none F
theorem ends_goes {z:Nat→Option Nat} {Ch:Nat→Prop} {Stop:Goroutine→World→Prop} {h:Nat} {cont:Addr→Value} {S:TS} {K:List (Nat×Int)} {v w:World} {i:Nat} {t:Thr} (bb:Nat) (T:Array Value) (todo:List Item) (hh:0<h)
 (hvw:Rel z v w) (hn:NoRow Ch v) (hm:Mem z S K v) (ht:S.thr[i]? = some t) (hbb:v.cell? ⟨bb,0,none⟩=some (Pt t.tb 0)) (hbo:¬ Own S K bb)
 (hstop:∀ g w',GiveE z cont h S.bk (Then z Ch S K v (ended S i t) K) g w'→Stop g w') :
 GoesI Tryd.prog (h==0) (DT (ScZ z) Ch) Stop (G { (baseD 124).at ⟨T,[dclo 154 #[Pt bb 0]]⟩ todo with mode:=.returning } [botP Tryd.prog]) w:=by
 have hi:i<S.thr.length:=(List.getElem?_eq_some_iff.1 ht).1
 have hne:t.tb≠bb:=fun e=>hbo (.inl ⟨i+5,by simp [blk,ht,e]⟩)
 have e0:w.cell? ⟨bb,0,none⟩=some (Pt t.tb 0):=by rw [hvw.cell?];exact hbb
 have c3:v.cell? ⟨t.tb,3,none⟩=some (I t.st):=(hm.rep.cell ht).2.2.2.1
 have f3:v.frozen? ⟨t.tb,3,none⟩=false:=fzT_off hm.rep ht 3 (by omega)
 have HM:Hid (Mem z S K v):=⟨hm⟩
 have HE:Hid (Evo z S K v (ended S i t) K (v.setCell ⟨t.tb,3,none⟩ (I 3))):=⟨Evo.of_ev hm (end_ev hm.rep ht) rfl⟩
 clear hm
 refine goesI_unwind_clo (dt_idle _ _) rfl Tryd.func154 (by kernel_rfl) rfl ?_
 simp only [Tryd.ntmps154,List.size_toArray,List.length_cons,List.length_nil,Nat.reduceAdd,Nat.reduceSub,Array.replicate_succ,Array.replicate_zero,List.push_toArray,List.append_toArray,List.nil_append,List.cons_append]
 refine goesI_seq (dt_idle _ _) ?_
 refine goesI_seq (dt_idle _ _) ?_
 refine goesI_region (dt_idle _ _) ?_
 simp only [List.size_toArray,List.length_cons,List.length_nil,Nat.reduceAdd,Nat.zero_add,List.range,List.range.loop]
 refine goesI_recover_none (dt_idle _ _) rfl rfl rfl rfl (fun w=>by go_simp) (fun w=>by simp [go_sem,execOp,resolve,invoke,builtin]) ?_
 (refine goesI_oper rfl rfl (by decide) (fun d K hK=>?_)
  go_simp
  refine hK _ _ ⟨dt_reads (fun e he=>?_),GoesI.at ?_ d⟩
  ·have hm:=mem_listed he
   simp [go_sem,ev_nil, *] at hm
  clear hK K)
 refine goesI_regionEnd (dt_idle _ _) ?_
 refine goesI_cond (dt_idle _ _) (t:=false) rfl ?_
 simp only [if_true,if_false,Bool.false_eq_true]
 refine goesI_skip (dt_idle _ _) ?_
 refine goesI_seq (dt_idle _ _) ?_
 refine goesI_region (dt_idle _ _) ?_
 simp only [List.size_toArray,List.length_cons,List.length_nil,Nat.reduceAdd,Nat.zero_add,List.range,List.range.loop]
 iterate 3
  (refine goesI_oper rfl rfl (by decide) (fun d K hK=>?_)
   go_simp
   refine hK _ _ ⟨dt_reads (fun e he=>?_),GoesI.at ?_ d⟩
   ·have hm:=mem_listed he
    simp [go_sem, *] at hm
    try exact ⟨_,_,hm⟩
   clear hK K)
 refine goesI_doZ (L:=LT) rfl rfl (by decide) (fineOp_ask callT extT (by kernel_rfl)) hvw hn (v':=v.setCell ⟨t.tb,3,none⟩ (I 3)) (by go_simp) rfl (fun w2 hr2 hn2=>?_)
 clear e0
 have ht2:(ended S i t).thr[i]? = some { t with st:=3 }:=by simp [ended,hi]
 have e0:w2.cell? ⟨bb,0,none⟩=some (Pt t.tb 0):=by rw [hr2.cell?,World.cell?_setCell_far _ _ _ _ hne];exact hbb
 have e1:w2.cell? ⟨t.tb,0,none⟩=some (Pt S.wb 0):=by rw [hr2.cell?];exact (HE.out.mem.rep.cell ht2).1
 have e8:w2.cell? ⟨S.wb,8,none⟩=some (.chan (some S.bk)):=by rw [hr2.cell?];exact HE.out.mem.rep.wcell.2.2.2.2.2.2.2.2
 clear ht2
 refine goesI_regionEnd (dt_idle _ _) ?_
 refine goesI_region (dt_idle _ _) ?_
 simp only [List.size_toArray,List.length_cons,List.length_nil,Nat.reduceAdd,Nat.zero_add,List.range,List.range.loop]
 iterate 8
  (refine goesI_oper rfl rfl (by decide) (fun d K hK=>?_)
   go_simp
   refine hK _ _ ⟨dt_reads (fun e he=>?_),GoesI.at ?_ d⟩
   ·have hm:=mem_listed he
    simp [go_sem, *] at hm
    try exact ⟨_,_,hm⟩
   clear hK K)
 refine GoesI.stop fun d=>hstop _ _ (give_at (z':=.tuple #[]) 5 0 rfl rfl (by decide) (fun w=>by simp [execOp,scase,Act.eval]) (fun w=>by simp [go_sem,execOp,Act.eval]) ?_ (Nat.zero_le _) (fun B hB T hT=>⟨hh,?_⟩))
 ·exact ⟨_,hr2.re rfl rfl rfl rfl rfl rfl,hn2,HE.out⟩
 ·rw [hT,served_fr,Frame.finish_at]
  refine QuitsD.ctl rfl (fun w=>stepG_region_end) ?_
  refine QuitsD.ctl rfl (fun w=>stepG_end) ?_
  refine QuitsD.leaveD rfl ?_ Tryd.func154 rfl rfl ?_
  ·show (Act.put _ _ _).defers=[]
   unfold Act.put
   split<;>rfl
  ·exact quits_last _ _ Tryd.func124 rfl
noncomputable def run0:Code:=seq1 (Tryd.f124.body.getD .skip)
theorem fineRun0:fineCode Tryd.prog true LT run0:=fineCode_ask callT extT (by kernel_rfl)
noncomputable def ops492:Array Oper:=opsOf (seq2 (seq2 (Tryd.f124.body.getD .skip)))
noncomputable def lifeAct (tb bb:Nat) (F:Value):Act:=⟨#[Pt tb 0,F,Pt bb 0,undef,.func (.func 154) #[] #[Pt bb 0],F,Pt tb 0,undef],[dclo 154 #[Pt bb 0]]⟩
noncomputable def lifeFr (tb bb:Nat) (F:Value):Frame:=(baseD 124).at (lifeAct tb bb F) [.inRegion ops492 [2]]
theorem run_goes {z : Nat → Option Nat} {Ch : Nat → Prop} {Stop : Goroutine → World → Prop} {main : Bool} {v w : World} (tb : Nat) (f : FuncId) (fn : Func) (cap : Array Value) (hf : Tryd.prog.funcs[f]? = some fn) (hname : (fn.name == "runtime.NumGoroutine") = false) (cf : Code) (hcf : fn.body = some cf)
 (hvw:Rel z v w) (hn:NoRow Ch v)
 (hk:∀ v' w',Rel z v' w'→NoRow Ch v'→Grows v v'→v'.heap[v.heap.size]? = some (.cells #[Pt tb 0] 48 (0,0))→v'.heap.size=v.heap.size+1 →
   GoesI Tryd.prog main (DT (ScZ z) Ch) Stop (G ((base f).at { tmps:=(#[Pt tb 0]++cap)++Array.replicate (fn.ntmps - (#[Pt tb 0]++cap).size) undef,defers:=[] } [.code cf]) [lifeFr tb v.heap.size (.func (.func f) #[] cap),botP Tryd.prog]) w')
 (code:Code) (hc:Tryd.f124.body=some code) :
 GoesI Tryd.prog main (DT (ScZ z) Ch) Stop (G ((baseD 124).at { tmps:=#[Pt tb 0,.func (.func f) #[] cap]++Array.replicate 6 undef,defers:=[] } [.code code]) [botP Tryd.prog]) w:=by
 have h1 : ¬ fn.name = "runtime.NumGoroutine" := by simpa using hname
 have hw0:code=.seq run0 (seq2 (Tryd.f124.body.getD .skip)):=by
  rw [hc];obtain rfl:=Option.some.inj hc;rfl
 subst hw0
 clear hc
 refine goesI_seq (dt_idle _ _) ?_
 refine goesI_plain (z:=z) (wr:=true) (L:=LT) (I:=NoRow Ch) hE fineT noRow_keeps (fun v v' w w' es hi hr ho he=>dt_of_z v v' w w' es hi hr ho he) hvw fineRun0 rfl (by simp [baseD]) hn
  (Q:=fun a w'=>a={ tmps:=#[Pt tb 0,.func (.func f) #[] cap,Pt v.heap.size 0]++Array.replicate 5 undef,defers:=[] } ∧
    w'.heap=v.heap.push (.cells #[Pt tb 0] 48)∧w'.os=v.os∧w'.output=v.output) (fun τ=>?_) ?_
 ·show Code.wp Tryd.prog (seq1 (Tryd.f124.body.getD .skip)) _ _ _
  unfold Tryd.f124 seq1
  simp only [Option.getD_some,Array.replicate_succ,Array.replicate_zero,List.push_toArray,List.append_toArray,List.nil_append,List.cons_append]
  go_wp2_with fail
  exact ⟨rfl,rfl,rfl,rfl⟩
 rintro a' v' w' ⟨rfl,hv1,hv2,hv3⟩ hr' hn' -
 have hsz:v'.heap.size=v.heap.size+1:=by rw [hv1];simp
 have hg:Grows v v':=⟨by omega,fun b hb=>by rw [hv1,Array.getElem?_push,if_neg (by omega)],hv2,hv3⟩
 have hbox:v'.heap[v.heap.size]? = some (.cells #[Pt tb 0] 48):=by rw [hv1];exact Array.getElem?_push_size
 have e0:w'.cell? ⟨v.heap.size,0,none⟩=some (Pt tb 0):=by rw [hr'.cell?];simp [World.cell?,hbox]
 have HK:Hid (GoesI Tryd.prog main (DT (ScZ z) Ch) Stop (G ((base f).at { tmps:=(#[Pt tb 0]++cap)++Array.replicate (fn.ntmps - (#[Pt tb 0]++cap).size) undef,defers:=[] } [.code cf]) [lifeFr tb v.heap.size (.func (.func f) #[] cap),botP Tryd.prog]) w'):=⟨hk v' w' hr' hn' hg hbox hsz⟩
 clear hk hv1 hv2 hv3 hsz hg hbox hn' hr' hvw hn
 generalize v.heap.size=N at e0 HK ⊢
 simp only [Array.replicate_succ,Array.replicate_zero,List.push_toArray,List.append_toArray,List.nil_append,List.cons_append]
 show GoesI Tryd.prog main (DT (ScZ z) Ch) Stop (G ((baseD 124).at _ [.code (seq2 (Tryd.f124.body.getD .skip))]) _) w'
 unfold Tryd.f124 seq2
 simp only [Option.getD_some]
 refine goesI_seq (dt_idle _ _) ?_
 refine goesI_region (dt_idle _ _) ?_
 simp only [List.size_toArray,List.length_cons,List.length_nil,Nat.reduceAdd,Nat.zero_add,List.range,List.range.loop]
 (refine goesI_oper rfl rfl (by decide) (fun d K hK=>?_)
  go_simp
  refine hK _ _ ⟨dt_reads (fun e he=>?_),GoesI.at ?_ d⟩
  ·have hm:=mem_listed he
   simp [go_sem, *] at hm
  clear hK K)
 refine goesI_deferV (d:=dclo 154 #[Pt N 0]) (dt_idle _ _) rfl rfl (by decide) (fun w=>by simp [execOp,resolve,Deferred.ofValue,Act.eval,dclo]) (fun w=>by simp [go_sem,execOp,resolve,Deferred.ofValue,Act.eval]) ?_
 refine goesI_regionEnd (dt_idle _ _) ?_
 refine goesI_region (dt_idle _ _) ?_
 simp only [List.size_toArray,List.length_cons,List.length_nil,Nat.reduceAdd,Nat.zero_add,List.range,List.range.loop]
 iterate 2
  (refine goesI_oper rfl rfl (by decide) (fun d K hK=>?_)
   go_simp
   refine hK _ _ ⟨dt_reads (fun e he=>?_),GoesI.at ?_ d⟩
   ·have hm:=mem_listed he
    simp [go_sem, *] at hm
    try exact ⟨_,_,hm⟩
   clear hK K)
 refine goesI_enter (f:=f) (args:=#[Pt tb 0]++cap) rfl rfl (by decide) (fun w=>?_) (fun w=>?_) (dt_idle _ _) hf hcf ?_
 ·simp [execOp,resolve,Deferred.ofValue,Act.eval,invoke,callFunc,hf,h1,hcf]
 ·refine listed_none ?_
  simp [go_sem,execOp,resolve,Deferred.ofValue,Act.eval,invoke,callFunc,hf,h1,hcf]
 exact HK.out
theorem dst492:ops492[2]? = some (ops492.getD 2 default):=by kernel_rfl
theorem life_tail {z:Nat→Option Nat} {Ch:Nat→Prop} {Stop:Goroutine→World→Prop} {h:Nat} {cont:Addr→Value} {S:TS} {K:List (Nat×Int)} {v w:World} {i:Nat} {t:Thr} (bb:Nat) (F:Value) (hh:0<h)
 (hvw:Rel z v w) (hn:NoRow Ch v) (hm:Mem z S K v) (ht:S.thr[i]? = some t) (hbb:v.cell? ⟨bb,0,none⟩=some (Pt t.tb 0)) (hbo:¬ Own S K bb)
 (hstop:∀ g w',GiveE z cont h S.bk (Then z Ch S K v (ended S i t) K) g w'→Stop g w') :
 GoesI Tryd.prog (h==0) (DT (ScZ z) Ch) Stop (G ((baseD 124).at ((lifeAct t.tb bb F).put (ops492.getD 2 default).dst (.tuple #[])) [.inRegion ops492 []]) [botP Tryd.prog]) w:=by
 refine goesI_regionEnd (dt_idle _ _) ?_
 refine goesI_end (dt_idle _ _) ?_
 have e:(ops492.getD 2 default).dst=some 7:=by kernel_rfl
 rw [e]
 exact ends_goes bb _ [] hh hvw hn hm ht hbb hbo hstop
theorem noted_ev {z:Nat→Option Nat} {S:TS} {v v':World} {news:List Value} (h:Rep z S v) (hN:Noted S.wb S.tv S.n S.base S.tr news v v'):∃ tv',Ev z S v { S with tv:=tv',n:=S.n+1,tr:=S.tr++news } v':=by
 obtain ⟨g,cap,hw,hown,hat,hfr⟩:=hN
 have hst:∀ k b,blk S k=some b→k≠0→k≠3→v'.heap[b]? = v.heap[b]?:=fun k b hk h0 h3=>hfr.block b (h.lt hk) (fun hS=>by
  rcases hS with rfl|hS
  ·exact h0 (h.apart k 0 _ hk rfl)
  ·exact h3 (h.apart k 3 b hk hS.symm))
 have hnew:∀ k b,blk { S with tv:=.slice (some ⟨g,0,none⟩) (S.n+1) cap,n:=S.n+1,tr:=S.tr++news } k=some b→(blk S k=some b)∨(k=3∧b=g):=fun k b hk=>by
  match k,hk with
  |0,hk=>exact .inl hk
  |1,hk=>exact .inl hk
  |2,hk=>exact .inl hk
  |3,hk=>cases hk;exact .inr ⟨rfl,rfl⟩
  |4,hk=>exact .inl hk
  |k+5,hk=>exact .inl hk
 refine ⟨.slice (some ⟨g,0,none⟩) (S.n+1) cap,⟨?_,fun j t' ht'=>?_,hown,?_,?_,?_,Nat.le_trans h.bs hfr.size,fun j k b hj hk=>?_,h.kept⟩,hfr.mono (fun x _ hx=>?_),fun b ⟨k,hk⟩=>?_⟩
 ·have:=hw _ _ _ h.wor
  simpa using this
 ·rw [hst (j+5) t'.tb (by simp [blk,ht']) (by omega) (by omega)]
  exact h.thr j t' ht'
 ·exact own_stay (fun b hb=>hst 1 b hb (by omega) (by omega)) h.chg
 ·exact own_stay (fun b hb=>hst 2 b hb (by omega) (by omega)) h.ths
 ·exact own_stay (fun b hb=>hst 4 b hb (by omega) (by omega)) h.sch
 ·rcases hnew j b hj with e1|⟨rfl,rfl⟩<;>rcases hnew k b hk with e2|⟨rfl,e2⟩
  ·exact h.apart j k b e1 e2
  ·subst e2
   rcases hat with ha|ha
   ·exact h.apart j 3 b e1 ha
   ·have:=h.lt e1;omega
  ·rcases hat with ha|ha
   ·exact h.apart 3 k b ha e2
   ·have:=h.lt e2;omega
  ·rfl
 ·rcases hx with rfl|hx
  ·exact ⟨0,rfl⟩
  ·exact ⟨3,hx.symm⟩
 ·rcases hnew k b hk with e1|⟨_,rfl⟩
  ·exact .inl ⟨k,e1⟩
  ·rcases hat with ha|ha
   ·exact .inl ⟨3,ha⟩
   ·exact .inr ha
def stuckS (S:TS) (tv:Value):TS:={ S with stk:=true,tv:=tv,n:=S.n+1,tr:=S.tr++[I (-1),I (-1),I 7,I 0,I 0] }
theorem news5n (w:World) (a b c d e:Int) (t:TypeId) {n:Nat} (hn:n=w.heap.size):∀ j u,[I a,I b,I c,I d,I e][j]? = some u→(w.alloc (.cells #[I a,I b,I c,I d,I e] t)).cell? ((⟨n,0,none⟩:Addr).add j)=some u:=by
 subst hn;exact news5 w a b c d e t
theorem end_wp {S:TS} {v:World} (p:Option Addr) (cap:Nat) (u6 u8 u9 u10 u11 u12 u13 u14 u15 u16 u17 u18 u19 u20 u21 u22 u23 u24 u25 u26 u27 u28 u29 u30 u31:Value) :
 c510.wp Tryd.prog (fun e a w'=>e=.ret∧∃ x,(results Tryd.f125 a.tmps).run Tryd.prog w'=.ok x w'∧(x=.bool false∧w'=v)) { tmps:=#[Pt S.wb 0,undef,.bool false,.slice p 0 cap,.bool false,undef,u6,undef,u8,u9,u10,u11,u12,u13,u14,u15,u16,u17,u18,u19,u20,u21,u22,u23,u24,u25,u26,u27,u28,u29,u30,u31]++Array.replicate 41 undef,defers:=[] } v:=by
 show Code.wp Tryd.prog c510 _ _ _
 unfold c510 Tryd.f125 seq1 seq2
 simp only [Option.getD_some,Array.replicate_succ,Array.replicate_zero,List.push_toArray,List.append_toArray,List.nil_append,List.cons_append]
 go_wp2_with fail
 exact results_tmp (t:=2) rfl _ _ _
theorem stuck_wp {z:Nat→Option Nat} {S:TS} {v:World} (h:Rep z S v) (hn:(S.n+1)*40≤140737488355328) (p:Option Addr) (cap:Nat) (u6 u8 u9 u10 u11 u12 u13 u14 u15 u16 u17 u18 u19 u20 u21 u22 u23 u24 u25 u26 u27 u28 u29 u30 u31:Value) :
 c510.wp Tryd.prog (fun e a w'=>e=.ret∧∃ x,(results Tryd.f125 a.tmps).run Tryd.prog w'=.ok x w'∧(x=.bool true∧∃ tv,Ev z S v (stuckS S tv) w')) { tmps:=#[Pt S.wb 0,undef,.bool false,.slice p 0 cap,.bool true,undef,u6,undef,u8,u9,u10,u11,u12,u13,u14,u15,u16,u17,u18,u19,u20,u21,u22,u23,u24,u25,u26,u27,u28,u29,u30,u31]++Array.replicate 41 undef,defers:=[] } v:=by
 have c5:=h.wcell.2.2.2.2.2.1
 have c6:=h.wcell.2.2.2.2.2.2.1
 have f5:=fz_off h 5 (by omega)
 have f6:=fz_off h 6 (by omega)
 have h1:=world_set h S.us S.la true 6 (.bool true) (by simp)
 have HV:Hid (Ev z S v { S with us:=S.us,la:=S.la,stk:=true } (v.setCell ⟨S.wb,6,none⟩ (.bool true))):=⟨h1⟩
 have K5:Hid ((v.setCell ⟨S.wb,6,none⟩ (.bool true)).cell? ⟨S.wb,5,none⟩=some S.tv∧(v.setCell ⟨S.wb,6,none⟩ (.bool true)).frozen? ⟨S.wb,5,none⟩=false):=⟨⟨h1.rep.wcell.2.2.2.2.2.1,fz_off h1.rep 5 (by omega)⟩⟩
 have n1:S.tv.ownBlock≠some S.wb:=fun e=>by have:=h.apart 3 0 S.wb e rfl;omega
 have q5:S.wb<v.heap.size:=World.block_lt_of_cell? _ _ c5
 have qb:S.base≤v.heap.size:=h.bs
 have HO:Hid ((v.setCell ⟨S.wb,6,none⟩ (.bool true)).ownsRow S.base 60 5 S.tv S.n S.tr):=⟨h1.rep.own⟩
 obtain ⟨tp,tc,htv⟩:=own_form h.own
 rw [htv] at c5
 have HO':Hid ((v.setCell ⟨S.wb,6,none⟩ (.bool true)).ownsRow S.base 60 5 (.slice tp S.n tc) S.n S.tr):=⟨by rw [←htv];exact HO.out⟩
 have n1':(Value.slice tp S.n tc).ownBlock≠some S.wb:=by rw [←htv];exact n1
 have HTV:Hid (S.tv=.slice tp S.n tc):=⟨htv⟩
 clear htv
 obtain ⟨j0,hj,hj0,hj1,hj2⟩:=info_parts info34
 have hne:S.wb≠v.heap.size:=by omega
 have hne':v.heap.size≠S.wb:=by omega
 clear h h1
 show Code.wp Tryd.prog c510 _ _ _
 unfold c510 Tryd.f125 seq1 seq2
 simp only [Option.getD_some,Array.replicate_succ,Array.replicate_zero,List.push_toArray,List.append_toArray,List.nil_append,List.cons_append]
 go_wp2_with (first
  |(refine wpList_append_lies _ rfl (.tmp 43) (.tmp 45) 41 rfl S.base 60 j0 _ 5 40 Tryd.underlying41 hj hj0 hj1 hj2 rfl (by decide) (.slice tp S.n tc) S.n S.tr rfl (own_later (below_alloc (Below.refl _ _) _) HO'.out) ⟨_,0,none⟩ 1 1 [I (-1),I (-1),I 7,I 0,I 0] rfl rfl (news5n _ _ _ _ _ _ _ (by simp [World.setCell])) (one5 _ _ _ _ _) (by decide) (by unfold maxLen;omega) (by omega) (by simp;omega) _ rfl ?_
    intro g cpg w6 hown6 hgrow6 hat6 hlt6
    obtain ⟨_,_,k5,k6⟩:=keep4g (keep4 ⟨K5.out.1,K5.out.1,K5.out.1,K5.out.2⟩ (below_alloc (Below.refl _ _) _)) hgrow6 n1' n1' n1'))
 refine ⟨_,results_tmp (t:=2) rfl _ _ _,rfl,?_⟩
 have hN:Noted S.wb S.tv S.n S.base S.tr [I (-1),I (-1),I 7,I 0,I 0] (v.setCell ⟨S.wb,6,none⟩ (.bool true)) (w6.setCell ⟨S.wb,5,none⟩ (.slice (some ⟨g,0,none⟩) (S.n+1) cpg)):=by
  rw [HTV.out]
  exact noted_of (below_alloc (Below.refl _ _) _) (by simpa [World.setCell] using q5) hgrow6 hown6 hat6 n1'
 obtain ⟨tv,hev⟩:=noted_ev HV.out.rep hN
 exact ⟨tv,HV.out.trans hev⟩
def blockC:Code→Code
 |.block _ c=>c
 |c=>c
def loopC:Code→Code
 |.loop c=>c
 |c=>c
noncomputable def L34:Code:=loopC (blockC (seq2 (seq2 (Tryd.f94.body.getD .skip))))
noncomputable def cFr (tb:Nat) (csl F asl:Value) (n ii:Nat) (sk:Bool) (u:Nat→Value):Frame :=
 (base 94).at ⟨#[Pt tb 0,csl,F,asl,undef,undef,undef,undef,.bool sk,u 9,u 10,csl,I n,I ii,u 14,u 15,u 16,u 17,u 18,u 19,u 20,u 21,u 22,u 23]++#[u 24,u 25,u 26,u 27,u 28,u 29,u 30,u 31,u 32,u 33,u 34,u 35,u 36,u 37,u 38,u 39,u 40,u 41,u 42,u 43,u 44,u 45,u 46,u 47],[]⟩ [.code L34,.inLoop L34,.inBlock 0]
theorem carry_in {z:Nat→Option Nat} {Ch:Nat→Prop} {Stop:Goroutine→World→Prop} {main:Bool} {w:World} {tb:Nat} (F asl:Value) (p:Option Addr) (n cap:Nat) (cs:List Frame)
 (hk:∀ u,GoesI Tryd.prog main (DT (ScZ z) Ch) Stop (G (cFr tb (.slice p n cap) F asl n 0 false u) cs) w) (code:Code) (hc:Tryd.f94.body=some code) :
 GoesI Tryd.prog main (DT (ScZ z) Ch) Stop (G ((base 94).at { tmps:=#[Pt tb 0,.slice p n cap,F,asl]++Array.replicate 44 undef,defers:=[] } [.code code]) cs) w:=by
 obtain rfl:=Option.some.inj hc
 clear hc
 simp only [Array.replicate_succ,Array.replicate_zero,List.push_toArray,List.append_toArray,List.nil_append,List.cons_append]
 refine goesI_seq (dt_idle _ _) ?_
 refine goesI_region (dt_idle _ _) ?_
 simp only [List.size_toArray,List.length_cons,List.length_nil,Nat.reduceAdd,Nat.zero_add,List.range,List.range.loop]
 (refine goesI_oper rfl rfl (by decide) (fun d K hK=>?_)
  go_simp
  refine hK _ _ ⟨dt_reads (fun e he=>?_),GoesI.at ?_ d⟩
  ·have hm:=mem_listed he
   simp [go_sem, *] at hm
  clear hK K)
 refine goesI_regionEnd (dt_idle _ _) ?_
 refine goesI_seq (dt_idle _ _) ?_
 refine goesI_region (dt_idle _ _) ?_
 simp only [List.size_toArray,List.length_cons,List.length_nil,Nat.reduceAdd,Nat.zero_add,List.range,List.range.loop]
 iterate 3
  (refine goesI_oper rfl rfl (by decide) (fun d K hK=>?_)
   go_simp
   refine hK _ _ ⟨dt_reads (fun e he=>?_),GoesI.at ?_ d⟩
   ·have hm:=mem_listed he
    simp [go_sem, *] at hm
   clear hK K)
 refine goesI_regionEnd (dt_idle _ _) ?_
 refine goesI_block (dt_idle _ _) ?_
 refine goesI_loop (dt_idle _ _) ?_
 have hk:=hk (fun _=>undef)
 unfold cFr L34 Tryd.f94 seq2 blockC loopC at hk
 simp only [Option.getD_some,List.append_toArray,List.cons_append,List.nil_append] at hk
 exact hk
theorem carry_end {z:Nat→Option Nat} {Ch:Nat→Prop} {Stop:Goroutine→World→Prop} {main:Bool} {w:World} {tb:Nat} (csl F asl:Value) (n:Nat) (sk:Bool) (u:Nat→Value) (cs:List Frame) {bc:Frame} {ac:Act} {ops:Array Oper} {q:Nat} {rest:List Nat} {oc:Oper} {k:List Item} (hoc:ops[q]? = some oc)
 (hk:GoesI Tryd.prog main (DT (ScZ z) Ch) Stop (G (bc.at (ac.put oc.dst (.tuple #[])) (.inRegion ops rest :: k)) cs) w) :
 GoesI Tryd.prog main (DT (ScZ z) Ch) Stop (G (cFr tb csl F asl n n sk u) (bc.at ac (.inRegion ops (q :: rest) :: k) :: cs)) w:=by
 unfold cFr L34 Tryd.f94 seq2 blockC loopC
 simp only [Option.getD_some,List.append_toArray,List.cons_append,List.nil_append]
 refine goesI_seq (dt_idle _ _) ?_
 refine goesI_region (dt_idle _ _) ?_
 simp only [List.size_toArray,List.length_cons,List.length_nil,Nat.reduceAdd,Nat.zero_add,List.range,List.range.loop]
 (refine goesI_oper rfl rfl (by decide) (fun d K hK=>?_)
  go_simp
  refine hK _ _ ⟨dt_reads (fun e he=>?_),GoesI.at ?_ d⟩
  ·have hm:=mem_listed he
   simp [go_sem, *] at hm
  clear hK K)
 refine goesI_regionEnd (dt_idle _ _) ?_
 refine goesI_seq (dt_idle _ _) ?_
 refine goesI_cond (dt_idle _ _) (t:=false) (by simp [Act.eval]) ?_
 simp only [if_true,if_false,Bool.false_eq_true]
 refine goesI_exit (dt_idle _ _) rfl ?_
 refine goesI_end (dt_idle _ _) ?_
 exact goesI_leave (b:=base 94) (fn:=Tryd.f94) rfl rfl Tryd.func94 (fun w=>results_none rfl _ _ _) (fun w=>by simp [results,go_sem]) hoc (dt_idle _ _) hk
theorem und55:∃ dir e i,Tryd.prog.underlying 94=some (.chan dir e)∧Tryd.prog.info? e=some i∧i.bytes=0:=by
 have h:((Tryd.prog.underlying 94).map fun t=>match t with|.chan d e=>((Tryd.prog.info? e).map fun i=>i.bytes)==some 0|_=>false)=some true:=by kernel_rfl
 cases hu:Tryd.prog.underlying 94 with
 |none=>rw [hu] at h;cases h
 |some t =>
  rw [hu] at h
  cases t with
  |chan d e =>
   simp only [Option.map_some,Option.some.injEq,beq_iff_eq] at h
   obtain ⟨i,hi,hb⟩:=Option.map_eq_some_iff.1 h
   exact ⟨d,e,i,rfl,hi,hb⟩
  |_=>cases h
theorem run_mk (v:World):(Instr.makeChan 94 (.int .i64 0)).run Tryd.prog v=.ok (.chan (some v.heap.size)) (v.alloc (.chan 0 #[] false 0 0 false)):=by
 obtain ⟨d,e,i,h1,h2,h3⟩:=und55
 exact run_makeChan h1 h2 .i64 0 (by decide) (by rw [h3];decide)
noncomputable def B35:Code:=Tryd.f95.body.getD .skip
noncomputable def HL:Code:=loopC (blockC (seq2 (seq1 (seq2 (seq2 (seq2 B35))))))
noncomputable def D35:Code:=seq2 (seq2 (seq2 (seq2 B35)))
noncomputable def TL:Code:=loopC (blockC D35)
noncomputable def HB:Code:=blockC (seq1 (seq2 (seq2 HL)))
noncomputable def R18:Code:=seq2 (seq2 (seq2 HL))
noncomputable def hFr (wb:Nat) (bsl:Value) (n ii:Nat) (u:Nat→Value):Frame :=
 (base 95).at ⟨#[Pt wb 0,bsl,undef,undef,u 4,u 5,u 6,u 7,u 8,u 9,u 10,u 11,u 12,u 13,u 14,u 15,u 16,u 17,u 18,u 19,u 20,u 21,u 22,u 23,u 24,u 25,u 26,u 27,u 28,u 29,bsl]++#[I n,I ii,u 33,u 34,u 35,u 36,u 37,u 38,u 39,u 40,u 41,u 42,u 43,u 44,u 45,u 46,u 47,u 48,u 49,u 50,u 51,u 52,u 53,u 54,u 55,u 56,u 57,u 58,u 59,u 60,u 61],[]⟩ [.code HL,.inLoop HL,.inBlock 2,.code D35]
noncomputable def ops3514:Array Oper:=opsOf (seq1 (seq2 HB))
noncomputable def R15:Code:=seq2 (seq2 HB)
noncomputable def bFr1 (wb:Nat) (bsl F:Value) (n ii bb gc:Nat) (u:Nat→Value):Frame :=
 (base 95).at ⟨#[Pt wb 0,bsl,undef,undef,u 4,u 5,u 6,I ii,F,u 9,u 10,u 11,u 12,u 13,u 14,u 15,u 16,u 17,u 18,u 19,u 20,u 21,u 22,u 23,u 24,u 25,u 26,u 27,u 28,u 29,bsl]++#[I n,I ii,.bool true,I ii,Pt bb ii,F,Pt wb 0,I ii,.chan (some gc),.agg (trow wb ii gc 0 0 0 0),u 41,u 42,u 43,u 44,u 45,u 46,u 47,u 48,u 49,u 50,u 51,u 52,u 53,u 54,u 55,u 56,u 57,u 58,u 59,u 60,u 61],[]⟩ [.inRegion ops3514 [4,5],.code R15,.inBlock 3,.code R18,.inLoop HL,.inBlock 2,.code D35]
noncomputable def bFr2 (wb:Nat) (bsl F:Value) (n ii bb gc tb:Nat) (u:Nat→Value):Frame :=
 (base 95).at ⟨#[Pt wb 0,bsl,undef,undef,u 4,u 5,u 6,I ii,F,u 9,u 10,u 11,u 12,u 13,u 14,u 15,u 16,u 17,u 18,u 19,u 20,u 21,u 22,u 23,u 24,u 25,u 26,u 27,u 28,u 29,bsl]++#[I n,I ii,.bool true,I ii,Pt bb ii,F,Pt wb 0,I ii,.chan (some gc),.agg (trow wb ii gc 0 0 0 0),Pt tb 0,u 42,u 43,u 44,u 45,u 46,u 47,u 48,u 49,u 50,u 51,u 52,u 53,u 54,u 55,u 56,u 57,u 58,u 59,u 60,u 61],[]⟩ [.inRegion ops3514 [5],.code R15,.inBlock 3,.code R18,.inLoop HL,.inBlock 2,.code D35]
theorem hire_a {z:Nat→Option Nat} {Ch:Nat→Prop} {Stop:Goroutine→World→Prop} {main:Bool} {v w:World} {wb:Nat} (F:Value) (bb n cap ii:Nat) (u:Nat→Value) (cs:List Frame) (hi:ii<n)
 (h1:v.cell? ⟨bb,ii,none⟩=some F) (hvw:Rel z v w) (hn:NoRow Ch v)
 (hk:∀ v' w' u',Rel z v' w'→NoRow Ch v'→v'={ v with heap:=v.heap.push (.chan 0 #[] false 0 0 false) }→GoesI Tryd.prog main (DT (ScZ z) Ch) Stop (G (bFr1 wb (.slice (some ⟨bb,0,none⟩) n cap) F n ii bb v.heap.size u') cs) w') :
 GoesI Tryd.prog main (DT (ScZ z) Ch) Stop (G (hFr wb (.slice (some ⟨bb,0,none⟩) n cap) n ii u) cs) w:=by
 have hi':(ii:Int)<(n:Int):=by omega
 have e0:w.cell? ⟨bb,ii,none⟩=some F:=by rw [hvw.cell?];exact h1
 have hk:=hk { v with heap:=v.heap.push (.chan 0 #[] false 0 0 false) }
 unfold hFr HL B35 Tryd.f95 seq2 seq1 blockC loopC
 simp only [Option.getD_some,List.append_toArray,List.cons_append,List.nil_append]
 refine goesI_seq (dt_idle _ _) ?_
 refine goesI_region (dt_idle _ _) ?_
 simp only [List.size_toArray,List.length_cons,List.length_nil,Nat.reduceAdd,Nat.zero_add,List.range,List.range.loop]
 iterate 1
  (refine goesI_oper rfl rfl (by decide) (fun d K hK=>?_)
   go_simp
   refine hK _ _ ⟨dt_reads (fun e he=>?_),GoesI.at ?_ d⟩
   ·have hm:=mem_listed he
    simp [go_sem, *] at hm
    try exact ⟨_,_,hm⟩
   clear hK K)
 refine goesI_regionEnd (dt_idle _ _) ?_
 refine goesI_seq (dt_idle _ _) ?_
 refine goesI_cond (dt_idle _ _) (t:=true) rfl ?_
 simp only [if_true,if_false,Bool.false_eq_true]
 refine goesI_skip (dt_idle _ _) ?_
 refine goesI_seq (dt_idle _ _) ?_
 refine goesI_block (dt_idle _ _) ?_
 refine goesI_seq (dt_idle _ _) ?_
 refine goesI_region (dt_idle _ _) ?_
 simp only [List.size_toArray,List.length_cons,List.length_nil,Nat.reduceAdd,Nat.zero_add,List.range,List.range.loop]
 iterate 5
  (refine goesI_oper rfl rfl (by decide) (fun d K hK=>?_)
   go_simp
   refine hK _ _ ⟨dt_reads (fun e he=>?_),GoesI.at ?_ d⟩
   ·have hm:=mem_listed he
    simp [go_sem, *] at hm
    try exact ⟨_,_,hm⟩
   clear hK K)
 refine goesI_regionEnd (dt_idle _ _) ?_
 refine goesI_seq (dt_idle _ _) ?_
 refine goesI_region (dt_idle _ _) ?_
 simp only [List.size_toArray,List.length_cons,List.length_nil,Nat.reduceAdd,Nat.zero_add,List.range,List.range.loop]
 iterate 2
  (refine goesI_oper rfl rfl (by decide) (fun d K hK=>?_)
   go_simp
   refine hK _ _ ⟨dt_reads (fun e he=>?_),GoesI.at ?_ d⟩
   ·have hm:=mem_listed he
    simp [go_sem, *] at hm
    try exact ⟨_,_,hm⟩
   clear hK K)
 clear e0 hi'
 refine goesI_opZ (L:=LT) rfl rfl (by decide) (fineOp_ask callT extT (by kernel_rfl)) hvw hn (v':={ v with heap:=v.heap.push (.chan 0 #[] false 0 0 false) }) (x:=.chan (some v.heap.size)) (by go_simp;rw [run_mk];rfl) rfl (fun w2 hr2 hn2=>?_)
 iterate 1
  (refine goesI_oper rfl rfl (by decide) (fun d K hK=>?_)
   go_simp
   refine hK _ _ ⟨dt_reads (fun e he=>?_),GoesI.at ?_ d⟩
   ·have hm:=mem_listed he
    simp [go_sem, *] at hm
    try exact ⟨_,_,hm⟩
   clear hK K)
 have hk:=hk w2 (fun m=>match m with|7=>I ii|8=>F|m=>u m) hr2 hn2 rfl
 unfold bFr1 R15 R18 HB ops3514 D35 HL B35 Tryd.f95 seq2 seq1 blockC loopC opsOf at hk
 simp only [Option.getD_some,List.append_toArray,List.cons_append,List.nil_append] at hk
 exact hk
noncomputable def r15:Code:=seq1 R15
noncomputable def R1617:Code:=seq2 R15
theorem fineR15:fineCode Tryd.prog true LT r15:=fineCode_ask callT extT (by kernel_rfl)
def Threaded (wb:Nat) (tv:Value) (n base:Nat) (xs:List Value) (x:Value) (w w':World):Prop :=
 ∃ g cap,(∀ c t f,w.heap[wb]? = some (.cells c t f)→w'.heap[wb]? = some (.cells (c.setIfInBounds 4 (.slice (some ⟨g,0,none⟩) (n+1) cap)) t f)) ∧
   w'.ownsRow base 48 1 (.slice (some ⟨g,0,none⟩) (n+1) cap) (n+1) (xs++[x])∧(tv.ownBlock=some g∨w.heap.size≤g)∧Fr (fun b=>b=wb∨some b=tv.ownBlock) w w'
theorem threaded_of {wb:Nat} {tv x:Value} {n base:Nat} {xs:List Value} {w u w6:World} {g cap:Nat} (hb:Below w.heap.size w u) (hw:wb<w.heap.size) (hg:u.grownBy w6 tv.ownBlock) (hown:w6.ownsRow base 48 1 (.slice (some ⟨g,0,none⟩) (n+1) cap) (n+1) (xs++[x]))
 (hat:tv.ownBlock=some g∨g=u.heap.size) (hne:tv.ownBlock≠some wb):Threaded wb tv n base xs x w (w6.setCell ⟨wb,4,none⟩ (.slice (some ⟨g,0,none⟩) (n+1) cap)):=by
 have hgw:g≠wb:=by
  rcases hat with h|h
  ·exact fun e=>hne (by rw [h,e])
  ·have:=hb.size;omega
 have e6:w6.heap[wb]? = w.heap[wb]?:=(hg.block wb (Nat.lt_of_lt_of_le hw hb.size) (Ne.symm hne)).trans (hb.block wb hw)
 refine ⟨g,cap,fun c t f h=>heap_setCell_same (by rw [e6];exact h) _,own_set hown _ _ (fun e=>hgw (Option.some.inj e)),?_,?_⟩
 ·rcases hat with h|h
  ·exact .inl h
  ·exact .inr (by have:=hb.size;omega)
 ·refine ⟨by show w6.os=_;rw [hg.os,hb.os],by show w6.output=_;rw [hg.output,hb.output],?_,fun b hlt hs=>?_⟩
  ·have:=hb.size
   have:=hg.size
   simp only [World.setCell,Array.size_modify]
   omega
  ·rw [Below.heap_setCell _ _ _ _ (fun e=>hs (.inl e)),hg.block b (Nat.lt_of_lt_of_le hlt hb.size) (fun e=>hs (.inr e)),hb.block b hlt]
theorem keep2g {u u':World} {row:Option Nat} {a:Addr} {x:Value} (h:u.cell? a=some x∧u.frozen? a=false) (hg:u.grownBy u' row) (hr:row≠some a.block):u'.cell? a=some x∧u'.frozen? a=false:=by
 obtain ⟨_,_,h3,h4⟩:=keep4g (a1:=a) (a2:=a) ⟨h.1,h.1,h.1,h.2⟩ hg hr hr hr
 exact ⟨h3,h4⟩
theorem r15_wp {v:World} (wb n ii bb gc tb:Nat) (bsl F tv:Value) (k base:Nat) (xs:List Value) (u:Nat→Value) (h4:v.cell? ⟨wb,4,none⟩=some tv) (hf:v.frozen? ⟨wb,4,none⟩=false) (hown:v.ownsRow base 48 1 tv k xs) (hne:tv.ownBlock≠some wb) (hk:(k+1)*8≤140737488355328) (hbase:base≤v.heap.size) :
 r15.wp Tryd.prog (fun e a w'=>e=.normal∧(∃ u:Nat→Value,a={ tmps:=#[Pt wb 0,bsl,undef,undef,u 4,u 5,u 6,I ii,F,Pt tb 0,u 10,u 11,u 12,u 13,u 14,u 15,u 16,u 17,u 18,u 19,u 20,u 21,u 22,u 23,u 24,u 25,u 26,u 27,u 28,u 29,bsl]++#[I n,I ii,.bool true,I ii,Pt bb ii,F,Pt wb 0,I ii,.chan (some gc),.agg (trow wb ii gc 0 0 0 0),Pt tb 0,u 42,u 43,u 44,u 45,u 46,u 47,u 48,u 49,u 50,u 51,u 52,u 53,u 54,u 55,u 56,u 57,u 58,u 59,u 60,u 61],defers:=[] })∧Threaded wb tv k base xs (Pt tb 0) v w') { tmps:=#[Pt wb 0,bsl,undef,undef,u 4,u 5,u 6,I ii,F,Pt tb 0,u 10,u 11,u 12,u 13,u 14,u 15,u 16,u 17,u 18,u 19,u 20,u 21,u 22,u 23,u 24,u 25,u 26,u 27,u 28,u 29,bsl]++#[I n,I ii,.bool true,I ii,Pt bb ii,F,Pt wb 0,I ii,.chan (some gc),.agg (trow wb ii gc 0 0 0 0),Pt tb 0,u 42,u 43,u 44,u 45,u 46,u 47,u 48,u 49,u 50,u 51,u 52,u 53,u 54,u 55,u 56,u 57,u 58,u 59,u 60,u 61],defers:=[] } v:=by
 have q4:wb<v.heap.size:=World.block_lt_of_cell? _ _ h4
 obtain ⟨tp,tc,htv⟩:=own_form hown
 have HO:Hid (v.ownsRow base 48 1 (.slice tp k tc) k xs):=⟨by rw [←htv];exact hown⟩
 have n1:(Value.slice tp k tc).ownBlock≠some wb:=by rw [←htv];exact hne
 have HT:Hid (tv=.slice tp k tc):=⟨htv⟩
 rw [htv] at h4
 clear hown htv hne
 obtain ⟨j0,hj,hj0,hj1,hj2⟩:=info_parts info46
 have hne:wb≠v.heap.size:=by omega
 have hne':v.heap.size≠wb:=by omega
 have K4:Hid (v.cell? ⟨wb,4,none⟩=some (.slice tp k tc)∧v.frozen? ⟨wb,4,none⟩=false):=⟨⟨h4,hf⟩⟩
 show Code.wp Tryd.prog r15 _ _ _
 unfold r15 R15 HB HL B35 Tryd.f95 seq1 seq2 blockC loopC
 simp only [Option.getD_some,List.append_toArray,List.cons_append,List.nil_append]
 go_wp2_with (first
  |(refine wpList_append_lies _ rfl (.tmp 46) (.tmp 48) 95 rfl base 48 j0 _ 1 8 Tryd.underlying95 hj hj0 hj1 hj2 rfl (by decide) (.slice tp k tc) k xs rfl (own_later (below_alloc (Below.refl _ _) _) HO.out) ⟨_,0,none⟩ 1 1 [Pt tb 0] rfl rfl (news1 _ _ _) (one1 _) (by decide) (by unfold maxLen;omega) (by omega) (by simp;omega) _ rfl ?_
    intro g cpg w6 hown6 hgrow6 hat6 hlt6
    obtain ⟨k5,k6⟩:=keep2g ⟨kcell (below_alloc (Below.refl _ _) _) K4.out.1,by rw [(below_alloc (Below.refl _ _) _).frozen q4];exact K4.out.2⟩ hgrow6 n1))
 refine ⟨⟨fun m=>match m with|42=>Pt wb 0|43=>Pt wb 0|44=>Pt wb 0|45=>Pt wb 4|46=>.slice tp k tc|47=>Pt tb 0|48=>.slice (some ⟨v.heap.size,0,none⟩) 1 1|49=>.slice (some ⟨g,0,none⟩) (k+1) cpg|50=>Pt wb 0|51=>Pt wb 4|m=>u m,by simp⟩,?_⟩
 ·rw [HT.out]
  exact threaded_of (below_alloc (Below.refl _ _) _) q4 hgrow6 hown6 hat6 n1
end Go.Proofs.YtfjjoohflcchnaaDoor
