/- Of the proof of CounterTimes. Part 8 of 31. (Joined, by program, and written short, of: None, MainN, GPure, GHome, Hire, Hire2.) -/
import Derived.Test.YtfjjoohflcchnaaDoorCounterTimes06
import Derived.Test.YtfjjoohflcchnaaDoorCounterTimes07
import Derived.Conc.SmallLaws
set_option linter.unusedSimpArgs false
set_option linter.unusedVariables false
set_option maxHeartbeats 4000000
set_option maxRecDepth 100000
namespace Go.Proofs.YtfjjoohflcchnaaDoor
open Go Go.Lift Go.Conc Go.RowKit
theorem noted_ev {z:Nat→Option Nat} {S:TS} {v v':World} {news:List Value} (h:Rep z S v) (hN:Noted S.wb S.tv S.n S.base S.tr news v v'):∃ tv',Ev z S v { S with tv:=tv',n:=S.n+1,tr:=S.tr++news } v':=by
 obtain ⟨g,cap,hw,hown,hat,hfr⟩:=hN
 have hst:∀ k b,blk S k=some b→k≠0→k≠3→v'.heap[b]? = v.heap[b]?:=fun k b hk h0 h3=>hfr.block b (h.lt hk) (fun hS=>by
  rcases hS with rfl|hS
  ·exact h0 (h.apart k 0 _ hk rfl)
  ·exact h3 (h.apart k 3 b hk hS.symm))
 have hnew:∀ k b,blk { S with tv:=.slice (some ⟨g,0,none⟩) (S.n+1) cap,n:=S.n+1,tr:=S.tr++news } k=some b→(blk S k=some b)∨(k=3∧b=g):=fun k b hk=>by
  match k,hk with
  |0,hk=>exact .inl hk
  |1,hk=>exact .inl hk
  |2,hk=>exact .inl hk
  |3,hk=>cases hk;exact .inr ⟨rfl,rfl⟩
  |4,hk=>exact .inl hk
  |k+5,hk=>exact .inl hk
 refine ⟨.slice (some ⟨g,0,none⟩) (S.n+1) cap,⟨?_,fun j t' ht'=>?_,hown,?_,?_,?_,Nat.le_trans h.bs hfr.size,fun j k b hj hk=>?_,h.kept⟩,hfr.mono (fun x _ hx=>?_),fun b ⟨k,hk⟩=>?_⟩
 ·have:=hw _ _ _ h.wor
  simpa using this
 ·rw [hst (j+5) t'.tb (by simp [blk,ht']) (by omega) (by omega)]
  exact h.thr j t' ht'
 ·exact own_stay (fun b hb=>hst 1 b hb (by omega) (by omega)) h.chg
 ·exact own_stay (fun b hb=>hst 2 b hb (by omega) (by omega)) h.ths
 ·exact own_stay (fun b hb=>hst 4 b hb (by omega) (by omega)) h.sch
 ·rcases hnew j b hj with e1|⟨rfl,rfl⟩<;>rcases hnew k b hk with e2|⟨rfl,e2⟩
  ·exact h.apart j k b e1 e2
  ·subst e2
   rcases hat with ha|ha
   ·exact h.apart j 3 b e1 ha
   ·have:=h.lt e1;omega
  ·rcases hat with ha|ha
   ·exact h.apart 3 k b ha e2
   ·have:=h.lt e2;omega
  ·rfl
 ·rcases hx with rfl|hx
  ·exact ⟨0,rfl⟩
  ·exact ⟨3,hx.symm⟩
 ·rcases hnew k b hk with e1|⟨_,rfl⟩
  ·exact .inl ⟨k,e1⟩
  ·rcases hat with ha|ha
   ·exact .inl ⟨3,ha⟩
   ·exact .inr ha
def stuckS (S:TS) (tv:Value):TS:={ S with stk:=true,tv:=tv,n:=S.n+1,tr:=S.tr++[I (-1),I (-1),I 7,I 0,I 0] }
theorem news5n (w:World) (a b c d e:Int) (t:TypeId) {n:Nat} (hn:n=w.heap.size):∀ j u,[I a,I b,I c,I d,I e][j]? = some u→(w.alloc (.cells #[I a,I b,I c,I d,I e] t)).cell? ((⟨n,0,none⟩:Addr).add j)=some u:=by
 subst hn;exact news5 w a b c d e t
theorem end_wp {S:TS} {v:World} (p:Option Addr) (cap:Nat) (u6 u8 u9 u10 u11 u12 u13 u14 u15 u16 u17 u18 u19 u20 u21 u22 u23 u24 u25 u26 u27 u28 u29 u30 u31:Value) :
 c510.wp Tryd.prog (fun e a w'=>e=.ret∧∃ x,(results Tryd.f125 a.tmps).run Tryd.prog w'=.ok x w'∧(x=.bool false∧w'=v)) { tmps:=#[Pt S.wb 0,undef,.bool false,.slice p 0 cap,.bool false,undef,u6,undef,u8,u9,u10,u11,u12,u13,u14,u15,u16,u17,u18,u19,u20,u21,u22,u23,u24,u25,u26,u27,u28,u29,u30,u31]++Array.replicate 41 undef,defers:=[] } v:=by
 show Code.wp Tryd.prog c510 _ _ _
 unfold c510 Tryd.f125 seq1 seq2
 simp only [Option.getD_some,Array.replicate_succ,Array.replicate_zero,List.push_toArray,List.append_toArray,List.nil_append,List.cons_append]
 go_wp2_with fail
 exact results_tmp (t:=2) rfl _ _ _
theorem stuck_wp {z:Nat→Option Nat} {S:TS} {v:World} (h:Rep z S v) (hn:(S.n+1)*40≤140737488355328) (p:Option Addr) (cap:Nat) (u6 u8 u9 u10 u11 u12 u13 u14 u15 u16 u17 u18 u19 u20 u21 u22 u23 u24 u25 u26 u27 u28 u29 u30 u31:Value) :
 c510.wp Tryd.prog (fun e a w'=>e=.ret∧∃ x,(results Tryd.f125 a.tmps).run Tryd.prog w'=.ok x w'∧(x=.bool true∧∃ tv,Ev z S v (stuckS S tv) w')) { tmps:=#[Pt S.wb 0,undef,.bool false,.slice p 0 cap,.bool true,undef,u6,undef,u8,u9,u10,u11,u12,u13,u14,u15,u16,u17,u18,u19,u20,u21,u22,u23,u24,u25,u26,u27,u28,u29,u30,u31]++Array.replicate 41 undef,defers:=[] } v:=by
 have c5:=h.wcell.2.2.2.2.2.1
 have c6:=h.wcell.2.2.2.2.2.2.1
 have f5:=fz_off h 5 (by omega)
 have f6:=fz_off h 6 (by omega)
 have h1:=world_set h S.us S.la true 6 (.bool true) (by simp)
 have HV:Hid (Ev z S v { S with us:=S.us,la:=S.la,stk:=true } (v.setCell ⟨S.wb,6,none⟩ (.bool true))):=⟨h1⟩
 have K5:Hid ((v.setCell ⟨S.wb,6,none⟩ (.bool true)).cell? ⟨S.wb,5,none⟩=some S.tv∧(v.setCell ⟨S.wb,6,none⟩ (.bool true)).frozen? ⟨S.wb,5,none⟩=false):=⟨⟨h1.rep.wcell.2.2.2.2.2.1,fz_off h1.rep 5 (by omega)⟩⟩
 have n1:S.tv.ownBlock≠some S.wb:=fun e=>by have:=h.apart 3 0 S.wb e rfl;omega
 have q5:S.wb<v.heap.size:=World.block_lt_of_cell? _ _ c5
 have qb:S.base≤v.heap.size:=h.bs
 have HO:Hid ((v.setCell ⟨S.wb,6,none⟩ (.bool true)).ownsRow S.base 60 5 S.tv S.n S.tr):=⟨h1.rep.own⟩
 obtain ⟨tp,tc,htv⟩:=own_form h.own
 rw [htv] at c5
 have HO':Hid ((v.setCell ⟨S.wb,6,none⟩ (.bool true)).ownsRow S.base 60 5 (.slice tp S.n tc) S.n S.tr):=⟨by rw [←htv];exact HO.out⟩
 have n1':(Value.slice tp S.n tc).ownBlock≠some S.wb:=by rw [←htv];exact n1
 have HTV:Hid (S.tv=.slice tp S.n tc):=⟨htv⟩
 clear htv
 obtain ⟨j0,hj,hj0,hj1,hj2⟩:=info_parts info34
 have hne:S.wb≠v.heap.size:=by omega
 have hne':v.heap.size≠S.wb:=by omega
 clear h h1
 show Code.wp Tryd.prog c510 _ _ _
 unfold c510 Tryd.f125 seq1 seq2
 simp only [Option.getD_some,Array.replicate_succ,Array.replicate_zero,List.push_toArray,List.append_toArray,List.nil_append,List.cons_append]
 go_wp2_with (first
  |(refine wpList_append_lies _ rfl (.tmp 43) (.tmp 45) 41 rfl S.base 60 j0 _ 5 40 Tryd.underlying41 hj hj0 hj1 hj2 rfl (by decide) (.slice tp S.n tc) S.n S.tr rfl (own_later (below_alloc (Below.refl _ _) _) HO'.out) ⟨_,0,none⟩ 1 1 [I (-1),I (-1),I 7,I 0,I 0] rfl rfl (news5n _ _ _ _ _ _ _ (by simp [World.setCell])) (one5 _ _ _ _ _) (by decide) (by unfold maxLen;omega) (by omega) (by simp;omega) _ rfl ?_
    intro g cpg w6 hown6 hgrow6 hat6 hlt6
    obtain ⟨_,_,k5,k6⟩:=keep4g (keep4 ⟨K5.out.1,K5.out.1,K5.out.1,K5.out.2⟩ (below_alloc (Below.refl _ _) _)) hgrow6 n1' n1' n1'))
 refine ⟨_,results_tmp (t:=2) rfl _ _ _,rfl,?_⟩
 have hN:Noted S.wb S.tv S.n S.base S.tr [I (-1),I (-1),I 7,I 0,I 0] (v.setCell ⟨S.wb,6,none⟩ (.bool true)) (w6.setCell ⟨S.wb,5,none⟩ (.slice (some ⟨g,0,none⟩) (S.n+1) cpg)):=by
  rw [HTV.out]
  exact noted_of (below_alloc (Below.refl _ _) _) (by simpa [World.setCell] using q5) hgrow6 hown6 hat6 n1'
 obtain ⟨tv,hev⟩:=noted_ev HV.out.rep hN
 exact ⟨tv,HV.out.trans hev⟩
theorem turn50_stuck {z:Nat→Option Nat} {Ch:Nat→Prop} {Stop:Goroutine→World→Prop} {S:TS} {K:List (Nat×Int)} {v w:World} (cs:List Frame) {bc:Frame} {ac:Act} {ops:Array Oper} {q:Nat} {rest:List Nat} {oc:Oper} {k:List Item} (hoc:ops[q]? = some oc)
 (hvw:Rel z v w) (hn:NoRow Ch v) (hm:Mem z S K v) (h8:S.thr.length≤8) (h0:rdyIds S S.thr.length=[]) (hw:waits2 S S.thr.length=true) (hnn:(S.n+1)*40≤140737488355328)
 (hk:∀ v' w' tv,Rel z v' w'→NoRow Ch v'→Evo z S K v (stuckS S tv) K v'→GoesI Tryd.prog true (DT (ScZ z) Ch) Stop (G (bc.at (ac.put oc.dst (.bool true)) (.inRegion ops rest :: k)) cs) w') (code:Code) (hc:Tryd.f125.body=some code) :
 GoesI Tryd.prog true (DT (ScZ z) Ch) Stop (G ((base 125).at { tmps:=#[Pt S.wb 0]++Array.replicate 72 undef,defers:=[] } [.code code]) (bc.at ac (.inRegion ops (q :: rest) :: k) :: cs)) w:=by
 have hw0:code=.seq c500 (.seq c501 (.seq c502 (.seq scan c504))):=by
  obtain rfl:=Option.some.inj hc;rfl
 subst hw0
 clear hc
 simp only [Array.replicate_succ,Array.replicate_zero,List.push_toArray,List.append_toArray,List.nil_append,List.cons_append]
 refine goesI_seq (dt_idle _ _) ?_
 refine goesI_look hE fineM hvw hn fine500 rfl (by simp [base]) (a':={ tmps:=#[Pt S.wb 0,undef,.bool false]++Array.replicate 70 undef,defers:=[] }) (fun τ=>?_) (fun w hvw=>?_)
 ·show Code.wp Tryd.prog (c500) _ _ _
  unfold c500 Tryd.f125 seq1
  simp only [Option.getD_some,Array.replicate_succ,Array.replicate_zero,List.push_toArray,List.append_toArray,List.nil_append,List.cons_append]
  go_wp2_with fail
  exact ⟨rfl,rfl,rfl⟩
 simp only [Array.replicate_succ,Array.replicate_zero,List.push_toArray,List.append_toArray,List.nil_append,List.cons_append]
 refine goesI_seq (dt_idle _ _) ?_
 refine goesI_look hE fineM hvw hn fine501 rfl (by simp [base]) (a':={ tmps:=#[Pt S.wb 0,undef,.bool false,.slice none 0 0]++Array.replicate 69 undef,defers:=[] }) (fun τ=>?_) (fun w hvw=>?_)
 ·show Code.wp Tryd.prog (c501) _ _ _
  unfold c501 Tryd.f125 seq1 seq2
  simp only [Option.getD_some,Array.replicate_succ,Array.replicate_zero,List.push_toArray,List.append_toArray,List.nil_append,List.cons_append]
  go_wp2_with fail
  exact ⟨rfl,rfl,rfl⟩
 simp only [Array.replicate_succ,Array.replicate_zero,List.push_toArray,List.append_toArray,List.nil_append,List.cons_append]
 refine goesI_seq (dt_idle _ _) ?_
 refine goesI_look hE fineM hvw hn fine502 rfl (by simp [base]) (a':={ tmps:=#[Pt S.wb 0,undef,.bool false,.slice none 0 0,.bool false]++Array.replicate 68 undef,defers:=[] }) (fun τ=>?_) (fun w hvw=>?_)
 ·show Code.wp Tryd.prog (c502) _ _ _
  unfold c502 Tryd.f125 seq1 seq2
  simp only [Option.getD_some,Array.replicate_succ,Array.replicate_zero,List.push_toArray,List.append_toArray,List.nil_append,List.cons_append]
  go_wp2_with fail
  exact ⟨rfl,rfl,rfl⟩
 simp only [Array.replicate_succ,Array.replicate_zero,List.push_toArray,List.append_toArray,List.nil_append,List.cons_append]
 refine goesI_seq (dt_idle _ _) ?_
 have hscan:∀ τ,scan.wp Tryd.prog (fun e a w'=>e=.normal∧ScanQ S v a w') { tmps:=#[Pt S.wb 0,undef,.bool false,.slice none 0 0,.bool false]++Array.replicate 68 undef,defers:=[] } (onTape v τ 0):=fun τ=>scan_wp (hm.rep.same (v':=onTape v τ 0) rfl) h8
 simp only [Array.replicate_succ,Array.replicate_zero,List.push_toArray,List.append_toArray,List.nil_append,List.cons_append] at hscan
 refine goesI_plain (c:=scan) (z:=z) (wr:=true) (L:=LM) (I:=NoRow Ch) hE fineM noRow_keeps (fun v v' w w' es hi hr ho he=>dt_of_z v v' w w' es hi hr ho he) hvw fineScan rfl (by simp [base]) hn hscan ?_
 rintro a' v1 w1 ⟨⟨lv,⟨u6,u8,u9,u10,u11,u12,u13,u14,u15,u16,u17,u18,u19,u20,u21,u22,u23,u24,u25,u26,u27,u28,u29,u30,u31,rfl⟩,hown⟩,hsz,hbl,hos,hou⟩ hr1 hn1 -
 have hg:Grows v v1:=⟨hsz,hbl,hos,hou⟩
 have he1:=hm.grows hg
 obtain ⟨p,cap,rfl⟩:=own_form hown
 have hc504:c504=.seq c510 (.seq pick15 (.seq last16 (.seq state17 c518))):=rfl
 rw [hc504]
 clear hscan
 rw [h0,hw]
 simp only [List.length_nil]
 refine goesI_seq (dt_idle _ _) ?_
 have hst:=fun τ=>stuck_wp (he1.mem.rep.same (v':=onTape v1 τ 0) rfl) hnn p cap u6 u8 u9 u10 u11 u12 u13 u14 u15 u16 u17 u18 u19 u20 u21 u22 u23 u24 u25 u26 u27 u28 u29 u30 u31
 refine goesI_outZ (f:=125) (fn:=Tryd.f125) (c:=c510) hE fineM hr1 hn1 Tryd.func125 fine510 rfl hoc (R:=fun x w'=>x=.bool true∧∃ tv,Ev z S v1 (stuckS S tv) w') (fun τ=>wp_mono (hst τ) (fun e a w' hq=>by obtain ⟨h1,x,h2,h3,tv,h4⟩:=hq;exact ⟨h1,x,h2,h3,tv,h4.base rfl rfl rfl⟩)) ?_
 rintro x v2 w2 ⟨rfl,tv,hev⟩ hr2 hn2
 exact hk v2 w2 tv hr2 hn2 (he1.trans (Evo.of_ev he1.mem hev rfl))
theorem turn50_end {z:Nat→Option Nat} {Ch:Nat→Prop} {Stop:Goroutine→World→Prop} {S:TS} {K:List (Nat×Int)} {v w:World} (cs:List Frame) {bc:Frame} {ac:Act} {ops:Array Oper} {q:Nat} {rest:List Nat} {oc:Oper} {k:List Item} (hoc:ops[q]? = some oc)
 (hvw:Rel z v w) (hn:NoRow Ch v) (hm:Mem z S K v) (h8:S.thr.length≤8) (h0:rdyIds S S.thr.length=[]) (hw:waits2 S S.thr.length=false)
 (hk:∀ v' w',Rel z v' w'→NoRow Ch v'→Evo z S K v S K v'→GoesI Tryd.prog true (DT (ScZ z) Ch) Stop (G (bc.at (ac.put oc.dst (.bool false)) (.inRegion ops rest :: k)) cs) w') (code:Code) (hc:Tryd.f125.body=some code) :
 GoesI Tryd.prog true (DT (ScZ z) Ch) Stop (G ((base 125).at { tmps:=#[Pt S.wb 0]++Array.replicate 72 undef,defers:=[] } [.code code]) (bc.at ac (.inRegion ops (q :: rest) :: k) :: cs)) w:=by
 have hw0:code=.seq c500 (.seq c501 (.seq c502 (.seq scan c504))):=by
  obtain rfl:=Option.some.inj hc;rfl
 subst hw0
 clear hc
 simp only [Array.replicate_succ,Array.replicate_zero,List.push_toArray,List.append_toArray,List.nil_append,List.cons_append]
 refine goesI_seq (dt_idle _ _) ?_
 refine goesI_look hE fineM hvw hn fine500 rfl (by simp [base]) (a':={ tmps:=#[Pt S.wb 0,undef,.bool false]++Array.replicate 70 undef,defers:=[] }) (fun τ=>?_) (fun w hvw=>?_)
 ·show Code.wp Tryd.prog (c500) _ _ _
  unfold c500 Tryd.f125 seq1
  simp only [Option.getD_some,Array.replicate_succ,Array.replicate_zero,List.push_toArray,List.append_toArray,List.nil_append,List.cons_append]
  go_wp2_with fail
  exact ⟨rfl,rfl,rfl⟩
 simp only [Array.replicate_succ,Array.replicate_zero,List.push_toArray,List.append_toArray,List.nil_append,List.cons_append]
 refine goesI_seq (dt_idle _ _) ?_
 refine goesI_look hE fineM hvw hn fine501 rfl (by simp [base]) (a':={ tmps:=#[Pt S.wb 0,undef,.bool false,.slice none 0 0]++Array.replicate 69 undef,defers:=[] }) (fun τ=>?_) (fun w hvw=>?_)
 ·show Code.wp Tryd.prog (c501) _ _ _
  unfold c501 Tryd.f125 seq1 seq2
  simp only [Option.getD_some,Array.replicate_succ,Array.replicate_zero,List.push_toArray,List.append_toArray,List.nil_append,List.cons_append]
  go_wp2_with fail
  exact ⟨rfl,rfl,rfl⟩
 simp only [Array.replicate_succ,Array.replicate_zero,List.push_toArray,List.append_toArray,List.nil_append,List.cons_append]
 refine goesI_seq (dt_idle _ _) ?_
 refine goesI_look hE fineM hvw hn fine502 rfl (by simp [base]) (a':={ tmps:=#[Pt S.wb 0,undef,.bool false,.slice none 0 0,.bool false]++Array.replicate 68 undef,defers:=[] }) (fun τ=>?_) (fun w hvw=>?_)
 ·show Code.wp Tryd.prog (c502) _ _ _
  unfold c502 Tryd.f125 seq1 seq2
  simp only [Option.getD_some,Array.replicate_succ,Array.replicate_zero,List.push_toArray,List.append_toArray,List.nil_append,List.cons_append]
  go_wp2_with fail
  exact ⟨rfl,rfl,rfl⟩
 simp only [Array.replicate_succ,Array.replicate_zero,List.push_toArray,List.append_toArray,List.nil_append,List.cons_append]
 refine goesI_seq (dt_idle _ _) ?_
 have hscan:∀ τ,scan.wp Tryd.prog (fun e a w'=>e=.normal∧ScanQ S v a w') { tmps:=#[Pt S.wb 0,undef,.bool false,.slice none 0 0,.bool false]++Array.replicate 68 undef,defers:=[] } (onTape v τ 0):=fun τ=>scan_wp (hm.rep.same (v':=onTape v τ 0) rfl) h8
 simp only [Array.replicate_succ,Array.replicate_zero,List.push_toArray,List.append_toArray,List.nil_append,List.cons_append] at hscan
 refine goesI_plain (c:=scan) (z:=z) (wr:=true) (L:=LM) (I:=NoRow Ch) hE fineM noRow_keeps (fun v v' w w' es hi hr ho he=>dt_of_z v v' w w' es hi hr ho he) hvw fineScan rfl (by simp [base]) hn hscan ?_
 rintro a' v1 w1 ⟨⟨lv,⟨u6,u8,u9,u10,u11,u12,u13,u14,u15,u16,u17,u18,u19,u20,u21,u22,u23,u24,u25,u26,u27,u28,u29,u30,u31,rfl⟩,hown⟩,hsz,hbl,hos,hou⟩ hr1 hn1 -
 have hg:Grows v v1:=⟨hsz,hbl,hos,hou⟩
 have he1:=hm.grows hg
 obtain ⟨p,cap,rfl⟩:=own_form hown
 have hc504:c504=.seq c510 (.seq pick15 (.seq last16 (.seq state17 c518))):=rfl
 rw [hc504]
 clear hscan
 rw [h0,hw]
 simp only [List.length_nil]
 refine goesI_seq (dt_idle _ _) ?_
 have hst:=fun τ=>end_wp (S:=S) (v:=onTape v1 τ 0) p cap u6 u8 u9 u10 u11 u12 u13 u14 u15 u16 u17 u18 u19 u20 u21 u22 u23 u24 u25 u26 u27 u28 u29 u30 u31
 refine goesI_outZ (f:=125) (fn:=Tryd.f125) (c:=c510) hE fineM hr1 hn1 Tryd.func125 fine510 rfl hoc (R:=fun x w'=>x=.bool false∧w'.heap=v1.heap∧w'.os=v1.os∧w'.output=v1.output) (fun τ=>wp_mono (hst τ) (fun e a w' hq=>by obtain ⟨h1,x,h2,h3,h4⟩:=hq;subst h4;exact ⟨h1,x,h2,h3,rfl,rfl,rfl⟩)) ?_
 rintro x v2 w2 ⟨rfl,q1,q2,q3⟩ hr2 hn2
 exact hk v2 w2 hr2 hn2 (he1.same q1 q2 q3)
end Go.Proofs.YtfjjoohflcchnaaDoor
namespace Go.Proofs.YtfjjoohflcchnaaDoor.Gen
open Go Go.Lift Go.Conc Go.RowKit
structure Cl where
 po:Int
 ca:Int
 cb:Int
 cc:Int
abbrev Q:=Nat×List Int
inductive Nx where
 |ans (e x:Int)
 |turn (op:Int) (j:Nat) (q:Q)
 |wait (j:Nat) (q:Q)
structure Mc where
 start:Nat→Cl→Nx
 turn:Q→Int→(Int×Int)×Int×Nx
 woke:Q→Nx
 stuck:Q→Int×Int
 bnd:Bool:=false
def Mc.bn (m:Mc) (caps:Array Value):Array Value:=if m.bnd then caps else #[]
def Mc.fr (m:Mc) (caps:Array Value):Array Value:=if m.bnd then #[] else caps
inductive Ph where
 |turn (op:Int) (j:Nat) (q:Q) (rest:List Cl) (ii:Nat) (ans:List (Int×Int))
 |wait (j:Nat) (q:Q) (rest:List Cl) (ii:Nat) (ans:List (Int×Int))
 |done (ans:List (Int×Int))
def Ph.ans:Ph→List (Int×Int)
 |.turn _ _ _ _ _ a=>a
 |.wait _ _ _ _ a=>a
 |.done a=>a
def nv (S:TS):TS:={ S with tv:=undef }
def thrI (S:TS) (i:Nat):Thr:=(S.thr[i]?).getD ⟨0,0,0,0,0,0⟩
def cellAt (K:List (Nat×Int)) (j:Nat):Nat×Int:=(K[j]?).getD (0,0)
def flow (i:Nat) (m:Mc):List Cl→Nat→Bool→List (Int×Int)→TS→TS×Ph
 | [],_,_,ans,S=>(ended S i (thrI S i),.done ans)
 |_ :: rest,ii,true,ans,S=>flow i m rest (ii+1) true (ans.set ii (4,0)) S
 |c :: rest,ii,false,ans,S =>
  match m.start i c with
  |.ans e x=>flow i m rest (ii+1) (e==4) (ans.set ii (e,x)) (noted (noted S undef i 9 (-1) ii 0) undef i 10 (-1) ii e)
  |.turn op j q=>(waiting (noted S undef i 9 (-1) ii 0) i (thrI S i) 1 op j,.turn op j q rest ii ans)
  |.wait j q =>
   if S.stk then flow i m rest (ii+1) ((m.stuck q).1==4) (ans.set ii (m.stuck q)) (noted (noted S undef i 9 (-1) ii 0) undef i 10 (-1) ii (m.stuck q).1)
   else (waiting (noted S undef i 9 (-1) ii 0) i (thrI S i) 2 6 j,.wait j q rest ii ans)
def back (i:Nat) (m:Mc) (rest:List Cl) (ii:Nat) (ans:List (Int×Int)) (a:Int×Int) (S:TS) (K:List (Nat×Int)):TS×List (Nat×Int)×Ph :=
 ((flow i m rest (ii+1) (a.1==4) (ans.set ii a) (noted S undef i 10 (-1) ii a.1)).1,K,(flow i m rest (ii+1) (a.1==4) (ans.set ii a) (noted S undef i 10 (-1) ii a.1)).2)
def on (i:Nat) (m:Mc) (rest:List Cl) (ii:Nat) (ans:List (Int×Int)) (S:TS) (K:List (Nat×Int)):Nx→TS×List (Nat×Int)×Ph
 |.ans e x=>back i m rest ii ans (e,x) S K
 |.turn op j q=>(waiting S i (thrI S i) 1 op j,K,.turn op j q rest ii ans)
 |.wait j q=>if S.stk then back i m rest ii ans (m.stuck q) S K else (waiting S i (thrI S i) 2 6 j,K,.wait j q rest ii ans)
def resume (i:Nat) (m:Mc):Ph→TS→List (Nat×Int)→TS×List (Nat×Int)×Ph
 |.turn _ j q rest ii ans,S,K=>on i m rest ii ans (didS S undef i (thrI S i) (m.turn q (cellAt K j).2).1.1 (m.turn q (cellAt K j).2).1.2) (K.set j ((cellAt K j).1,(m.turn q (cellAt K j).2).2.1)) (m.turn q (cellAt K j).2).2.2
 |.wait j q rest ii ans,S,K=>if S.stk then back i m rest ii ans (m.stuck q) S K else on i m rest ii ans (noted S undef i 6 j 0 0) K (m.woke q)
 |p,S,K=>(S,K,p)
theorem flow_cons (i:Nat) (m:Mc) (c:Cl) (rest:List Cl) (ii:Nat) (ans:List (Int×Int)) (S:TS) (K:List (Nat×Int)):flow i m (c :: rest) ii false ans S=((on i m rest ii ans (noted S undef i 9 (-1) ii 0) K (m.start i c)).1,(on i m rest ii ans (noted S undef i 9 (-1) ii 0) K (m.start i c)).2.2):=by
 unfold flow
 cases h:m.start i c with
 |ans e x=>rfl
 |turn op j q=>rfl
 |wait j q =>
  show (if S.stk then _ else _)=((if S.stk then _ else _:TS×List (Nat×Int)×Ph).1,(if S.stk then _ else _:TS×List (Nat×Int)×Ph).2.2)
  split<;>rfl
theorem resume_turn (i:Nat) (m:Mc) (op:Int) (j:Nat) (q:Q) (rest:List Cl) (ii:Nat) (ans:List (Int×Int)) (S:TS) (K:List (Nat×Int)):resume i m (.turn op j q rest ii ans) S K=on i m rest ii ans (didS S undef i (thrI S i) (m.turn q (cellAt K j).2).1.1 (m.turn q (cellAt K j).2).1.2) (K.set j ((cellAt K j).1,(m.turn q (cellAt K j).2).2.1)) (m.turn q (cellAt K j).2).2.2:=rfl
theorem resume_wait (i:Nat) (m:Mc) (j:Nat) (q:Q) (rest:List Cl) (ii:Nat) (ans:List (Int×Int)) (S:TS) (K:List (Nat×Int)):resume i m (.wait j q rest ii ans) S K=if S.stk then back i m rest ii ans (m.stuck q) S K else on i m rest ii ans (noted S undef i 6 j 0 0) K (m.woke q):=rfl
theorem on_wait (i:Nat) (m:Mc) (j:Nat) (q:Q) (rest:List Cl) (ii:Nat) (ans:List (Int×Int)) (S:TS) (K:List (Nat×Int)):on i m rest ii ans S K (.wait j q)=if S.stk then back i m rest ii ans (m.stuck q) S K else (waiting S i (thrI S i) 2 6 j,K,.wait j q rest ii ans):=rfl
section
variable {S:TS} {i:Nat} {m:Mc}
theorem thrI_of {t:Thr} (h:S.thr[i]? = some t):thrI S i=t:=by unfold thrI;rw [h];rfl
theorem nv_did (tv:Value) (t:Thr) (b a:Int):nv (didS S tv i t b a)=didS (nv S) undef i t b a:=by
 show nv (if b≠a∧0≤t.ce∧t.ce<S.chg.length then _ else _)=if b≠a∧0≤t.ce∧t.ce<S.chg.length then _ else _
 split<;>rfl
structure Sta (i:Nat) (S S':TS):Prop where
 wb:S'.wb=S.wb
 bk:S'.bk=S.bk
 base:S'.base=S.base
 us:S'.us=S.us
 la:S'.la=S.la
 sc:S'.sc=S.sc
 cv:S'.cv=S.cv
 ths:S'.ths=S.ths
 sched:S'.sched=S.sched
 stk:S'.stk=S.stk
 ran:S'.ran=S.ran
 n:S.n≤S'.n
 chg:S'.chg.length=S.chg.length
 len:S'.thr.length=S.thr.length
 oth:∀ j,j≠i→S'.thr[j]? = S.thr[j]?
 own:∀ t,S.thr[i]? = some t→∃ t',S'.thr[i]? = some t'∧t'.tb=t.tb∧t'.gc=t.gc
theorem Sta.refl (i:Nat) (S:TS):Sta i S S:=⟨rfl,rfl,rfl,rfl,rfl,rfl,rfl,rfl,rfl,rfl,rfl,Nat.le_refl _,rfl,rfl,fun _ _=>rfl,fun t h=>⟨t,h,rfl,rfl⟩⟩
theorem Sta.trans {S S' S'':TS} (h:Sta i S S') (k:Sta i S' S''):Sta i S S'':=by
 refine ⟨k.wb.trans h.wb,k.bk.trans h.bk,k.base.trans h.base,k.us.trans h.us,k.la.trans h.la,k.sc.trans h.sc,k.cv.trans h.cv,k.ths.trans h.ths,k.sched.trans h.sched,k.stk.trans h.stk,k.ran.trans h.ran,Nat.le_trans h.n k.n,k.chg.trans h.chg,k.len.trans h.len,fun j hj=>(k.oth j hj).trans (h.oth j hj),fun t ht=>?_⟩
 obtain ⟨t1,h1,h2,h3⟩:=h.own t ht
 obtain ⟨t2,k1,k2,k3⟩:=k.own t1 h1
 exact ⟨t2,k1,k2.trans h2,k3.trans h3⟩
theorem sta_noted (S:TS) (tv:Value) (op ce ol ne:Int):Sta i S (noted S tv i op ce ol ne):=⟨rfl,rfl,rfl,rfl,rfl,rfl,rfl,rfl,rfl,rfl,rfl,Nat.le_succ _,rfl,rfl,fun _ _=>rfl,fun t h=>⟨t,h,rfl,rfl⟩⟩
theorem sta_set (S:TS) (t':Thr) (h1:∀ t,S.thr[i]? = some t→t'.tb=t.tb∧t'.gc=t.gc):Sta i S { S with thr:=S.thr.set i t' }:=by
 refine ⟨rfl,rfl,rfl,rfl,rfl,rfl,rfl,rfl,rfl,rfl,rfl,Nat.le_refl _,rfl,by simp,fun j hj=>?_,fun t h=>⟨t',?_,h1 t h⟩⟩
 ·show (S.thr.set i t')[j]? = _
  rw [List.getElem?_set,if_neg (fun e=>hj e.symm)]
 ·have hi:i<S.thr.length:=(List.getElem?_eq_some_iff.1 h).1
  show (S.thr.set i t')[i]? = _
  rw [List.getElem?_set,if_pos rfl,if_pos hi]
theorem sta_wait (S:TS) (s o c:Int):Sta i S (waiting S i (thrI S i) s o c):=sta_set S _ (fun t h=>by rw [thrI_of h];exact ⟨rfl,rfl⟩)
theorem sta_ended (S:TS):Sta i S (ended S i (thrI S i)):=sta_set S _ (fun t h=>by rw [thrI_of h];exact ⟨rfl,rfl⟩)
theorem sta_did (S:TS) (tv:Value) (t:Thr) (b a:Int):Sta i S (didS S tv i t b a):=by
 unfold didS
 split
 ·exact ⟨rfl,rfl,rfl,rfl,rfl,rfl,rfl,rfl,rfl,rfl,rfl,Nat.le_succ _,by simp [counted,noted],rfl,fun _ _=>rfl,fun t h=>⟨t,h,rfl,rfl⟩⟩
 ·exact sta_noted _ _ _ _ _ _
theorem flow_sta (i:Nat) (m:Mc):∀ (rest:List Cl) (ii:Nat) (sk:Bool) (ans:List (Int×Int)) (S:TS),Sta i S (flow i m rest ii sk ans S).1
 | [],ii,sk,ans,S=>by cases sk<;>exact sta_ended S
 |c :: rest,ii,true,ans,S=>flow_sta i m rest (ii+1) true _ S
 |c :: rest,ii,false,ans,S=>by
  unfold flow
  split
  ·exact ((sta_noted S _ _ _ _ _).trans (sta_noted _ _ _ _ _ _)).trans (flow_sta i m rest (ii+1) _ _ _)
  ·exact (sta_noted S _ _ _ _ _).trans (sta_wait (noted S undef i 9 (-1) ii 0) _ _ _)
  ·split
   ·exact ((sta_noted S _ _ _ _ _).trans (sta_noted _ _ _ _ _ _)).trans (flow_sta i m rest (ii+1) _ _ _)
   ·exact (sta_noted S _ _ _ _ _).trans (sta_wait (noted S undef i 9 (-1) ii 0) _ _ _)
theorem back_sta (rest:List Cl) (ii:Nat) (ans:List (Int×Int)) (a:Int×Int) (K:List (Nat×Int)) (S:TS):Sta i S (back i m rest ii ans a S K).1 :=
 (sta_noted S _ _ _ _ _).trans (flow_sta i m rest (ii+1) _ _ _)
theorem on_sta (rest:List Cl) (ii:Nat) (ans:List (Int×Int)) (K:List (Nat×Int)) (S:TS) (x:Nx):Sta i S (on i m rest ii ans S K x).1:=by
 cases x with
 |ans e x=>exact back_sta _ _ _ _ _ _
 |turn op j q=>exact sta_wait S _ _ _
 |wait j q =>
  rw [on_wait]
  split
  ·exact back_sta _ _ _ _ _ _
  ·exact sta_wait S _ _ _
theorem resume_sta (i:Nat) (m:Mc) (l:Ph) (S:TS) (K:List (Nat×Int)):Sta i S (resume i m l S K).1:=by
 match l with
 |.done ans=>exact Sta.refl _ _
 |.turn op j q rest ii ans=>exact (sta_did S _ _ _ _).trans (on_sta _ _ _ _ _ _)
 |.wait j q rest ii ans =>
  rw [resume_wait]
  split
  ·exact back_sta _ _ _ _ _ _
  ·exact (sta_noted S _ _ _ _ _).trans (on_sta _ _ _ _ _ _)
end
def arow (ans:List (Int×Int)):List Value:=ans.flatMap fun a=>[I a.1,I a.2]
theorem arow_len (ans:List (Int×Int)):(arow ans).length=ans.length*2:=by
 induction ans with
 |nil=>rfl
 |cons a l ih=>simp only [arow,List.flatMap_cons,List.length_append,List.length_cons,List.length_nil] at ih ⊢;omega
theorem arow_get:∀ (ans:List (Int×Int)) (k:Nat) (a:Int×Int),ans[k]? = some a→(arow ans)[k*2]? = some (I a.1)∧(arow ans)[k*2+1]? = some (I a.2)
 |b :: l,0,a,h=>by obtain rfl:b=a:=by simpa using h
                   exact ⟨rfl,rfl⟩
 |b :: l,k+1,a,h=>by
  have:=arow_get l k a (by simpa using h)
  have e:arow (b :: l)=I b.1 :: I b.2 :: arow l:=rfl
  rw [e,show (k+1)*2=(k*2+1)+1 by omega,show (k*2+1)+1+1=(k*2+1+1)+1 by omega]
  simpa using this
theorem arow_set:∀ (ans:List (Int×Int)) (k:Nat) (e x:Int),k<ans.length→arow (ans.set k (e,x))=((arow ans).set (k*2) (I e)).set (k*2+1) (I x)
 |b :: l,0,e,x,_=>rfl
 |b :: l,k+1,e,x,h=>by
  have:=arow_set l k e x (by simpa using h)
  have e1:∀ (b:Int×Int) (l:List (Int×Int)),arow (b :: l)=I b.1 :: I b.2 :: arow l:=fun _ _=>rfl
  rw [List.set_cons_succ,e1,this,e1,show (k+1)*2=(k*2+1)+1 by omega,show (k*2+1)+1+1=(k*2+1+1)+1 by omega]
  simp only [List.set_cons_succ]
variable {mc:Mc}
def roOf:Option Addr→Nat
 |some a=>a.off
 |none=>0
structure Fix (mc:Mc) where
 h:Nat
 i:Nat
 tb:Nat
 gc:Nat
 bb:Nat
 calls:List Cl
 pc:Option Addr
 rb:Nat
 cap:Nat
 asl:Value
 ab:Nat
 cap2:Nat
 aty:TypeId
 fid:FuncId
 caps:Array Value
 pk:Nat→Option Obj
 kb:List Nat
namespace Fix
def csl (X:Fix mc):Value:=.slice X.pc X.calls.length X.cap
abbrev ro (X:Fix mc):Nat:=roOf X.pc
abbrev F (X:Fix mc):Value:=.func (.func X.fid) (mc.bn X.caps) (mc.fr X.caps)
abbrev Pr (X:Fix mc) (b:Nat):Prop:=b=X.bb∨b=X.rb∨b=X.ab∨X.pk b≠none
structure Ok (X:Fix mc):Prop where
 h:0<X.h
 n:(X.calls.length:Int)<9223372036854775808
 ca:∀ c∈X.calls,-9223372036854775808≤c.ca∧c.ca<9223372036854775808
 pc:0<X.calls.length→X.pc=some ⟨X.rb,X.ro,none⟩
 asl:0<X.calls.length→X.asl=.slice (some ⟨X.ab,0,none⟩) X.calls.length X.cap2
 e0:X.calls.length=0→X.rb=X.bb∧X.ab=X.bb
 ne:0<X.calls.length→X.ab≠X.bb∧X.ab≠X.rb∧X.pk X.ab=none
 pk:∀ b o,X.pk b=some o→∃ c e f,o=.cells c e f
end Fix
def Has (M:Nat→Option Obj) (v:World):Prop:=∀ b o,M b=some o→v.heap[b]? = some o
structure PM (X:Fix mc) (ans:List (Int×Int)) (v:World):Prop where
 box:v.cell? ⟨X.bb,0,none⟩=some (Pt X.tb 0)
 call:∀ (k:Nat) (c:Cl),X.calls[k]? = some c→v.cell? ⟨X.rb,X.ro+k*4,none⟩=some (I c.po)∧v.cell? ⟨X.rb,X.ro+k*4+1,none⟩=some (I c.ca)∧v.cell? ⟨X.rb,X.ro+k*4+2,none⟩=some (I c.cb)∧v.cell? ⟨X.rb,X.ro+k*4+3,none⟩=some (I c.cc)
 row:0<X.calls.length→v.heap[X.ab]? = some (.cells (arow ans).toArray X.aty (0,0))
 len:ans.length=X.calls.length
 pk:Has X.pk v
theorem PM.stay {X:Fix mc} {ans:List (Int×Int)} {v v':World} (h:PM X ans v) (hs:∀ b,X.Pr b→v'.heap[b]? = v.heap[b]?):PM X ans v':=by
 have hc:∀ (a:Addr) (x:Value),X.Pr a.block→v.cell? a=some x→v'.cell? a=some x:=fun a x hb ha=>by rw [World.cell?_of_block (hs a.block hb)];exact ha
 refine ⟨hc _ _ (.inl rfl) h.box,fun k c hk=>?_,fun h0=>by rw [hs X.ab (.inr (.inr (.inl rfl)))];exact h.row h0,h.len,fun b o hb=>by rw [hs b (.inr (.inr (.inr (by rw [hb];simp))))];exact h.pk b o hb⟩
 have:=h.call k c hk
 exact ⟨hc _ _ (.inr (.inl rfl)) this.1,hc _ _ (.inr (.inl rfl)) this.2.1,hc _ _ (.inr (.inl rfl)) this.2.2.1,hc _ _ (.inr (.inl rfl)) this.2.2.2⟩
structure Sees (X:Fix mc) (E:Nat→Prop) (M:Nat→Option Obj) (ans:List (Int×Int)):Prop where
 ex:∀ b,E b→M b≠none
 dom:∀ b,M b≠none→X.Pr b∨E b
 apart:∀ b,E b→¬ X.Pr b
 pm:∀ v,Has M v→PM X ans v
 pr:∀ b,X.Pr b→M b≠none
 row:∀ b o,M b=some o→∃ c e f,o=.cells c e f
def Gv (X:Fix mc) (z:Nat→Option Nat) (Ch:Nat→Prop) (S:TS) (K:List (Nat×Int)) (v:World) (E:Nat→Prop) (σ:TS) (κ:List (Nat×Int)) (M':Nat→Option Obj) (w':World):Prop :=
 ∃ v' S',Rel z v' w'∧NoRow Ch v'∧nv S'=σ∧EvoP (fun b=>b=X.ab∨E b) z S K v S' κ v'∧Has M' v'∧∀ b,M' b≠none→¬ Own S' κ b
noncomputable def seatOf (X:Fix mc) (Hm:Ph→(Nat→Prop)→(Nat→Option Obj)→Goroutine→Prop):Ph→(Nat→Prop)→(Nat→Option Obj)→Option Seat
 |.done _,_,_=>none
 |l,E,M=>some (seatT X.gc (Hm l E M))
def Gives (X:Fix mc) (Hm:Ph→(Nat→Prop)→(Nat→Option Obj)→Goroutine→Prop) (z:Nat→Option Nat) (cont:Addr→Value) (Ch:Nat→Prop) (S:TS) (K:List (Nat×Int)) (v:World) (E:Nat→Prop) (σ:TS) (κ:List (Nat×Int)) (l':Ph) (E':Nat→Prop) (M':Nat→Option Obj) (g':Goroutine) (w':World):Prop :=
 Sees X E' M' l'.ans∧(∀ b,E' b→E b∨v.heap.size≤b)∧Lift.AtGive Tryd.prog (KC (ScZ z) cont) (StillC (ScZ z)) X.h S.bk (.agg #[]) (seatOf X Hm l' E' M') (Gv X z Ch S K v E σ κ M') g' w'
def Fits (X:Fix mc):Ph→Thr→Prop
 |.turn op j _ _ _ _,t=>t.op=op∧t.ce=j
 |_,_=>True
def Home (X:Fix mc):Nat→Ph→(Nat→Prop)→(Nat→Option Obj)→Goroutine→Prop
 |0,_,_,_,_=>True
 |n+1,l,E,M,g=>∀ (z:Nat→Option Nat) (Ch:Nat→Prop) (Stop:Goroutine→World→Prop) (cont:Addr→Value) (y:Value) (w v:World) (S:TS) (K:List (Nat×Int)) (t:Thr),Rel z v w→NoRow Ch v→Mem z S K v→S.thr[X.i]? = some t→t.tb=X.tb→t.gc=X.gc→Fits X l t→K.map (·.1)=X.kb→z X.tb=some 2→cont ⟨X.tb,2,none⟩=.chan (some X.gc) →
    Has M v→(∀ b,M b≠none→¬ Own S K b)→(resume X.i mc l (nv S) K).1.n*40≤140737488355328 →
    (∀ g' w' E' M',Gives X (Home X n) z cont Ch S K v E (resume X.i mc l (nv S) K).1 (resume X.i mc l (nv S) K).2.1 (resume X.i mc l (nv S) K).2.2 E' M' g' w'→Stop g' w') →
    GoesI Tryd.prog (X.h==0) (DT (ScZ z) Ch) Stop (Go.Conc.served g y) w
theorem atGive_mono {K:World→Prop} {Still:Loc→Prop} {h c:Nat} {v:Value} {o:Option Seat} {F F':World→Prop} {a:Goroutine} {w:World} (hF:F w→F' w) (hg:Lift.AtGive Tryd.prog K Still h c v o F a w):Lift.AtGive Tryd.prog K Still h c v o F' a w :=
 ⟨hg.1,hF hg.2.1,hg.2.2⟩
section
variable {Pr Pr':Nat→Prop} {z:Nat→Option Nat} {S S' S'':TS} {K K' K'':List (Nat×Int)} {v v' v'':World}
theorem _root_.Go.Proofs.YtfjjoohflcchnaaDoor.EvoP.join (h:EvoP Pr z S K v S' K' v') (k:EvoP Pr' z S' K' v' S'' K'' v'') (hp:∀ b,Pr' b→Pr b∨v.heap.size≤b):EvoP Pr z S K v S'' K'' v'':=by
 refine ⟨k.mem,k.blks.trans h.blks,⟨k.fr.os.trans h.fr.os,k.fr.output.trans h.fr.output,Nat.le_trans h.fr.size k.fr.size,fun x hx hs=>?_⟩,fun b hb=>?_⟩
 ·rw [k.fr.block x (Nat.lt_of_lt_of_le hx h.fr.size) (fun hi=>?_),h.fr.block x hx hs]
  rcases hi with hi|hi
  ·exact (h.new x hi).elim (fun h=>hs (.inl h)) (fun hle=>by omega)
  ·exact (hp x hi).elim (fun h=>hs (.inr h)) (fun hle=>by omega)
 ·rcases k.new b hb with h1|h1
  ·exact h.new b h1
  ·exact .inr (Nat.le_trans h.fr.size h1)
theorem _root_.Go.Proofs.YtfjjoohflcchnaaDoor.EvoP.grows (h:EvoP Pr z S K v S' K' v') {u:World} (g:Grows v' u) (k:EvoP Pr' z S' K' u S'' K'' v'') (hp:∀ b,Pr' b→Pr b∨v.heap.size≤b):EvoP Pr z S K v S'' K'' v'':=by
 refine ⟨k.mem,k.blks.trans h.blks,⟨(k.fr.os.trans g.os).trans h.fr.os,(k.fr.output.trans g.output).trans h.fr.output,Nat.le_trans h.fr.size (Nat.le_trans g.size k.fr.size),fun x hx hs=>?_⟩,fun b hb=>?_⟩
 ·have hx':=Nat.lt_of_lt_of_le hx h.fr.size
  rw [k.fr.block x (Nat.lt_of_lt_of_le hx' g.size) (fun hi=>?_),g.old x hx',h.fr.block x hx hs]
  rcases hi with hi|hi
  ·exact (h.new x hi).elim (fun h=>hs (.inl h)) (fun hle=>by omega)
  ·exact (hp x hi).elim (fun h=>hs (.inr h)) (fun hle=>by omega)
 ·rcases k.new b hb with h1|h1
  ·exact h.new b h1
  ·exact .inr (Nat.le_trans h.fr.size (Nat.le_trans g.size h1))
theorem _root_.Go.Proofs.YtfjjoohflcchnaaDoor.EvoP.keeps (h:EvoP Pr z S K v S' K' v') {b:Nat} (hb:b<v.heap.size) (ho:¬ Own S K b) (hp:¬ Pr b):v'.heap[b]? = v.heap[b]?∧¬ Own S' K' b :=
 ⟨h.fr.block b hb (fun hi=>hi.elim ho hp),fun hi=>(h.new b hi).elim ho (fun hle=>by omega)⟩
theorem _root_.Go.Proofs.YtfjjoohflcchnaaDoor.Grows.trans' {a b c:World} (h:Grows a b) (k:Grows b c):Grows a c:=⟨Nat.le_trans h.size k.size,fun x hx=>by rw [k.old x (Nat.lt_of_lt_of_le hx h.size),h.old x hx],k.os.trans h.os,k.output.trans h.output⟩
theorem Gives.join {X:Fix mc} {Hm:Ph→(Nat→Prop)→(Nat→Option Obj)→Goroutine→Prop} {cont:Addr→Value} {Ch:Nat→Prop} {E E1 E':Nat→Prop} {M':Nat→Option Obj} {σ:TS} {κ:List (Nat×Int)} {l':Ph} {g':Goroutine} {w':World}
 (h:EvoP (fun b=>b=X.ab∨E b) z S K v S' K' v') (hbk:S'.bk=S.bk) (he:∀ b,E1 b→E b∨v.heap.size≤b) (k:Gives X Hm z cont Ch S' K' v' E1 σ κ l' E' M' g' w'):Gives X Hm z cont Ch S K v E σ κ l' E' M' g' w':=by
 obtain ⟨k1,k2,k3⟩:=k
 rw [hbk] at k3
 refine ⟨k1,fun b hb=>?_,atGive_mono (fun hF=>?_) k3⟩
 ·rcases k2 b hb with h1|h1
  ·exact he b h1
  ·exact .inr (Nat.le_trans h.fr.size h1)
 ·obtain ⟨v2,S2,q1,q2,q3,q4,q5⟩:=hF
  refine ⟨v2,S2,q1,q2,q3,h.join q4 (fun b hb=>?_),q5⟩
  rcases hb with rfl|hb
  ·exact .inl (.inl rfl)
  ·exact (he b hb).imp .inr id
end
def mind (X:Fix mc) (v:World) (b:Nat):Option Obj:=if X.Pr b then v.heap[b]? else none
def mindO (X:Fix mc) (v:World) (Mo:Nat→Option Obj) (b:Nat):Option Obj:=if Mo b≠none then Mo b else mind X v b
def CarryEnds (X:Fix mc) (cs:List Frame):Prop :=
 ∀ (z:Nat→Option Nat) (Ch:Nat→Prop) (Stop:Goroutine→World→Prop) (cont:Addr→Value) (w v:World) (S:TS) (K:List (Nat×Int)) (t:Thr) (sk:Bool) (u:Nat→Value),Rel z v w→NoRow Ch v→Mem z S K v→S.thr[X.i]? = some t→t.tb=X.tb→v.cell? ⟨X.bb,0,none⟩=some (Pt X.tb 0)→¬ Own S K X.bb →
   (∀ g w',GiveE z cont X.h S.bk (Then z Ch S K v (ended S X.i t) K) g w'→Stop g w') →
   GoesI Tryd.prog (X.h==0) (DT (ScZ z) Ch) Stop (G (cFr X.tb X.csl X.F X.asl X.calls.length X.calls.length sk u) cs) w
def Answers (X:Fix mc) (cs:List Frame) (ii:Nat) (ans:List (Int×Int)) (cu:Value→Goroutine):Prop :=
 ∀ (z:Nat→Option Nat) (Ch:Nat→Prop) (Stop:Goroutine→World→Prop) (w v:World) (S:TS) (K:List (Nat×Int)) (t:Thr) (e x:Int),Rel z v w→NoRow Ch v→Mem z S K v→S.thr[X.i]? = some t→t.tb=X.tb→(S.n+1)*40≤140737488355328→PM X ans v→(∀ b,X.Pr b→¬ Own S K b) →
   (∀ v' w' tv u',Rel z v' w'→NoRow Ch v'→EvoP (fun b=>b=X.ab) z S K v (noted S tv X.i 10 (-1) ii e) K v'→PM X (ans.set ii (e,x)) v'→GoesI Tryd.prog (X.h==0) (DT (ScZ z) Ch) Stop (G (cFr X.tb X.csl X.F X.asl X.calls.length (ii+1) (e==4) u') cs) w') →
   GoesI Tryd.prog (X.h==0) (DT (ScZ z) Ch) Stop (cu (.agg #[I e,I x])) w
section
variable {X:Fix mc} {ans:List (Int×Int)} {v v':World}
theorem row_of_cell {a:Addr} {x:Value} (h:v.cell? a=some x):∃ c e f,v.heap[a.block]? = some (.cells c e f):=by
 unfold World.cell? at h
 cases hh:v.heap[a.block]? with
 |none=>rw [hh] at h;cases h
 |some o =>
  rw [hh] at h
  cases o with
  |cells c e f=>exact ⟨c,e,f,rfl⟩
  |_=>cases h
theorem PM.isrow (h:PM X ans v) (ok:X.Ok) {b:Nat} (hb:X.Pr b):∃ c e f,v.heap[b]? = some (.cells c e f):=by
 have hbb:=row_of_cell h.box
 rcases hb with rfl|rfl|rfl|hb
 ·exact hbb
 ·by_cases hc:X.calls.length=0
  ·rw [(ok.e0 hc).1];exact hbb
  ·have h0:0<X.calls.length:=by omega
   exact row_of_cell (h.call 0 (X.calls[0]) (by simp [h0])).1
 ·by_cases hc:X.calls.length=0
  ·rw [(ok.e0 hc).2];exact hbb
  ·exact ⟨_,_,_,h.row (by omega)⟩
 ·obtain ⟨o,ho⟩:=Option.ne_none_iff_exists'.1 hb
  obtain ⟨c,e,f,rfl⟩:=ok.pk b o ho
  exact ⟨c,e,f,h.pk b _ ho⟩
theorem PM.lt (h:PM X ans v) (ok:X.Ok) {b:Nat} (hb:X.Pr b):b<v.heap.size:=by
 obtain ⟨c,e,f,hh⟩:=h.isrow ok hb
 exact (Array.getElem?_eq_some_iff.1 hh).1
theorem mind_row (h:PM X ans v) (ok:X.Ok) {b:Nat} {o:Obj} (hb:mind X v b=some o):∃ c e f,o=.cells c e f:=by
 unfold mind at hb
 split at hb
 ·rename_i hp
  obtain ⟨c,e,f,hh⟩:=h.isrow ok hp
  rw [hh] at hb
  cases hb
  exact ⟨c,e,f,rfl⟩
 ·cases hb
theorem PM.set (h:PM X ans v) {ii:Nat} (hi:ii<X.calls.length) (e x:Int) (hab:v'.heap[X.ab]? = ((v.setCell ⟨X.ab,ii*2,none⟩ (I e)).setCell ⟨X.ab,ii*2+1,none⟩ (I x)).heap[X.ab]?) (hs:∀ b,X.Pr b→b≠X.ab→v'.heap[b]? = v.heap[b]?) (hne:X.ab≠X.bb∧X.ab≠X.rb∧X.pk X.ab=none):PM X (ans.set ii (e,x)) v':=by
 have h0:0<X.calls.length:=by omega
 have hc:∀ (a:Addr) (y:Value),X.Pr a.block→a.block≠X.ab→v.cell? a=some y→v'.cell? a=some y:=fun a y hb hn ha=>by rw [World.cell?_of_block (hs a.block hb hn)];exact ha
 refine ⟨hc _ _ (.inl rfl) (Ne.symm hne.1) h.box,fun k c hk=>?_,fun _=>?_,by simpa using h.len,fun b o hb=>by rw [hs b (.inr (.inr (.inr (by rw [hb];simp)))) (fun e=>by rw [e,hne.2.2] at hb;cases hb)];exact h.pk b o hb⟩
 ·have:=h.call k c hk
  exact ⟨hc _ _ (.inr (.inl rfl)) (Ne.symm hne.2.1) this.1,hc _ _ (.inr (.inl rfl)) (Ne.symm hne.2.1) this.2.1,hc _ _ (.inr (.inl rfl)) (Ne.symm hne.2.1) this.2.2.1,hc _ _ (.inr (.inl rfl)) (Ne.symm hne.2.1) this.2.2.2⟩
 ·rw [hab,heap_setCell_same (heap_setCell_same (h.row h0) (I e)) (I x),arow_set _ _ _ _ (by rw [h.len];exact hi)]
  simp
theorem PM.cells (h:PM X ans v) {ii:Nat} (hi:ii<X.calls.length):∃ y0 y1,v.cell? ⟨X.ab,ii*2,none⟩=some (I y0)∧v.cell? ⟨X.ab,ii*2+1,none⟩=some (I y1)∧v.frozen? ⟨X.ab,ii*2,none⟩=false∧v.frozen? ⟨X.ab,ii*2+1,none⟩=false:=by
 have h0:=h.row (by omega)
 have hl:ii<ans.length:=by rw [h.len];exact hi
 have:=arow_get ans ii ans[ii] (by simp [hl])
 refine ⟨ans[ii].1,ans[ii].2,?_,?_,?_,?_⟩
 ·simp [World.cell?,h0,this.1]
 ·simp [World.cell?,h0,this.2]
 ·simp [World.frozen?,h0]
 ·simp [World.frozen?,h0]
theorem has_mind (hl:∀ b,X.Pr b→b<v.heap.size) {M:Nat→Option Obj} (hM:∀ b o,mind X v b=some o→M b=some o) (h:Has M v'):∀ b,X.Pr b→v'.heap[b]? = v.heap[b]?:=fun b hb=>by
 have e:v.heap[b]? = some v.heap[b]!:=by simp [hl b hb]
 rw [e]
 exact h b _ (hM b _ (by unfold mind;rw [if_pos hb,e]))
theorem sees_mind (h:PM X ans v) (ok:X.Ok):Sees X (fun _=>False) (mind X v) ans:=by
 refine ⟨fun _ h=>h.elim,fun b hb=>?_,fun _ h=>h.elim,fun v' hM=>h.stay (has_mind (fun b hb=>h.lt ok hb) (fun _ _ h=>h) hM),fun b hb=>?_,fun b o hb=>mind_row h ok hb⟩
 ·unfold mind at hb
  split at hb
  ·exact .inl ‹_›
  ·exact absurd rfl hb
 ·unfold mind
  rw [if_pos hb]
  simp [h.lt ok hb]
theorem sees_mindO (h:PM X ans v) (ok:X.Ok) {Mo:Nat→Option Obj} (h1:∀ b,Mo b≠none→¬ X.Pr b) (h2:∀ b o,Mo b=some o→∃ c e f,o=.cells c e f):Sees X (fun b=>Mo b≠none) (mindO X v Mo) ans:=by
 refine ⟨fun b hb=>?_,fun b hb=>?_,fun b hb hp=>h1 b hb hp,fun v' hM=>h.stay (has_mind (fun b hb=>h.lt ok hb) (fun b o hb=>?_) hM),fun b hb=>?_,fun b o hb=>?_⟩
 ·unfold mindO;rw [if_pos hb];exact hb
 ·unfold mindO at hb
  split at hb
  ·exact .inr ‹_›
  ·unfold mind at hb
   split at hb
   ·exact .inl ‹_›
   ·exact absurd rfl hb
 ·unfold mindO
  have hpr:X.Pr b:=by
   unfold mind at hb
   split at hb
   ·assumption
   ·cases hb
  rw [if_neg (fun e=>h1 b e hpr)]
  exact hb
 ·unfold mindO mind
  rw [if_neg (fun e=>h1 b e hb),if_pos hb]
  simp [h.lt ok hb]
 ·unfold mindO at hb
  split at hb
  ·exact h2 b o hb
  ·exact mind_row h ok hb
end
end Go.Proofs.YtfjjoohflcchnaaDoor.Gen
namespace Go.Proofs.YtfjjoohflcchnaaDoor
open Go Go.Lift Go.Conc Go.RowKit
theorem und55:∃ dir e i,Tryd.prog.underlying 94=some (.chan dir e)∧Tryd.prog.info? e=some i∧i.bytes=0:=by
 have h:((Tryd.prog.underlying 94).map fun t=>match t with|.chan d e=>((Tryd.prog.info? e).map fun i=>i.bytes)==some 0|_=>false)=some true:=by kernel_rfl
 cases hu:Tryd.prog.underlying 94 with
 |none=>rw [hu] at h;cases h
 |some t =>
  rw [hu] at h
  cases t with
  |chan d e =>
   simp only [Option.map_some,Option.some.injEq,beq_iff_eq] at h
   obtain ⟨i,hi,hb⟩:=Option.map_eq_some_iff.1 h
   exact ⟨d,e,i,rfl,hi,hb⟩
  |_=>cases h
theorem run_mk (v:World):(Instr.makeChan 94 (.int .i64 0)).run Tryd.prog v=.ok (.chan (some v.heap.size)) (v.alloc (.chan 0 #[] false 0 0 false)):=by
 obtain ⟨d,e,i,h1,h2,h3⟩:=und55
 exact run_makeChan h1 h2 .i64 0 (by decide) (by rw [h3];decide)
noncomputable def B35:Code:=Tryd.f95.body.getD .skip
noncomputable def HL:Code:=loopC (blockC (seq2 (seq1 (seq2 (seq2 (seq2 B35))))))
noncomputable def D35:Code:=seq2 (seq2 (seq2 (seq2 B35)))
noncomputable def TL:Code:=loopC (blockC D35)
noncomputable def HB:Code:=blockC (seq1 (seq2 (seq2 HL)))
noncomputable def R18:Code:=seq2 (seq2 (seq2 HL))
noncomputable def hFr (wb:Nat) (bsl:Value) (n ii:Nat) (u:Nat→Value):Frame :=
 (base 95).at ⟨#[Pt wb 0,bsl,undef,undef,u 4,u 5,u 6,u 7,u 8,u 9,u 10,u 11,u 12,u 13,u 14,u 15,u 16,u 17,u 18,u 19,u 20,u 21,u 22,u 23,u 24,u 25,u 26,u 27,u 28,u 29,bsl]++#[I n,I ii,u 33,u 34,u 35,u 36,u 37,u 38,u 39,u 40,u 41,u 42,u 43,u 44,u 45,u 46,u 47,u 48,u 49,u 50,u 51,u 52,u 53,u 54,u 55,u 56,u 57,u 58,u 59,u 60,u 61],[]⟩ [.code HL,.inLoop HL,.inBlock 2,.code D35]
noncomputable def ops3514:Array Oper:=opsOf (seq1 (seq2 HB))
noncomputable def R15:Code:=seq2 (seq2 HB)
noncomputable def bFr1 (wb:Nat) (bsl F:Value) (n ii bb gc:Nat) (u:Nat→Value):Frame :=
 (base 95).at ⟨#[Pt wb 0,bsl,undef,undef,u 4,u 5,u 6,I ii,F,u 9,u 10,u 11,u 12,u 13,u 14,u 15,u 16,u 17,u 18,u 19,u 20,u 21,u 22,u 23,u 24,u 25,u 26,u 27,u 28,u 29,bsl]++#[I n,I ii,.bool true,I ii,Pt bb ii,F,Pt wb 0,I ii,.chan (some gc),.agg (trow wb ii gc 0 0 0 0),u 41,u 42,u 43,u 44,u 45,u 46,u 47,u 48,u 49,u 50,u 51,u 52,u 53,u 54,u 55,u 56,u 57,u 58,u 59,u 60,u 61],[]⟩ [.inRegion ops3514 [4,5],.code R15,.inBlock 3,.code R18,.inLoop HL,.inBlock 2,.code D35]
noncomputable def bFr2 (wb:Nat) (bsl F:Value) (n ii bb gc tb:Nat) (u:Nat→Value):Frame :=
 (base 95).at ⟨#[Pt wb 0,bsl,undef,undef,u 4,u 5,u 6,I ii,F,u 9,u 10,u 11,u 12,u 13,u 14,u 15,u 16,u 17,u 18,u 19,u 20,u 21,u 22,u 23,u 24,u 25,u 26,u 27,u 28,u 29,bsl]++#[I n,I ii,.bool true,I ii,Pt bb ii,F,Pt wb 0,I ii,.chan (some gc),.agg (trow wb ii gc 0 0 0 0),Pt tb 0,u 42,u 43,u 44,u 45,u 46,u 47,u 48,u 49,u 50,u 51,u 52,u 53,u 54,u 55,u 56,u 57,u 58,u 59,u 60,u 61],[]⟩ [.inRegion ops3514 [5],.code R15,.inBlock 3,.code R18,.inLoop HL,.inBlock 2,.code D35]
theorem hire_a {z:Nat→Option Nat} {Ch:Nat→Prop} {Stop:Goroutine→World→Prop} {main:Bool} {v w:World} {wb:Nat} (F:Value) (bb n cap ii:Nat) (u:Nat→Value) (cs:List Frame) (hi:ii<n)
 (h1:v.cell? ⟨bb,ii,none⟩=some F) (hvw:Rel z v w) (hn:NoRow Ch v)
 (hk:∀ v' w' u',Rel z v' w'→NoRow Ch v'→v'={ v with heap:=v.heap.push (.chan 0 #[] false 0 0 false) }→GoesI Tryd.prog main (DT (ScZ z) Ch) Stop (G (bFr1 wb (.slice (some ⟨bb,0,none⟩) n cap) F n ii bb v.heap.size u') cs) w') :
 GoesI Tryd.prog main (DT (ScZ z) Ch) Stop (G (hFr wb (.slice (some ⟨bb,0,none⟩) n cap) n ii u) cs) w:=by
 have hi':(ii:Int)<(n:Int):=by omega
 have e0:w.cell? ⟨bb,ii,none⟩=some F:=by rw [hvw.cell?];exact h1
 have hk:=hk { v with heap:=v.heap.push (.chan 0 #[] false 0 0 false) }
 unfold hFr HL B35 Tryd.f95 seq2 seq1 blockC loopC
 simp only [Option.getD_some,List.append_toArray,List.cons_append,List.nil_append]
 refine goesI_seq (dt_idle _ _) ?_
 refine goesI_region (dt_idle _ _) ?_
 simp only [List.size_toArray,List.length_cons,List.length_nil,Nat.reduceAdd,Nat.zero_add,List.range,List.range.loop]
 iterate 1
  (refine goesI_oper rfl rfl (by decide) (fun d K hK=>?_)
   go_simp
   refine hK _ _ ⟨dt_reads (fun e he=>?_),GoesI.at ?_ d⟩
   ·have hm:=mem_listed he
    simp [go_sem, *] at hm
    try exact ⟨_,_,hm⟩
   clear hK K)
 refine goesI_regionEnd (dt_idle _ _) ?_
 refine goesI_seq (dt_idle _ _) ?_
 refine goesI_cond (dt_idle _ _) (t:=true) rfl ?_
 simp only [if_true,if_false,Bool.false_eq_true]
 refine goesI_skip (dt_idle _ _) ?_
 refine goesI_seq (dt_idle _ _) ?_
 refine goesI_block (dt_idle _ _) ?_
 refine goesI_seq (dt_idle _ _) ?_
 refine goesI_region (dt_idle _ _) ?_
 simp only [List.size_toArray,List.length_cons,List.length_nil,Nat.reduceAdd,Nat.zero_add,List.range,List.range.loop]
 iterate 5
  (refine goesI_oper rfl rfl (by decide) (fun d K hK=>?_)
   go_simp
   refine hK _ _ ⟨dt_reads (fun e he=>?_),GoesI.at ?_ d⟩
   ·have hm:=mem_listed he
    simp [go_sem, *] at hm
    try exact ⟨_,_,hm⟩
   clear hK K)
 refine goesI_regionEnd (dt_idle _ _) ?_
 refine goesI_seq (dt_idle _ _) ?_
 refine goesI_region (dt_idle _ _) ?_
 simp only [List.size_toArray,List.length_cons,List.length_nil,Nat.reduceAdd,Nat.zero_add,List.range,List.range.loop]
 iterate 2
  (refine goesI_oper rfl rfl (by decide) (fun d K hK=>?_)
   go_simp
   refine hK _ _ ⟨dt_reads (fun e he=>?_),GoesI.at ?_ d⟩
   ·have hm:=mem_listed he
    simp [go_sem, *] at hm
    try exact ⟨_,_,hm⟩
   clear hK K)
 clear e0 hi'
 refine goesI_opZ (L:=LT) rfl rfl (by decide) (fineOp_ask callT extT (by kernel_rfl)) hvw hn (v':={ v with heap:=v.heap.push (.chan 0 #[] false 0 0 false) }) (x:=.chan (some v.heap.size)) (by go_simp;rw [run_mk];rfl) rfl (fun w2 hr2 hn2=>?_)
 iterate 1
  (refine goesI_oper rfl rfl (by decide) (fun d K hK=>?_)
   go_simp
   refine hK _ _ ⟨dt_reads (fun e he=>?_),GoesI.at ?_ d⟩
   ·have hm:=mem_listed he
    simp [go_sem, *] at hm
    try exact ⟨_,_,hm⟩
   clear hK K)
 have hk:=hk w2 (fun m=>match m with|7=>I ii|8=>F|m=>u m) hr2 hn2 rfl
 unfold bFr1 R15 R18 HB ops3514 D35 HL B35 Tryd.f95 seq2 seq1 blockC loopC opsOf at hk
 simp only [Option.getD_some,List.append_toArray,List.cons_append,List.nil_append] at hk
 exact hk
noncomputable def r15:Code:=seq1 R15
noncomputable def R1617:Code:=seq2 R15
theorem fineR15:fineCode Tryd.prog true LT r15:=fineCode_ask callT extT (by kernel_rfl)
def Threaded (wb:Nat) (tv:Value) (n base:Nat) (xs:List Value) (x:Value) (w w':World):Prop :=
 ∃ g cap,(∀ c t f,w.heap[wb]? = some (.cells c t f)→w'.heap[wb]? = some (.cells (c.setIfInBounds 4 (.slice (some ⟨g,0,none⟩) (n+1) cap)) t f)) ∧
   w'.ownsRow base 48 1 (.slice (some ⟨g,0,none⟩) (n+1) cap) (n+1) (xs++[x])∧(tv.ownBlock=some g∨w.heap.size≤g)∧Fr (fun b=>b=wb∨some b=tv.ownBlock) w w'
theorem threaded_of {wb:Nat} {tv x:Value} {n base:Nat} {xs:List Value} {w u w6:World} {g cap:Nat} (hb:Below w.heap.size w u) (hw:wb<w.heap.size) (hg:u.grownBy w6 tv.ownBlock) (hown:w6.ownsRow base 48 1 (.slice (some ⟨g,0,none⟩) (n+1) cap) (n+1) (xs++[x]))
 (hat:tv.ownBlock=some g∨g=u.heap.size) (hne:tv.ownBlock≠some wb):Threaded wb tv n base xs x w (w6.setCell ⟨wb,4,none⟩ (.slice (some ⟨g,0,none⟩) (n+1) cap)):=by
 have hgw:g≠wb:=by
  rcases hat with h|h
  ·exact fun e=>hne (by rw [h,e])
  ·have:=hb.size;omega
 have e6:w6.heap[wb]? = w.heap[wb]?:=(hg.block wb (Nat.lt_of_lt_of_le hw hb.size) (Ne.symm hne)).trans (hb.block wb hw)
 refine ⟨g,cap,fun c t f h=>heap_setCell_same (by rw [e6];exact h) _,own_set hown _ _ (fun e=>hgw (Option.some.inj e)),?_,?_⟩
 ·rcases hat with h|h
  ·exact .inl h
  ·exact .inr (by have:=hb.size;omega)
 ·refine ⟨by show w6.os=_;rw [hg.os,hb.os],by show w6.output=_;rw [hg.output,hb.output],?_,fun b hlt hs=>?_⟩
  ·have:=hb.size
   have:=hg.size
   simp only [World.setCell,Array.size_modify]
   omega
  ·rw [Below.heap_setCell _ _ _ _ (fun e=>hs (.inl e)),hg.block b (Nat.lt_of_lt_of_le hlt hb.size) (fun e=>hs (.inr e)),hb.block b hlt]
theorem keep2g {u u':World} {row:Option Nat} {a:Addr} {x:Value} (h:u.cell? a=some x∧u.frozen? a=false) (hg:u.grownBy u' row) (hr:row≠some a.block):u'.cell? a=some x∧u'.frozen? a=false:=by
 obtain ⟨_,_,h3,h4⟩:=keep4g (a1:=a) (a2:=a) ⟨h.1,h.1,h.1,h.2⟩ hg hr hr hr
 exact ⟨h3,h4⟩
theorem r15_wp {v:World} (wb n ii bb gc tb:Nat) (bsl F tv:Value) (k base:Nat) (xs:List Value) (u:Nat→Value) (h4:v.cell? ⟨wb,4,none⟩=some tv) (hf:v.frozen? ⟨wb,4,none⟩=false) (hown:v.ownsRow base 48 1 tv k xs) (hne:tv.ownBlock≠some wb) (hk:(k+1)*8≤140737488355328) (hbase:base≤v.heap.size) :
 r15.wp Tryd.prog (fun e a w'=>e=.normal∧(∃ u:Nat→Value,a={ tmps:=#[Pt wb 0,bsl,undef,undef,u 4,u 5,u 6,I ii,F,Pt tb 0,u 10,u 11,u 12,u 13,u 14,u 15,u 16,u 17,u 18,u 19,u 20,u 21,u 22,u 23,u 24,u 25,u 26,u 27,u 28,u 29,bsl]++#[I n,I ii,.bool true,I ii,Pt bb ii,F,Pt wb 0,I ii,.chan (some gc),.agg (trow wb ii gc 0 0 0 0),Pt tb 0,u 42,u 43,u 44,u 45,u 46,u 47,u 48,u 49,u 50,u 51,u 52,u 53,u 54,u 55,u 56,u 57,u 58,u 59,u 60,u 61],defers:=[] })∧Threaded wb tv k base xs (Pt tb 0) v w') { tmps:=#[Pt wb 0,bsl,undef,undef,u 4,u 5,u 6,I ii,F,Pt tb 0,u 10,u 11,u 12,u 13,u 14,u 15,u 16,u 17,u 18,u 19,u 20,u 21,u 22,u 23,u 24,u 25,u 26,u 27,u 28,u 29,bsl]++#[I n,I ii,.bool true,I ii,Pt bb ii,F,Pt wb 0,I ii,.chan (some gc),.agg (trow wb ii gc 0 0 0 0),Pt tb 0,u 42,u 43,u 44,u 45,u 46,u 47,u 48,u 49,u 50,u 51,u 52,u 53,u 54,u 55,u 56,u 57,u 58,u 59,u 60,u 61],defers:=[] } v:=by
 have q4:wb<v.heap.size:=World.block_lt_of_cell? _ _ h4
 obtain ⟨tp,tc,htv⟩:=own_form hown
 have HO:Hid (v.ownsRow base 48 1 (.slice tp k tc) k xs):=⟨by rw [←htv];exact hown⟩
 have n1:(Value.slice tp k tc).ownBlock≠some wb:=by rw [←htv];exact hne
 have HT:Hid (tv=.slice tp k tc):=⟨htv⟩
 rw [htv] at h4
 clear hown htv hne
 obtain ⟨j0,hj,hj0,hj1,hj2⟩:=info_parts info46
 have hne:wb≠v.heap.size:=by omega
 have hne':v.heap.size≠wb:=by omega
 have K4:Hid (v.cell? ⟨wb,4,none⟩=some (.slice tp k tc)∧v.frozen? ⟨wb,4,none⟩=false):=⟨⟨h4,hf⟩⟩
 show Code.wp Tryd.prog r15 _ _ _
 unfold r15 R15 HB HL B35 Tryd.f95 seq1 seq2 blockC loopC
 simp only [Option.getD_some,List.append_toArray,List.cons_append,List.nil_append]
 go_wp2_with (first
  |(refine wpList_append_lies _ rfl (.tmp 46) (.tmp 48) 95 rfl base 48 j0 _ 1 8 Tryd.underlying95 hj hj0 hj1 hj2 rfl (by decide) (.slice tp k tc) k xs rfl (own_later (below_alloc (Below.refl _ _) _) HO.out) ⟨_,0,none⟩ 1 1 [Pt tb 0] rfl rfl (news1 _ _ _) (one1 _) (by decide) (by unfold maxLen;omega) (by omega) (by simp;omega) _ rfl ?_
    intro g cpg w6 hown6 hgrow6 hat6 hlt6
    obtain ⟨k5,k6⟩:=keep2g ⟨kcell (below_alloc (Below.refl _ _) _) K4.out.1,by rw [(below_alloc (Below.refl _ _) _).frozen q4];exact K4.out.2⟩ hgrow6 n1))
 refine ⟨⟨fun m=>match m with|42=>Pt wb 0|43=>Pt wb 0|44=>Pt wb 0|45=>Pt wb 4|46=>.slice tp k tc|47=>Pt tb 0|48=>.slice (some ⟨v.heap.size,0,none⟩) 1 1|49=>.slice (some ⟨g,0,none⟩) (k+1) cpg|50=>Pt wb 0|51=>Pt wb 4|m=>u m,by simp⟩,?_⟩
 ·rw [HT.out]
  exact threaded_of (below_alloc (Below.refl _ _) _) q4 hgrow6 hown6 hat6 n1
end Go.Proofs.YtfjjoohflcchnaaDoor
