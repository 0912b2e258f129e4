/- OnceOnce, part 6 of 26: MainT, Ends, Life, Body33, None, MainN, GPure, GHome. -/
import Derived.Test.YtfjjoohflcchnaaDoorOnceOnce01
import Derived.Test.YtfjjoohflcchnaaDoorOnceOnce05
set_option linter.unusedSimpArgs false
set_option linter.unusedVariables false
set_option maxHeartbeats 4000000
set_option maxRecDepth 100000
noncomputable section
namespace Go.Proofs.YtfjjoohflcchnaaDoor
open Go Go.Lift Go.Conc Go.RowKit
variable {z:Nat->Option Nat} {S:TS} {v w:World} {i q:Nat} {t:Thr} {bc:Frame} {ac:Act} {ops:Array Oper} {rest:List Nat} {o oc:Oper} {k:List Item} {Ch:Nat->Prop} {Stop:Goroutine->World->Prop} {cont:Addr->Value} {K:List (Nat×Int)}
def mainFs:List FuncId:=[157,155,156]
def LM (f:FuncId):Prop:=f∈mainFs
theorem callM:∀ f∈mainFs,Callable Tryd.prog LM f:=by intro f hf;have hf':=hf;simp only[mainFs,List.mem_cons,List.not_mem_nil,or_false] at hf;rcases hf with rfl|rfl|rfl;exact ⟨hf',Tryd.f157,Tryd.func157,by kernel_rfl,by kernel_rfl⟩;exact ⟨hf',Tryd.f155,Tryd.func155,by kernel_rfl,by kernel_rfl⟩;exact ⟨hf',Tryd.f156,Tryd.func156,by kernel_rfl,by kernel_rfl⟩
theorem fineM:∀ f,LM f->fineFn Tryd.prog true LM f:=by intro f hf;simp only[LM,mainFs,List.mem_cons,List.not_mem_nil,or_false] at hf;rcases hf with rfl|rfl|rfl;exact fineFn_of callM Tryd.func157 (c:=Tryd.f157.body.getD .skip) (by rfl) (by kernel_rfl);exact fineFn_of callM Tryd.func155 (c:=Tryd.f155.body.getD .skip) (by rfl) (by kernel_rfl);exact fineFn_of callM Tryd.func156 (c:=Tryd.f156.body.getD .skip) (by rfl) (by kernel_rfl)
theorem fineScan:fineCode Tryd.prog true LM scan:=fineCode_of callM (by kernel_rfl)
theorem thr_ev {V:World}(h:Rep z S v) (ht:S.thr[i]? = some t) (t':Thr) (htb:t'.tb=t.tb) (hst:∀ b,b≠t.tb->V.heap[b]? = v.heap[b]?) (hrow:V.heap[t.tb]? = some (.cells (trow S.wb i t'.gc t'.st t'.ce t'.op t'.se) 107 (fz z t.tb))) (hsz:V.heap.size=v.heap.size) (hos:V.os=v.os) (hou:V.output=v.output):
 Ev z S v { S with thr:=S.thr.set i t' } V:=by
 have hi:i<S.thr.length:=(Qc ht).1;have hbt:blk S (i+5)=some t.tb:=by simp[blk,ht]
 have hits:∀ k b,blk S k=some b->k≠i+5->V.heap[b]? = v.heap[b]?:=λk b hk hne=>hst b (λe=>hne (h.apart k (i+5) b hk (by rw[hbt,e])));have hget:∀ (j:Nat) (u:Thr),(S.thr.set i t')[j]? = some u->(j=i∧u=t')∨(j≠i∧S.thr[j]? = some u):=λj u hj=>by rw[Qq] at hj;by_cases e:i=j;subst e;rw[if_pos rfl,if_pos hi] at hj;exact .inl ⟨rfl,(Qd hj).symm⟩;rw[if_neg e] at hj;exact .inr ⟨λe'=>e e'.symm,hj⟩
 have hblk:∀ k,blk { S with thr:=S.thr.set i t' } k=blk S k:=λk=>by
  match k with
  |0=>rfl
  |1=>rfl
  |2=>rfl
  |3=>rfl
  |4=>rfl
  |k+5 =>
   simp only[blk,Qq];by_cases e:i=k
   .subst e
    have:S.thr[i]=t:=by rw[Qf hi] at ht;exact Qd ht
    simp[hi,this,htb]
   simp[e]
 have hths:(S.thr.set i t').map (λt=>Pt t.tb 0)=S.thr.map (λt=>Pt t.tb 0):=by
  apply List.ext_getElem?;intro k;have:=hblk (k+5);simp only[blk] at this;rw[List.getElem?_map,List.getElem?_map];have e:∀ l:List Thr,(l[k]?).map (λt=>Pt t.tb 0)=((l[k]?).map (·.tb)).map (λb=>Pt b 0):=λl=>by cases l[k]?<;>rfl
  rw[e,e,this]
 refine ⟨⟨?_,λj u hj=>?_,own_stay (λb hb=>hits 3 b hb (by omega)) h.own,own_stay (λb hb=>hits 1 b hb (by omega)) h.chg,?_,own_stay (λb hb=>hits 4 b hb (by omega)) h.sch,?_,λj k b hj hk=>?_,λb n hz=>?_⟩,⟨hos,hou,by omega,λb hb hs=>hst b (λe=>hs ⟨i+5,by rw[hbt,e]⟩)⟩,λb ⟨k,hk⟩=>.inl ⟨k,by rw[<-hblk];exact hk⟩⟩
 .show V.heap[S.wb]? = _
  rw[hits 0 S.wb rfl (by omega)];exact h.wor
 .rcases hget j u hj with ⟨rfl,rfl⟩|⟨hne,hj⟩
  rw[htb];exact hrow
  .rw[hits (j+5) u.tb (by simp[blk,hj]) (by omega)]
   exact h.thr j u hj
 .have:=own_stay (w':=V) (λb hb=>hits 2 b hb (by omega)) h.ths
  show V.ownsRow S.base 48 1 S.ths (S.thr.set i t').length ((S.thr.set i t').map λt=>Pt t.tb 0);rw[hths,List.length_set];exact this
 .show S.base<=V.heap.size
  rw[hsz];exact h.bs
 exact h.apart j k b (by rw[<-hblk];exact hj) (by rw[<-hblk];exact hk)
 .rcases h.kept b n hz with h1|⟨j,u,hj,h2,h3⟩
  exact .inl h1
  .right
   by_cases e:j=i
   .subst e
    rw[ht] at hj;cases hj;exact ⟨j,t',by simp[hi],by rw[h2,htb],h3⟩
   exact ⟨j,u,by show (S.thr.set i t')[j]? = some u;rw[Qq,if_neg (λe'=>e e'.symm)];exact hj,h2,h3⟩
def going (S:TS) (i:Nat) (t:Thr):TS:={ (picked S) with la:=i,thr:=(picked S).thr.set i { t with st:=0 } }
def pick15:Code:=seq1 (seq2 (seq2 (seq2 (seq2 (seq2 (Tryd.f125.body.getD .skip))))))
def last16:Code:=seq1 (seq2 (seq2 (seq2 (seq2 (seq2 (seq2 (Tryd.f125.body.getD .skip)))))))
def state17:Code:=seq1 (seq2 (seq2 (seq2 (seq2 (seq2 (seq2 (seq2 (Tryd.f125.body.getD .skip))))))))
theorem fine15M:fineCode Tryd.prog true LM pick15:=fineCode_of callM (by kernel_rfl)
theorem fine16M:fineCode Tryd.prog true LM last16:=fineCode_of callM (by kernel_rfl)
theorem fine17M:fineCode Tryd.prog true LM state17:=fineCode_of callM (by kernel_rfl)
def c500:Code:=seq1 (Tryd.f125.body.getD .skip)
def c501:Code:=seq1 (seq2 (Tryd.f125.body.getD .skip))
def c502:Code:=seq1 (seq2 (seq2 (Tryd.f125.body.getD .skip)))
def c504:Code:=seq2 (seq2 (seq2 (seq2 (Tryd.f125.body.getD .skip))))
theorem fine500:fineCode Tryd.prog true LM c500:=fineCode_of callM (by kernel_rfl)
theorem fine501:fineCode Tryd.prog true LM c501:=fineCode_of callM (by kernel_rfl)
theorem fine502:fineCode Tryd.prog true LM c502:=fineCode_of callM (by kernel_rfl)
def c510:Code:=seq1 (seq2 (seq2 (seq2 (seq2 (Tryd.f125.body.getD .skip)))))
def c518:Code:=seq2 (seq2 (seq2 (seq2 (seq2 (seq2 (seq2 (seq2 (Tryd.f125.body.getD .skip))))))))
theorem fine510:fineCode Tryd.prog true LM c510:=fineCode_of callM (by kernel_rfl)
theorem own_ptrs {base:Nat}{v:Value}{l:List Nat}(h:w.ownsRow base 48 1 v l.length (l.map λb=>Pt b 0)) (h0:0<l.length):PtrRow w v l:=by
 rcases h.2 with ⟨_,h1⟩|⟨g,cap,cur,rfl,hb,hh,hle,_,hsz,htake⟩
 omega
 .refine ⟨g,cap,rfl,λk b hx=>?_⟩
  have hc:k<l.length:=(Qc hx).1;have e:(l.map λb=>Pt b 0)[k]? = some (Pt b 0):=by simp[hx]
  rw[<-htake,Nat.mul_one,List.getElem?_take_of_lt hc] at e;simp only[World.cell?,hh,Option.isSome_none,Qh,if_false];simpa using e
def ops5019:Array Oper:=opsOf (seq1 (seq2 (seq2 (seq2 (seq2 (seq2 (seq2 (seq2 (seq2 (seq2 (Tryd.f125.body.getD .skip)))))))))))
def c5020:Code:=seq2 (seq2 (seq2 (seq2 (seq2 (seq2 (seq2 (seq2 (seq2 (seq2 (Tryd.f125.body.getD .skip))))))))))
theorem back50 (tmps:Array Value) (hs:tmps.size=73) {cs:List Frame}(ho:ops[i]? = some o):
 Back Tryd.prog true (G ((base 125).at { tmps:=tmps,defers:=[] } [.inRegion ops5019 [4],.code c5020]) (bc.at ac (.inRegion ops (i :: rest) :: k) :: cs)) (G (bc.at (ac.put o.dst (.bool true)) (.inRegion ops rest :: k)) cs):=by
 intro D Stop x w hD h;rw[served_fr,Frame.finish_at];refine goesI_regionEnd hD ?_;refine goesI_seq hD ?_;refine goesI_region hD ?_;refine goesI_value (v:=λ_=>.bool true) (w':=λd=>w.at d) rfl rfl (by decide) (λd=>rfl) (λd=>by rw[listed_none rfl];exact hD _) (λd=>?_);refine GoesI.at ?_ d;refine goesI_regionEnd hD ?_;refine GoesI.ctl rfl (λ_=>stepG_ret') hD ?_;refine goesI_leave (b:=base 125) (fn:=Tryd.f125) (v:=.bool true) rfl rfl Tryd.func125 (λw=>?_) (λw=>by simp[results,go_sem]) ho hD h;rw[results_tmp (t:=2) rfl];show Result.ok (((tmps.setIfInBounds 72 x).setIfInBounds 2 (.bool true)).getD 2 undef) w=_;simp[hs]
def ScanQ (S:TS) (v:World) (a:Act) (w':World):Prop :=
 (∃ lv,(∃ u6 u8 u9 u10 u11 u12 u13 u14 u15 u16 u17 u18 u19 u20 u21 u22 u23 u24 u25 u26 u27 u28 u29 u30 u31,a={ tmps:=#[Pt S.wb 0,undef,.bool false,lv,.bool (waits2 S S.thr.length),undef,u6,undef,u8,u9,u10,u11,u12,u13,u14,u15,u16,u17,u18,u19,u20,u21,u22,u23,u24,u25,u26,u27,u28,u29,u30,u31]++Array.replicate 41 undef,defers:=[] })∧w'.ownsRow v.heap.size 48 1 lv (rdyIds S S.thr.length).length ((tbs S (rdyIds S S.thr.length)).map λb=>Pt b 0))∧v.heap.size<=w'.heap.size∧(∀ b,b<v.heap.size->w'.heap[b]? = v.heap[b]?)∧w'.os=v.os∧w'.output=v.output
theorem turn50_goes (cs:List Frame) (Hm:Goroutine->Prop) (hoc:ops[q]? = some oc)
 (hH:∀ g,Back Tryd.prog true g (G (bc.at (ac.put oc.dst (.bool true)) (.inRegion ops rest :: k)) cs)->Hm g)
 (hvw:Rel z v w) (hn:NoRow Ch v) (hm:Mem z S K v) (h8:S.thr.length<=8) (hsl:S.sched.length<=4611686018427387904) (hsc:∀ x∈S.sched,-9223372036854775808<=x∧x<9223372036854775808)
 (h0:0<(rdyIds S S.thr.length).length) (hi:(rdyIds S S.thr.length)[pickAt S (rdyIds S S.thr.length)]? = some i) (ht:S.thr[i]? = some t) (hz:z S.wb=some 8) (hcont:cont ⟨S.wb,8,none⟩=.chan (some S.bk))
 (hstop:∀ g w',Lift.AtGive Tryd.prog (KC (ScZ z) cont) (StillC (ScZ z)) 0 t.gc (.agg #[]) (some (Seat.one S.bk (.agg #[]) false Hm)) (Then z Ch S K v (going S i t) K) g w'->Stop g w') (code:Code) (hc:Tryd.f125.body=some code):
 GoesI Tryd.prog true (DT (ScZ z) Ch) Stop (G ((base 125).at { tmps:=#[Pt S.wb 0]++Array.replicate 72 undef,defers:=[] } [.code code]) (bc.at ac (.inRegion ops (q :: rest) :: k) :: cs)) w:=by
 have hw0:code=.seq c500 (.seq c501 (.seq c502 (.seq scan c504))):=by obtain rfl:=Qd hc;rfl
 subst hw0;clear hc;simp only[Sy];refine goesI_seq (dt_idle _ _) ?_;refine goesI_look hE fineM hvw hn fine500 rfl (by simp[base]) (a':={ tmps:=#[Pt S.wb 0,undef,.bool false]++Array.replicate 70 undef,defers:=[] }) (λτ=>?_) (λw hvw=>?_)
 .show Code.wp Tryd.prog (c500) _ _ _
  unfold c500 Tryd.f125 seq1;simp only[Qa,Sy];go_wp2_with fail;exact ⟨rfl,rfl,rfl⟩
 simp only[Sy];refine goesI_seq (dt_idle _ _) ?_;refine goesI_look hE fineM hvw hn fine501 rfl (by simp[base]) (a':={ tmps:=#[Pt S.wb 0,undef,.bool false,.slice none 0 0]++Array.replicate 69 undef,defers:=[] }) (λτ=>?_) (λw hvw=>?_)
 .show Code.wp Tryd.prog (c501) _ _ _
  unfold c501 Tryd.f125 seq1 seq2;simp only[Qa,Sy];go_wp2_with fail;exact ⟨rfl,rfl,rfl⟩
 simp only[Sy];refine goesI_seq (dt_idle _ _) ?_;refine goesI_look hE fineM hvw hn fine502 rfl (by simp[base]) (a':={ tmps:=#[Pt S.wb 0,undef,.bool false,.slice none 0 0,.bool false]++Array.replicate 68 undef,defers:=[] }) (λτ=>?_) (λw hvw=>?_)
 .show Code.wp Tryd.prog (c502) _ _ _
  unfold c502 Tryd.f125 seq1 seq2;simp only[Qa,Sy];go_wp2_with fail;exact ⟨rfl,rfl,rfl⟩
 simp only[Sy];refine goesI_seq (dt_idle _ _) ?_;have hscan:∀ τ,scan.wp Tryd.prog (λe a w'=>e=.normal∧ScanQ S v a w') { tmps:=#[Pt S.wb 0,undef,.bool false,.slice none 0 0,.bool false]++Array.replicate 68 undef,defers:=[] } (onTape v τ 0):=λτ=>scan_wp (hm.rep.same (v':=onTape v τ 0) rfl) h8;simp only[Sy] at hscan;refine goesI_plain (c:=scan) (z:=z) (wr:=true) (L:=LM) (I:=NoRow Ch) hE fineM noRow_keeps (λv v' w w' es hi hr ho he=>dt_of_z v v' w w' es hi hr ho he) hvw fineScan rfl (by simp[base]) hn hscan ?_;rintro a' v1 w1 ⟨⟨lv,⟨u6,u8,u9,u10,u11,u12,u13,u14,u15,u16,u17,u18,u19,u20,u21,u22,u23,u24,u25,u26,u27,u28,u29,u30,u31,rfl⟩,hown⟩,hsz,hbl,hos,hou⟩ hr1 hn1 -;have hg:Grows v v1:=⟨hsz,hbl,hos,hou⟩
 have he1:=hm.grows hg;have hlv:=own_form hown;obtain ⟨p,cap,rfl⟩:=hlv;have hc504:c504=.seq c510 (.seq pick15 (.seq last16 (.seq state17 c518))):=rfl;rw[hc504];clear hscan;refine goesI_seq (dt_idle _ _) ?_;refine goesI_look hE fineM hr1 hn1 fine510 rfl (by simp[base]) (a':={ tmps:=#[Pt S.wb 0,undef,.bool false,.slice p (rdyIds S S.thr.length).length cap,.bool (waits2 S S.thr.length),undef,u6,undef,u8,u9,u10,u11,u12,u13,u14,u15,u16,u17,u18,u19,u20,u21,u22,u23,u24,u25,u26,u27,u28,u29,u30,u31,.slice p (rdyIds S S.thr.length).length cap,I (rdyIds S S.thr.length).length,.bool false]++Array.replicate 38 undef,defers:=[] }) (λτ=>?_) (λw2 hr2=>?_)
 .have hn0:¬ (((rdyIds S S.thr.length).length:Int)=0):=by omega
  have hn0':((((rdyIds S S.thr.length).length:Int))==0)=false:=by rw[beq_eq_false_iff_ne];omega
  clear hr1 hn1 he1 hown hbl hm hH hstop hi hsc hsl h8 hos hou hsz hg;generalize (rdyIds S S.thr.length).length=nn at *;show Code.wp Tryd.prog c510 _ _ _;unfold c510 Tryd.f125 seq1 seq2;simp only[Qa,Sy];go_wp2_with fail;exact ⟨rfl,rfl,rfl⟩
 simp only[Sy];have hbs:(tbs S (rdyIds S S.thr.length)).length=(rdyIds S S.thr.length).length:=by simp[tbs]
 have hrw1:Rep z S v1:=he1.mem.rep;have hgl:∀ g,(Value.slice p (rdyIds S S.thr.length).length cap).ownBlock=some g->¬ Its S g:=λg hg' ⟨kk,hkk⟩=>by have:=(own_lt hown g hg').1;have:=hm.rep.lt hkk;omega
 have hrowp:PtrRow v1 (.slice p (rdyIds S S.thr.length).length cap) (tbs S (rdyIds S S.thr.length)):=by have h':=hown;rw[<-hbs] at h' ⊢;exact own_ptrs h' (by omega)
 have hidsp:∀ (kk ii b:Nat),(rdyIds S S.thr.length)[kk]? = some ii->(tbs S (rdyIds S S.thr.length))[kk]? = some b->∃ t,S.thr[ii]? = some t∧t.tb=b:=λkk ii b h1 h2=>by
  have hmem:ii∈rdyIds S S.thr.length:=List.mem_of_getElem? h1;simp only[rdyIds,List.mem_filter] at hmem;cases ht':S.thr[ii]? with
  |none=>rw[ht'] at hmem;simp at hmem
  |some t' =>refine ⟨t',rfl,?_⟩;simp only[tbs,List.getElem?_map,h1,Option.map_some,ht',Qa,Option.some.injEq] at h2;exact h2
 have hbi:(tbs S (rdyIds S S.thr.length))[pickAt S (rdyIds S S.thr.length)]? = some t.tb:=by simp[tbs,hi,ht]
 refine goesI_seq (dt_idle _ _) ?_;refine goesI_plain (c:=pick15) (z:=z) (wr:=true) (L:=LM) (I:=NoRow Ch) hE fineM noRow_keeps (λv v' w w' es hi hr ho he=>dt_of_z v v' w w' es hi hr ho he) hr2 fine15M rfl (by simp[base]) hn1 (Q:=λa w'=>a={ tmps:=#[Pt S.wb 0,undef,.bool false,.slice p (rdyIds S S.thr.length).length cap,.bool (waits2 S S.thr.length),undef,u6,Pt t.tb 0,u8,u9,u10,u11,u12,u13,u14,u15,u16,u17,u18,u19,u20,u21,u22,u23,u24,u25,u26,u27,u28,u29,u30,u31,.slice p (rdyIds S S.thr.length).length cap,I (rdyIds S S.thr.length).length,.bool false,undef,undef,undef,undef,undef,undef,undef,undef,undef,undef,undef,undef,undef,undef,undef,Pt S.wb 0,.slice p (rdyIds S S.thr.length).length cap,Pt t.tb 0]++Array.replicate 20 undef,defers:=[] }∧Ev z S v1 (picked S) w') (λτ=>?_) ?_
 .have HB:=(body72 (hrw1.same (v':=onTape v1 τ 0) rfl) (.slice p (rdyIds S S.thr.length).length cap) (rdyIds S S.thr.length) (tbs S (rdyIds S S.thr.length)) hrowp hgl hbs hidsp h0 (Qk (rdyIds_len S _) h8) hsl hsc).calls Tryd.func156 rfl
  have HBC:Hid (Calls Tryd.prog 156 #[Pt S.wb 0,.slice p (rdyIds S S.thr.length).length cap] (onTape v1 τ 0) (λe w'=>e=.returned (Pt t.tb 0)∧Ev z S v1 (picked S) w')):=⟨HB.mono λe w' ⟨r,h1,⟨b,h2,h3⟩,h4⟩=>⟨by rw[hbi] at h2;cases h2;rw[h1,h3],h4.base rfl rfl rfl⟩⟩
  clear HB hr1 hr2 hn1 he1 hown hbl hm hH hstop hi hsc hsl h8 hrw1 hgl hrowp hidsp hbi hbs hos hou hsz hg;generalize (rdyIds S S.thr.length).length=nn at *;show Code.wp Tryd.prog pick15 _ _ _;unfold pick15 Tryd.f125 seq1 seq2;simp only[Qa,Sy]
  go_wp2_with (go_at_call 156;refine HBC.out.mono ?_;rintro e w5 ⟨rfl,hev5⟩)
 rintro a' v2 w3 ⟨rfl,hev2⟩ hr3 hn3 -;simp only[Sy];have hthr2:(picked S).thr=S.thr:=by unfold picked;split<;>rfl
 have hwb2:(picked S).wb=S.wb:=by unfold picked;split<;>rfl
 have hrep2:Rep z (picked S) v2:=hev2.rep;have ht2:(picked S).thr[i]? = some t:=by rw[hthr2];exact ht
 have c1:v2.cell? ⟨t.tb,1,none⟩=some (I i):=(hrep2.cell ht2).2.1;have c2:v2.cell? ⟨S.wb,2,none⟩=some (I (picked S).la):=by rw[<-hwb2];exact hrep2.wcell.2.2.1
 have f2:v2.frozen? ⟨S.wb,2,none⟩=false:=by rw[<-hwb2];exact fz_off hrep2 2 (by omega)
 have hev3:Ev z (picked S) v2 { (picked S) with la:=i } (v2.setCell ⟨S.wb,2,none⟩ (I i)):=by have:=world_set hrep2 (picked S).us i (picked S).stk 2 (I i) (by simp);rw[<-hwb2];exact this
 refine goesI_seq (dt_idle _ _) ?_;refine goesI_plain (c:=last16) (z:=z) (wr:=true) (L:=LM) (I:=NoRow Ch) hE fineM noRow_keeps (λv v' w w' es hi hr ho he=>dt_of_z v v' w w' es hi hr ho he) hr3 fine16M rfl (by simp[base]) hn3 (Q:=λa w'=>a={ tmps:=#[Pt S.wb 0,undef,.bool false,.slice p (rdyIds S S.thr.length).length cap,.bool (waits2 S S.thr.length),undef,u6,Pt t.tb 0,u8,u9,u10,u11,u12,u13,u14,u15,u16,u17,u18,u19,u20,u21,u22,u23,u24,u25,u26,u27,u28,u29,u30,u31,.slice p (rdyIds S S.thr.length).length cap,I (rdyIds S S.thr.length).length,.bool false,undef,undef,undef,undef,undef,undef,undef,undef,undef,undef,undef,undef,undef,undef,undef,Pt S.wb 0,.slice p (rdyIds S S.thr.length).length cap,Pt t.tb 0,Pt S.wb 0,Pt t.tb 0,Pt t.tb 0,Pt t.tb 1,I i,Pt S.wb 0,Pt S.wb 2]++Array.replicate 13 undef,defers:=[] }∧w'.heap=(v2.setCell ⟨S.wb,2,none⟩ (I i)).heap∧w'.os=v2.os∧w'.output=v2.output) (λτ=>?_) ?_
 .have c1':(onTape v2 τ 0).cell? ⟨t.tb,1,none⟩=some (I i):=c1
  have c2':(onTape v2 τ 0).cell? ⟨S.wb,2,none⟩=some (I (picked S).la):=c2;have f2':(onTape v2 τ 0).frozen? ⟨S.wb,2,none⟩=false:=f2;clear hr1 hr2 hr3 hn1 hn3 he1 hown hbl hm hH hstop hi hsc hsl h8 hrw1 hgl hrowp hidsp hbi hbs hos hou hsz hg hev2 hev3 hrep2 ht2 c1 c2 f2 hthr2 hwb2;generalize (rdyIds S S.thr.length).length=nn at *;show Code.wp Tryd.prog last16 _ _ _;unfold last16 Tryd.f125 seq1 seq2;simp only[Qa,Sy];go_wp2_with fail;exact ⟨rfl,rfl,rfl⟩
 rintro a' v3 w4 ⟨rfl,q1,q2,q3⟩ hr4 hn4 -;simp only[Sy];have hev3':Ev z (picked S) v2 { (picked S) with la:=i } v3:=hev3.same q1 q2 q3;have hrep3:=hev3'.rep;have ht3:({ (picked S) with la:=i }:TS).thr[i]? = some t:=ht2;have d3:v3.cell? ⟨t.tb,3,none⟩=some (I t.st):=(hrep3.cell ht3).2.2.2.1;have g3:v3.frozen? ⟨t.tb,3,none⟩=false:=fzT_off hrep3 ht3 3 (by omega);have hev4:Ev z { (picked S) with la:=i } v3 (going S i t) (v3.setCell ⟨t.tb,3,none⟩ (I 0)):=by refine thr_ev hrep3 ht3 { t with st:=0 } rfl (λb hb=>Below.heap_setCell _ _ _ _ hb) ?_ (by simp[World.setCell]) rfl rfl;have:=heap_setCell_same (o:=3) (hrep3.thr i t ht3) (I 0);simpa using this
 refine goesI_seq (dt_idle _ _) ?_;refine goesI_plain (c:=state17) (z:=z) (wr:=true) (L:=LM) (I:=NoRow Ch) hE fineM noRow_keeps (λv v' w w' es hi hr ho he=>dt_of_z v v' w w' es hi hr ho he) hr4 fine17M rfl (by simp[base]) hn4 (Q:=λa w'=>a={ tmps:=#[Pt S.wb 0,undef,.bool false,.slice p (rdyIds S S.thr.length).length cap,.bool (waits2 S S.thr.length),undef,u6,Pt t.tb 0,u8,u9,u10,u11,u12,u13,u14,u15,u16,u17,u18,u19,u20,u21,u22,u23,u24,u25,u26,u27,u28,u29,u30,u31,.slice p (rdyIds S S.thr.length).length cap,I (rdyIds S S.thr.length).length,.bool false,undef,undef,undef,undef,undef,undef,undef,undef,undef,undef,undef,undef,undef,undef,undef,Pt S.wb 0,.slice p (rdyIds S S.thr.length).length cap,Pt t.tb 0,Pt S.wb 0,Pt t.tb 0,Pt t.tb 0,Pt t.tb 1,I i,Pt S.wb 0,Pt S.wb 2,Pt t.tb 0,Pt t.tb 0,Pt t.tb 3]++Array.replicate 10 undef,defers:=[] }∧w'.heap=(v3.setCell ⟨t.tb,3,none⟩ (I 0)).heap∧w'.os=v3.os∧w'.output=v3.output) (λτ=>?_) ?_
 .have d3':(onTape v3 τ 0).cell? ⟨t.tb,3,none⟩=some (I t.st):=d3
  have g3':(onTape v3 τ 0).frozen? ⟨t.tb,3,none⟩=false:=g3;clear hr1 hr2 hr3 hr4 hn1 hn3 hn4 he1 hown hbl hm hH hstop hi hsc hsl h8 hrw1 hgl hrowp hidsp hbi hbs hos hou hsz hg hev2 hev3 hev3' hev4 hrep2 hrep3 ht2 ht3 c1 c2 f2 hthr2 hwb2 d3 g3 q1 q2 q3;generalize (rdyIds S S.thr.length).length=nn at *;show Code.wp Tryd.prog state17 _ _ _;unfold state17 Tryd.f125 seq1 seq2;simp only[Qa,Sy];go_wp2_with fail;exact ⟨rfl,rfl,rfl⟩
 rintro a' v4 w5 ⟨rfl,q4,q5,q6⟩ hr5 hn5 -;simp only[Sy];have hevo:Evo z S K v (going S i t) K v4:=by have e4:Ev z S v1 (going S i t) v4:=hev2.trans (hev3'.trans (hev4.same q4 q5 q6));refine he1.trans (Evo.of_ev he1.mem e4 ?_);unfold going picked;split<;>rfl
 have c2g:w5.cell? ⟨t.tb,2,none⟩=some (.chan (some t.gc)):=by
  rw[hr5.cell?];have hti:(going S i t).thr[i]? = some { t with st:=0 }:=by unfold going;have:i<(picked S).thr.length:=(Qc ht2).1;simp[this]
  exact (hevo.mem.rep.cell hti).2.2.1
 have hwbl:S.wb<w5.heap.size:=by rw[hr5.size,<-hwb2];exact (Qb hevo.mem.rep.wor).1
 have HF:Hid (Then z Ch S K v (going S i t) K w5):=⟨⟨v4,hr5,hn5,hevo⟩⟩
 clear hr1 hr2 hr3 hr4 hr5 hn1 hn3 hn4 hn5 he1 hown hbl hm hi hsc hsl h8 hrw1 hgl hrowp hidsp hbi hbs hos hou hsz hg hev2 hev3 hev3' hev4 hrep2 hrep3 ht2 ht3 c1 c2 f2 hthr2 hwb2 d3 g3 q1 q2 q3 q4 q5 q6 hevo h0;generalize (rdyIds S S.thr.length).length=nn;show GoesI Tryd.prog true (DT (ScZ z) Ch) Stop (G ((base 125).at _ [.code (seq2 (seq2 (seq2 (seq2 (seq2 (seq2 (seq2 (seq2 (Tryd.f125.body.getD .skip)))))))))]) _) w5;unfold Tryd.f125 seq2;simp only[Qa];refine goesI_seq (dt_idle _ _) ?_;refine goesI_region (dt_idle _ _) ?_;simp only[Sz,Sr,Nat.reduceAdd];iterate 5
  (refine goesI_oper rfl rfl (by decide) (λd K hK=>?_)
   go_simp;refine hK _ _ ⟨dt_reads (λe he=>?_),GoesI.at ?_ d⟩
   .have hm:=mem_listed he
    simp[go_sem, *] at hm
    try exact ⟨_,_,hm⟩
   clear hK K)
 refine GoesI.stop λd=>hstop _ _ (give_at (h:=0) (z':=.tuple #[]) 8 (S.wb+1) rfl rfl (by decide) (λw=>by simp[execOp,scase,Act.eval]) (λw=>by simp[go_sem,execOp,Act.eval]) ?_ (Nat.succ_le_of_lt hwbl) (λB hB T hT=>?_))
 .obtain ⟨v',k1,k2⟩:=HF.out
  exact ⟨v',k1.re rfl rfl rfl rfl rfl rfl,k2⟩
 .clear HF hstop c2g
  refine .inl ⟨7,w5,rfl,?_⟩;rw[served_fr,Frame.finish_at]
  k_c stepG_region_end
  k_c stepG_seq
  k_reg
  iterate 3
   (k_in
    refine goes_oper_k rfl rfl (by decide) (λK hK=>?_);go_simp;refine hK _ _ ⟨⟨rfl,λe he=>by (have hm:=mem_listed he;simp[go_sem, *] at hm)⟩,?_⟩;clear hK K)
  k_in
  have q2:=h₁ ⟨S.wb,8,none⟩ ⟨rfl,hz⟩;rw[hcont] at q2;refine goes_oper_k rfl rfl (by decide) (λK hK=>?_);go_simp;refine hK _ _ ⟨⟨rfl,λe he=>by (have hm:=mem_listed he;simp[go_sem, *] at hm;subst hm;exact evC_read _ ⟨_,rfl,rfl,hz⟩ (by simp;omega))⟩,?_⟩;clear hK K;refine Goes.stop λw₂ h₂=>⟨_,atIn_of (s:=Seat.one S.bk (.agg #[]) false Hm) rfl rfl (by decide) (λw=>?_) (λw=>?_) (hH _ (back50 _ rfl hoc))⟩
  .simp[go_sem,execOp,rcase,Act.eval,Seat.one]
  .simp[go_sem,execOp,Act.eval]
theorem ev_nil (w:World):(binOp .neq 20 .nilIface .nilIface).events Tryd.prog w #[]=#[]:=by show Sem.events Tryd.prog (do pure (Value.bool (!(<-Op.equalIn (9999+1) 20 .nilIface .nilIface)))) w #[]=#[];unfold Op.equalIn;simp[go_sem]
def ended (S:TS) (i:Nat) (t:Thr):TS:={ S with thr:=S.thr.set i { t with st:=3 } }
theorem end_ev (h:Rep z S v) (ht:S.thr[i]? = some t):Ev z S v (ended S i t) (v.setCell ⟨t.tb,3,none⟩ (I 3)):=by refine thr_ev h ht { t with st:=3 } rfl (λb hb=>Below.heap_setCell _ _ _ _ hb) ?_ (by simp[World.setCell]) rfl rfl;have:=heap_setCell_same (o:=3) (h.thr i t ht) (I 3);simpa using this
def GiveE (z:Nat->Option Nat) (cont:Addr->Value) (h bk:Nat) (F:World->Prop):Goroutine->World->Prop:=Lift.AtGive Tryd.prog (KC (ScZ z) cont) (StillC (ScZ z)) h bk (.agg #[]) none F
theorem ends_goes {h:Nat}(bb:Nat) (T:Array Value) (todo:List Item) (hh:0<h)
 (hvw:Rel z v w) (hn:NoRow Ch v) (hm:Mem z S K v) (ht:S.thr[i]? = some t) (hbb:v.cell? ⟨bb,0,none⟩=some (Pt t.tb 0)) (hbo:¬ Own S K bb)
 (hstop:∀ g w',GiveE z cont h S.bk (Then z Ch S K v (ended S i t) K) g w'->Stop g w'):
 GoesI Tryd.prog (h==0) (DT (ScZ z) Ch) Stop (G { (baseD 124).at ⟨T,[dclo 154 #[Pt bb 0]]⟩ todo with mode:=.returning } [botP Tryd.prog]) w:=by
 have hi:i<S.thr.length:=(Qc ht).1;have hne:t.tb≠bb:=λe=>hbo (.inl ⟨i+5,by simp[blk,ht,e]⟩);have e0:w.cell? ⟨bb,0,none⟩=some (Pt t.tb 0):=by rw[hvw.cell?];exact hbb
 have c3:v.cell? ⟨t.tb,3,none⟩=some (I t.st):=(hm.rep.cell ht).2.2.2.1;have f3:v.frozen? ⟨t.tb,3,none⟩=false:=fzT_off hm.rep ht 3 (by omega);have HM:Hid (Mem z S K v):=⟨hm⟩
 have HE:Hid (Evo z S K v (ended S i t) K (v.setCell ⟨t.tb,3,none⟩ (I 3))):=⟨Evo.of_ev hm (end_ev hm.rep ht) rfl⟩
 clear hm;refine goesI_unwind_clo (dt_idle _ _) rfl Tryd.func154 (by kernel_rfl) rfl ?_;simp only[Tryd.ntmps154,Sz,Nat.reduceAdd,Nat.reduceSub,Sy];refine goesI_seq (dt_idle _ _) ?_;refine goesI_seq (dt_idle _ _) ?_;refine goesI_region (dt_idle _ _) ?_;simp only[Sz,Sr,Nat.reduceAdd];refine goesI_recover_none (dt_idle _ _) rfl rfl rfl rfl (λw=>by go_simp) (λw=>by simp[go_sem,execOp,resolve,invoke,builtin]) ?_
 (refine goesI_oper rfl rfl (by decide) (λd K hK=>?_)
  go_simp;refine hK _ _ ⟨dt_reads (λe he=>?_),GoesI.at ?_ d⟩
  .have hm:=mem_listed he
   simp[go_sem,ev_nil, *] at hm
  clear hK K)
 refine goesI_regionEnd (dt_idle _ _) ?_;refine goesI_cond (dt_idle _ _) (t:=false) rfl ?_;simp only[if_true,if_false,Qh];refine goesI_skip (dt_idle _ _) ?_;refine goesI_seq (dt_idle _ _) ?_;refine goesI_region (dt_idle _ _) ?_;simp only[Sz,Sr,Nat.reduceAdd];iterate 3
  (refine goesI_oper rfl rfl (by decide) (λd K hK=>?_)
   go_simp;refine hK _ _ ⟨dt_reads (λe he=>?_),GoesI.at ?_ d⟩
   .have hm:=mem_listed he
    simp[go_sem, *] at hm
    try exact ⟨_,_,hm⟩
   clear hK K)
 refine goesI_doZ (L:=LT) rfl rfl (by decide) (fineOp_ask callT extT (by kernel_rfl)) hvw hn (v':=v.setCell ⟨t.tb,3,none⟩ (I 3)) (by go_simp) rfl (λw2 hr2 hn2=>?_);clear e0;have ht2:(ended S i t).thr[i]? = some { t with st:=3 }:=by simp[ended,hi]
 have e0:w2.cell? ⟨bb,0,none⟩=some (Pt t.tb 0):=by rw[hr2.cell?,World.cell?_setCell_far _ _ _ _ hne];exact hbb
 have e1:w2.cell? ⟨t.tb,0,none⟩=some (Pt S.wb 0):=by rw[hr2.cell?];exact (HE.out.mem.rep.cell ht2).1
 have e8:w2.cell? ⟨S.wb,8,none⟩=some (.chan (some S.bk)):=by rw[hr2.cell?];exact HE.out.mem.rep.wcell.2.2.2.2.2.2.2.2
 clear ht2;refine goesI_regionEnd (dt_idle _ _) ?_;refine goesI_region (dt_idle _ _) ?_;simp only[Sz,Sr,Nat.reduceAdd];iterate 8
  (refine goesI_oper rfl rfl (by decide) (λd K hK=>?_)
   go_simp;refine hK _ _ ⟨dt_reads (λe he=>?_),GoesI.at ?_ d⟩
   .have hm:=mem_listed he
    simp[go_sem, *] at hm
    try exact ⟨_,_,hm⟩
   clear hK K)
 refine GoesI.stop λd=>hstop _ _ (give_at (z':=.tuple #[]) 5 0 rfl rfl (by decide) (λw=>by simp[execOp,scase,Act.eval]) (λw=>by simp[go_sem,execOp,Act.eval]) ?_ (Nat.zero_le _) (λB hB T hT=>⟨hh,?_⟩));exact ⟨_,hr2.re rfl rfl rfl rfl rfl rfl,hn2,HE.out⟩
 .rw[hT,served_fr,Frame.finish_at]
  refine QuitsD.ctl rfl (λw=>stepG_region_end) ?_;refine QuitsD.ctl rfl (λw=>stepG_end) ?_;refine QuitsD.leaveD rfl ?_ Tryd.func154 rfl rfl ?_
  .show (Act.put _ _ _).defers=[]
   unfold Act.put;split<;>rfl
  exact quits_last _ _ Tryd.func124 rfl
def run0:Code:=seq1 (Tryd.f124.body.getD .skip)
theorem fineRun0:fineCode Tryd.prog true LT run0:=fineCode_ask callT extT (by kernel_rfl)
def ops492:Array Oper:=opsOf (seq2 (seq2 (Tryd.f124.body.getD .skip)))
def lifeAct (tb bb:Nat) (F:Value):Act:=⟨#[Pt tb 0,F,Pt bb 0,undef,.func (.func 154) #[] #[Pt bb 0],F,Pt tb 0,undef],[dclo 154 #[Pt bb 0]]⟩
def lifeFr (tb bb:Nat) (F:Value):Frame:=(baseD 124).at (lifeAct tb bb F) [.inRegion ops492 [2]]
theorem run_goes {z : Nat → Option Nat} {Ch : Nat → Prop} {Stop : Goroutine → World → Prop} {main : Bool} (tb : Nat) (f : FuncId) (fn : Func) (cap : Array Value) (hf : Tryd.prog.funcs[f]? = some fn) (hname : (fn.name == "runtime.NumGoroutine") = false) (cf : Code) (hcf : fn.body = some cf)
 (hvw:Rel z v w) (hn:NoRow Ch v)
 (hk:∀ v' w',Rel z v' w'->NoRow Ch v'->Grows v v'->v'.heap[v.heap.size]? = some (.cells #[Pt tb 0] 48 (0,0))->v'.heap.size=v.heap.size+1 ->
   GoesI Tryd.prog main (DT (ScZ z) Ch) Stop (G ((base f).at { tmps:=(#[Pt tb 0]++cap)++Array.replicate (fn.ntmps - (#[Pt tb 0]++cap).size) undef,defers:=[] } [.code cf]) [lifeFr tb v.heap.size (.func (.func f) #[] cap),botP Tryd.prog]) w')
 (code:Code) (hc:Tryd.f124.body=some code):
 GoesI Tryd.prog main (DT (ScZ z) Ch) Stop (G ((baseD 124).at { tmps:=#[Pt tb 0,.func (.func f) #[] cap]++Array.replicate 6 undef,defers:=[] } [.code code]) [botP Tryd.prog]) w:=by
 have h1 : ¬ fn.name = "runtime.NumGoroutine" := by simpa using hname
 have hw0:code=.seq run0 (seq2 (Tryd.f124.body.getD .skip)):=by rw[hc];obtain rfl:=Qd hc;rfl
 subst hw0;clear hc;refine goesI_seq (dt_idle _ _) ?_;refine goesI_plain (z:=z) (wr:=true) (L:=LT) (I:=NoRow Ch) hE fineT noRow_keeps (λv v' w w' es hi hr ho he=>dt_of_z v v' w w' es hi hr ho he) hvw fineRun0 rfl (by simp[baseD]) hn
  (Q:=λa w'=>a={ tmps:=#[Pt tb 0,.func (.func f) #[] cap,Pt v.heap.size 0]++Array.replicate 5 undef,defers:=[] } ∧
    w'.heap=v.heap.push (.cells #[Pt tb 0] 48)∧w'.os=v.os∧w'.output=v.output) (λτ=>?_) ?_
 .show Code.wp Tryd.prog (seq1 (Tryd.f124.body.getD .skip)) _ _ _
  unfold Tryd.f124 seq1;simp only[Qa,Sy];go_wp2_with fail;exact ⟨rfl,rfl,rfl,rfl⟩
 rintro a' v' w' ⟨rfl,hv1,hv2,hv3⟩ hr' hn' -;have hsz:v'.heap.size=v.heap.size+1:=by rw[hv1];simp
 have hg:Grows v v':=⟨by omega,λb hb=>by rw[hv1,Qg,if_neg (by omega)],hv2,hv3⟩
 have hbox:v'.heap[v.heap.size]? = some (.cells #[Pt tb 0] 48):=by rw[hv1];exact Qo
 have e0:w'.cell? ⟨v.heap.size,0,none⟩=some (Pt tb 0):=by rw[hr'.cell?];simp[World.cell?,hbox]
 have HK:Hid (GoesI Tryd.prog main (DT (ScZ z) Ch) Stop (G ((base f).at { tmps:=(#[Pt tb 0]++cap)++Array.replicate (fn.ntmps - (#[Pt tb 0]++cap).size) undef,defers:=[] } [.code cf]) [lifeFr tb v.heap.size (.func (.func f) #[] cap),botP Tryd.prog]) w'):=⟨hk v' w' hr' hn' hg hbox hsz⟩
 clear hk hv1 hv2 hv3 hsz hg hbox hn' hr' hvw hn;generalize v.heap.size=N at e0 HK ⊢;simp only[Sy];show GoesI Tryd.prog main (DT (ScZ z) Ch) Stop (G ((baseD 124).at _ [.code (seq2 (Tryd.f124.body.getD .skip))]) _) w';unfold Tryd.f124 seq2;simp only[Qa];refine goesI_seq (dt_idle _ _) ?_;refine goesI_region (dt_idle _ _) ?_;simp only[Sz,Sr,Nat.reduceAdd]
 (refine goesI_oper rfl rfl (by decide) (λd K hK=>?_)
  go_simp;refine hK _ _ ⟨dt_reads (λe he=>?_),GoesI.at ?_ d⟩
  .have hm:=mem_listed he
   simp[go_sem, *] at hm
  clear hK K)
 refine goesI_deferV (d:=dclo 154 #[Pt N 0]) (dt_idle _ _) rfl rfl (by decide) (λw=>by simp[execOp,resolve,Deferred.ofValue,Act.eval,dclo]) (λw=>by simp[go_sem,execOp,resolve,Deferred.ofValue,Act.eval]) ?_;refine goesI_regionEnd (dt_idle _ _) ?_;refine goesI_region (dt_idle _ _) ?_;simp only[Sz,Sr,Nat.reduceAdd];iterate 2
  (refine goesI_oper rfl rfl (by decide) (λd K hK=>?_)
   go_simp;refine hK _ _ ⟨dt_reads (λe he=>?_),GoesI.at ?_ d⟩
   .have hm:=mem_listed he
    simp[go_sem, *] at hm
    try exact ⟨_,_,hm⟩
   clear hK K)
 refine goesI_enter (f:=f) (args:=#[Pt tb 0]++cap) rfl rfl (by decide) (λw=>?_) (λw=>?_) (dt_idle _ _) hf hcf ?_;simp[execOp,resolve,Deferred.ofValue,Act.eval,invoke,callFunc,hf,h1,hcf]
 .refine listed_none ?_
  simp[go_sem,execOp,resolve,Deferred.ofValue,Act.eval,invoke,callFunc,hf,h1,hcf]
 exact HK.out
theorem dst492:ops492[2]? = some (ops492.getD 2 default):=by kernel_rfl
theorem life_tail {h:Nat}(bb:Nat) (F:Value) (hh:0<h)
 (hvw:Rel z v w) (hn:NoRow Ch v) (hm:Mem z S K v) (ht:S.thr[i]? = some t) (hbb:v.cell? ⟨bb,0,none⟩=some (Pt t.tb 0)) (hbo:¬ Own S K bb)
 (hstop:∀ g w',GiveE z cont h S.bk (Then z Ch S K v (ended S i t) K) g w'->Stop g w'):
 GoesI Tryd.prog (h==0) (DT (ScZ z) Ch) Stop (G ((baseD 124).at ((lifeAct t.tb bb F).put (ops492.getD 2 default).dst (.tuple #[])) [.inRegion ops492 []]) [botP Tryd.prog]) w:=by
 refine goesI_regionEnd (dt_idle _ _) ?_;refine goesI_end (dt_idle _ _) ?_;have e:(ops492.getD 2 default).dst=some 7:=by kernel_rfl
 rw[e];exact ends_goes bb _ [] hh hvw hn hm ht hbb hbo hstop
def ops33:Array Oper:=opsOf (Tryd.f93.body.getD .skip)
def val33 (csl F rsl asl:Value) (tb rb ix:Nat):Nat->Value
 |0=>Pt tb 0
 |1=>csl
 |2=>F
 |3=>rsl
 |4=>I ix
 |5=>Pt rb ix
 |6=>asl
 |_=>undef
theorem lead33:leadsOn .any ops33 7=true:=by kernel_rfl
theorem text33:inText .any ops33 7=true:=by kernel_rfl
theorem fineOps33 (i:Nat) (hi:i<7) (o:Oper) (ho:ops33[i]? = some o):fineOp Tryd.prog true LT o:=by
 have h:((ops33.extract 0 7).all λo=>plainOp Tryd.prog true o.op||askCall plainFs plainXs o.op)=true:=by kernel_rfl
 refine fineOp_ask callT extT ((Array.all_eq_true_iff_forall_mem.1 h) o ?_);have:(ops33.extract 0 7)[i]? = some o:=by have hs:=(Qb ho).1;rw[Array.getElem?_extract,if_pos (by omega)];simpa using ho
 exact Array.mem_of_getElem? this
theorem rest33 (t:Nat):Region.linearise.go .any ops33 (ops33.size - 7) t (listedN ops33.size 7) []=[7]:=by
 have e1:((List.range ops33.size).filter λi=>!(listedN ops33.size 7).getD i true&&((ops33[i]?).map (·.after.all λe=>!Region.binds .any e||(listedN ops33.size 7).getD e.on false)).getD false)=[7]:=by kernel_rfl
 have e0:ops33.size - 7=1:=by kernel_rfl
 rw[e0];unfold Region.linearise.go;simp only[e1,List.length_cons,List.length_nil,Nat.zero_add,Nat.mod_one,List.getElem?_cons_zero];rfl
theorem dst33 (i:Nat) (hi:i<7) (o:Oper) (ho:ops33[i]? = some o):o.dst=some (6+i):=by
 have h:((List.range 7).all λi=>(ops33[i]?).map (·.dst)==some (some (6+i)))=true:=by kernel_rfl
 have:=(List.all_eq_true.1 h) i (by simpa using hi);rw[ho] at this;simpa using this
theorem guard33 (i:Nat) (hi:i<8) (o:Oper) (ho:ops33[i]? = some o):o.guard=none:=by
 have h:((List.range 8).all λi=>((ops33[i]?).map (·.guard.isNone))==some true)=true:=by kernel_rfl
 have:=(List.all_eq_true.1 h) i (by simpa using hi);rw[ho] at this;simpa using this
theorem op33 {p:Op}(h:(ops33[i]?).map (·.op)=some p) (ho:ops33[i]? = some o):o.op=p:=by rw[ho] at h;exact Qd h
theorem after33 {j:Nat}(h:((ops33[i]?).map (λo=>o.after.toList.any λe=>e.on==j&&Region.binds .any e))=some true) (ho:ops33[i]? = some o) {l:Array Bool}(hd:∀ e∈o.after.toList,Region.binds .any e=true->l.getD e.on false=true):l.getD j false=true:=by rw[ho] at h;simp only[Option.map_some,Option.some.injEq,List.any_eq_true,Bool.and_eq_true,beq_iff_eq] at h;obtain ⟨e,he,rfl,hb⟩:=h;exact hd e he hb
theorem body33_goes {main:Bool}{tb p1 p2 p3 p4:Nat}(csl F asl:Value) (rb m cap ix:Nat) (hix:ix<m)
 (h1:v.cell? ⟨p1,0,none⟩=some csl) (h2:v.cell? ⟨p2,0,none⟩=some F) (h3:v.cell? ⟨p3,0,none⟩=some (.slice (some ⟨rb,0,none⟩) m cap)) (h4:v.cell? ⟨p4,0,none⟩=some (I ix)) (h5:v.cell? ⟨rb,ix,none⟩=some asl) (cs:List Frame) (hoc:ops[q]? = some oc)
 (hvw:Rel z v w) (hn:NoRow Ch v)
 (hk:∀ w' (bd:Frame) (ad:Act) (od:Array Oper) (qd:Nat) (rd:List Nat) (oe:Oper) (kd:List Item),Rel z v w'->od[qd]? = some oe ->
   (∀ (z:Nat->Option Nat) (Ch:Nat->Prop) (Stop:Goroutine->World->Prop) (w:World),GoesI Tryd.prog main (DT (ScZ z) Ch) Stop (G (bc.at (ac.put oc.dst (.tuple #[])) (.inRegion ops rest :: k)) cs) w->GoesI Tryd.prog main (DT (ScZ z) Ch) Stop (G (bd.at (ad.put oe.dst (.tuple #[])) (.inRegion od rd :: kd)) (bc.at ac (.inRegion ops (q :: rest) :: k) :: cs)) w)->∀ code,Tryd.f94.body=some code ->
   GoesI Tryd.prog main (DT (ScZ z) Ch) Stop (G ((base 94).at { tmps:=#[Pt tb 0,csl,F,asl]++Array.replicate 44 undef,defers:=[] } [.code code]) (bd.at ad (.inRegion od (qd :: rd):: kd):: bc.at ac (.inRegion ops (q :: rest):: k):: cs)) w') (code:Code) (hc:Tryd.f93.body=some code):
 GoesI Tryd.prog main (DT (ScZ z) Ch) Stop (G ((base 93).at { tmps:=#[Pt tb 0,Pt p1 0,Pt p2 0,Pt p3 0,Pt p4 0]++Array.replicate 9 undef,defers:=[] } [.code code]) (bc.at ac (.inRegion ops (q :: rest) :: k) :: cs)) w:=by
 have hc0:code=.region 0 ops33 true:=by have:Tryd.f93.body=some (.region 0 ops33 true):=rfl;rw[this] at hc;exact (Qd hc).symm
 subst hc0;clear hc;simp only[Sy];refine goesI_region_quiet (n:=7) (val:=val33 csl F (.slice (some ⟨rb,0,none⟩) m cap) asl tb rb ix) (J:=λw=>Rel z v w) mix21 (λw d hJ=>hJ.re rfl rfl rfl rfl rfl rfl) (λw=>dt_draw _ _ w) lead33 text33 (on:=ops33[7]'(by decide)) rfl ?_ ?_ ?_
  { tmps:=#[Pt tb 0,Pt p1 0,Pt p2 0,Pt p3 0,Pt p4 0,undef,Pt tb 0,csl,F,.slice (some ⟨rb,0,none⟩) m cap,I ix,Pt rb ix,asl,undef],defers:=[] } ?_ ?_ hvw
 .intro i1 j1 oi oj t1 h1 h2 h3 h4 h5 h6
  rw[dst33 i1 h1 oi h3] at h5;rw[dst33 j1 h2 oj h4] at h6;have:=Qd (h5.trans h6.symm);omega
 .intro i1 o1 t1 h1 h2 h3
  rw[dst33 i1 h1 o1 h2] at h3;have:=Qd h3;subst this;show (6+i1:Nat)<14;omega
 .intro i' o rest' listed a w1 hi ho hdep hagr hJ hgo
  have ev:∀ j,j<7->listed.getD j false=true->a.eval (.tmp (6+j))=val33 csl F (.slice (some ⟨rb,0,none⟩) m cap) asl tb rb ix j:=λj hj hl =>hagr.eval hj (o:=ops33[j]'(by have:ops33.size=8:=rfl;omega)) (Qm _) hl (dst33 j hj _ (Qm _))
  have ev0:∀ t':Nat,t'<6->a.eval (.tmp t')=_:=λt' ht'=>hagr.eval0 (t:=t') (λj o hj ho e=>by rw[dst33 j hj o ho] at e;have:(6+j:Nat)=t':=Qd e;omega)
  have e0:a.eval (.tmp 0)=Pt tb 0:=ev0 0 (by omega);have e1:a.eval (.tmp 1)=Pt p1 0:=ev0 1 (by omega);have e2:a.eval (.tmp 2)=Pt p2 0:=ev0 2 (by omega);have e3:a.eval (.tmp 3)=Pt p3 0:=ev0 3 (by omega);have e4:a.eval (.tmp 4)=Pt p4 0:=ev0 4 (by omega);have hw:Region.wanted o (yielded ops33 a.tmps)=true:=by simp[Region.wanted,guard33 i' (by omega) o ho]
  have hrun:(execOp a.eval o).run Tryd.prog v=.ok (.value (val33 csl F (.slice (some ⟨rb,0,none⟩) m cap) asl tb rb ix i')) v:=by
   have hjl:(ix:Int)<(m:Int):=by omega
   match i',hi,ho with
   |0,_,ho=>have hop:=op33 (p:=.move (.tmp 0)) rfl ho;unfold execOp;rw[hop];simp only[e0];simp[go_sem,val33]
   |1,_,ho=>have hop:=op33 (p:=.load 33 (.tmp 1)) rfl ho;unfold execOp;rw[hop];simp only[e1];simp[go_sem,h1,val33]
   |2,_,ho=>have hop:=op33 (p:=.load 101 (.tmp 2)) rfl ho;unfold execOp;rw[hop];simp only[e2];simp[go_sem,h2,val33]
   |3,_,ho=>have hop:=op33 (p:=.load 27 (.tmp 3)) rfl ho;unfold execOp;rw[hop];simp only[e3];simp[go_sem,h3,val33]
   |4,_,ho=>have hop:=op33 (p:=.load 3 (.tmp 4)) rfl ho;unfold execOp;rw[hop];simp only[e4];simp[go_sem,h4,val33]
   |5,_,ho=>have hop:=op33 (p:=.indexAddr 27 (.tmp 9) (.tmp 10)) rfl ho;have l:a.eval (.tmp 9)=.slice (some ⟨rb,0,none⟩) m cap:=ev 3 (by omega) (after33 (by kernel_rfl) ho hdep);have l':a.eval (.tmp 10)=I ix:=ev 4 (by omega) (after33 (by kernel_rfl) ho hdep);unfold execOp;rw[hop];simp only[l,l'];simp[go_sem,val33,hjl]
   |6,_,ho=>have hop:=op33 (p:=.load 31 (.tmp 11)) rfl ho;have l:a.eval (.tmp 11)=Pt rb ix:=ev 5 (by omega) (after33 (by kernel_rfl) ho hdep);unfold execOp;rw[hop];simp only[l];simp[go_sem,h5,val33]
  exact goesI_opZ ho hw (by simp[base]) (fineOps33 i' hi o ho) hJ hn hrun rfl (λw2 hr2 _=>hgo w2 hr2)
 .refine ⟨rfl,rfl,λj o t' hj ho _ hd=>?_,λt' hne=>?_⟩
  .rw[dst33 j hj o ho] at hd
   have:(6+j:Nat)=t':=Qd hd;subst this
   match j,hj with
   |0,_=>rfl
   |1,_=>rfl
   |2,_=>rfl
   |3,_=>rfl
   |4,_=>rfl
   |5,_=>rfl
   |6,_=>rfl
  .have hcase:∀ m:Nat,m<7->t'≠6+m:=λm hm e=>by
    have hs:m<ops33.size:=by have:ops33.size=8:=rfl;omega
    refine hne m (ops33[m]'hs) hm (Qm hs) ?_ ((dst33 m hm _ (Qm hs)).trans (by rw[e]));rw[Qe,listedN_get hs];simp[hm]
   match t',hcase with
   |0,_=>rfl
   |1,_=>rfl
   |2,_=>rfl
   |3,_=>rfl
   |4,_=>rfl
   |5,_=>rfl
   |6,h=>exact absurd rfl (h 0 (by omega))
   |7,h=>exact absurd rfl (h 1 (by omega))
   |8,h=>exact absurd rfl (h 2 (by omega))
   |9,h=>exact absurd rfl (h 3 (by omega))
   |10,h=>exact absurd rfl (h 4 (by omega))
   |11,h=>exact absurd rfl (h 5 (by omega))
   |12,h=>exact absurd rfl (h 6 (by omega))
   |13,_=>rfl
   |m+14,_=>rfl
 .intro tt w1 hJ
  rw[rest33];refine goesI_into (f:=94) (fn:=Tryd.f94) (args:=#[Pt tb 0,csl,F,asl]) (dt_idle _ _) (o:=ops33[7]'(by decide)) rfl rfl (by decide) rfl (by simp[Act.eval]) Tryd.func94 (by decide) rfl ?_;refine hk w1 _ _ _ _ _ _ _ hJ rfl (λz Ch Stop w hg=>?_) _ rfl;refine goesI_regionEnd (dt_idle _ _) ?_;refine goesI_end (dt_idle _ _) ?_;refine goesI_leave (b:=base 93) (fn:=Tryd.f93) rfl ?_ Tryd.func93 (λw=>results_none rfl _ _ _) (λw=>by simp[results,go_sem]) hoc (dt_idle _ _) hg;show (Act.put _ _ _).defers=[];unfold Act.put;split<;>rfl
theorem noted_ev {v':World}{news:List Value}(h:Rep z S v) (hN:Noted S.wb S.tv S.n S.base S.tr news v v'):∃ tv',Ev z S v { S with tv:=tv',n:=S.n+1,tr:=S.tr++news } v':=by
 obtain ⟨g,cap,hw,hown,hat,hfr⟩:=hN;have hst:∀ k b,blk S k=some b->k≠0->k≠3->v'.heap[b]? = v.heap[b]?:=λk b hk h0 h3=>hfr.block b (h.lt hk) (λhS=>by rcases hS with rfl|hS;exact h0 (h.apart k 0 _ hk rfl);exact h3 (h.apart k 3 b hk hS.symm))
 have hnew:∀ k b,blk { S with tv:=.slice (some ⟨g,0,none⟩) (S.n+1) cap,n:=S.n+1,tr:=S.tr++news } k=some b->(blk S k=some b)∨(k=3∧b=g):=λk b hk=>by
  match k,hk with
  |0,hk=>exact .inl hk
  |1,hk=>exact .inl hk
  |2,hk=>exact .inl hk
  |3,hk=>cases hk;exact .inr ⟨rfl,rfl⟩
  |4,hk=>exact .inl hk
  |k+5,hk=>exact .inl hk
 refine ⟨.slice (some ⟨g,0,none⟩) (S.n+1) cap,⟨?_,λj t' ht'=>?_,hown,?_,?_,?_,Qk h.bs hfr.size,λj k b hj hk=>?_,h.kept⟩,hfr.mono (λx _ hx=>?_),λb ⟨k,hk⟩=>?_⟩
 .have:=hw _ _ _ h.wor
  simpa using this
 .rw[hst (j+5) t'.tb (by simp[blk,ht']) (by omega) (by omega)]
  exact h.thr j t' ht'
 exact own_stay (λb hb=>hst 1 b hb (by omega) (by omega)) h.chg;exact own_stay (λb hb=>hst 2 b hb (by omega) (by omega)) h.ths;exact own_stay (λb hb=>hst 4 b hb (by omega) (by omega)) h.sch
 .rcases hnew j b hj with e1|⟨rfl,rfl⟩<;>rcases hnew k b hk with e2|⟨rfl,e2⟩
  exact h.apart j k b e1 e2
  .subst e2
   rcases hat with ha|ha;exact h.apart j 3 b e1 ha;have:=h.lt e1;omega
  .rcases hat with ha|ha
   exact h.apart 3 k b ha e2;have:=h.lt e2;omega
  rfl
 .rcases hx with rfl|hx
  exact ⟨0,rfl⟩;exact ⟨3,hx.symm⟩
 .rcases hnew k b hk with e1|⟨_,rfl⟩
  exact .inl ⟨k,e1⟩
  .rcases hat with ha|ha
   exact .inl ⟨3,ha⟩;exact .inr ha
def stuckS (S:TS) (tv:Value):TS:={ S with stk:=true,tv:=tv,n:=S.n+1,tr:=S.tr++[I (-1),I (-1),I 7,I 0,I 0] }
theorem news5n (w:World) (a b c d e:Int) (t:TypeId) {n:Nat}(hn:n=w.heap.size):∀ j u,[I a,I b,I c,I d,I e][j]? = some u->(w.alloc (.cells #[I a,I b,I c,I d,I e] t)).cell? ((⟨n,0,none⟩:Addr).add j)=some u:=by subst hn;exact news5 w a b c d e t
theorem end_wp (p:Option Addr) (cap:Nat) (u6 u8 u9 u10 u11 u12 u13 u14 u15 u16 u17 u18 u19 u20 u21 u22 u23 u24 u25 u26 u27 u28 u29 u30 u31:Value):
 c510.wp Tryd.prog (λe a w'=>e=.ret∧∃ x,(results Tryd.f125 a.tmps).run Tryd.prog w'=.ok x w'∧(x=.bool false∧w'=v)) { tmps:=#[Pt S.wb 0,undef,.bool false,.slice p 0 cap,.bool false,undef,u6,undef,u8,u9,u10,u11,u12,u13,u14,u15,u16,u17,u18,u19,u20,u21,u22,u23,u24,u25,u26,u27,u28,u29,u30,u31]++Array.replicate 41 undef,defers:=[] } v:=by
 show Code.wp Tryd.prog c510 _ _ _;unfold c510 Tryd.f125 seq1 seq2;simp only[Qa,Sy];go_wp2_with fail;exact results_tmp (t:=2) rfl _ _ _
theorem stuck_wp (h:Rep z S v) (hn:(S.n+1)*40<=140737488355328) (p:Option Addr) (cap:Nat) (u6 u8 u9 u10 u11 u12 u13 u14 u15 u16 u17 u18 u19 u20 u21 u22 u23 u24 u25 u26 u27 u28 u29 u30 u31:Value):
 c510.wp Tryd.prog (λe a w'=>e=.ret∧∃ x,(results Tryd.f125 a.tmps).run Tryd.prog w'=.ok x w'∧(x=.bool true∧∃ tv,Ev z S v (stuckS S tv) w')) { tmps:=#[Pt S.wb 0,undef,.bool false,.slice p 0 cap,.bool true,undef,u6,undef,u8,u9,u10,u11,u12,u13,u14,u15,u16,u17,u18,u19,u20,u21,u22,u23,u24,u25,u26,u27,u28,u29,u30,u31]++Array.replicate 41 undef,defers:=[] } v:=by
 have c5:=h.wcell.2.2.2.2.2.1;have c6:=h.wcell.2.2.2.2.2.2.1;have f5:=fz_off h 5 (by omega);have f6:=fz_off h 6 (by omega);have h1:=world_set h S.us S.la true 6 (.bool true) (by simp);have HV:Hid (Ev z S v { S with us:=S.us,la:=S.la,stk:=true } (v.setCell ⟨S.wb,6,none⟩ (.bool true))):=⟨h1⟩
 have K5:Hid ((v.setCell ⟨S.wb,6,none⟩ (.bool true)).cell? ⟨S.wb,5,none⟩=some S.tv∧(v.setCell ⟨S.wb,6,none⟩ (.bool true)).frozen? ⟨S.wb,5,none⟩=false):=⟨⟨h1.rep.wcell.2.2.2.2.2.1,fz_off h1.rep 5 (by omega)⟩⟩
 have n1:S.tv.ownBlock≠some S.wb:=λe=>by have:=h.apart 3 0 S.wb e rfl;omega
 have q5:S.wb<v.heap.size:=World.block_lt_of_cell? _ _ c5;have qb:S.base<=v.heap.size:=h.bs;have HO:Hid ((v.setCell ⟨S.wb,6,none⟩ (.bool true)).ownsRow S.base 60 5 S.tv S.n S.tr):=⟨h1.rep.own⟩
 obtain ⟨tp,tc,htv⟩:=own_form h.own;rw[htv] at c5;have HO':Hid ((v.setCell ⟨S.wb,6,none⟩ (.bool true)).ownsRow S.base 60 5 (.slice tp S.n tc) S.n S.tr):=⟨by rw[<-htv];exact HO.out⟩
 have n1':(Value.slice tp S.n tc).ownBlock≠some S.wb:=by rw[<-htv];exact n1
 have HTV:Hid (S.tv=.slice tp S.n tc):=⟨htv⟩
 clear htv;obtain ⟨j0,hj,hj0,hj1,hj2⟩:=info_parts info34;have hne:S.wb≠v.heap.size:=by omega
 have hne':v.heap.size≠S.wb:=by omega
 clear h h1;show Code.wp Tryd.prog c510 _ _ _;unfold c510 Tryd.f125 seq1 seq2;simp only[Qa,Sy]
 go_wp2_with (first
  |(refine wpList_append_lies _ rfl (.tmp 43) (.tmp 45) 41 rfl S.base 60 j0 _ 5 40 Tryd.underlying41 hj hj0 hj1 hj2 rfl (by decide) (.slice tp S.n tc) S.n S.tr rfl (own_later (below_alloc (Below.refl _ _) _) HO'.out) ⟨_,0,none⟩ 1 1 [I (-1),I (-1),I 7,I 0,I 0] rfl rfl (news5n _ _ _ _ _ _ _ (by simp[World.setCell])) (one5 _ _ _ _ _) (by decide) (by unfold maxLen;omega) (by omega) (by simp;omega) _ rfl ?_
    intro g cpg w6 hown6 hgrow6 hat6 hlt6;obtain ⟨_,_,k5,k6⟩:=keep4g (keep4 ⟨K5.out.1,K5.out.1,K5.out.1,K5.out.2⟩ (below_alloc (Below.refl _ _) _)) hgrow6 n1' n1' n1'))
 refine ⟨_,results_tmp (t:=2) rfl _ _ _,rfl,?_⟩;have hN:Noted S.wb S.tv S.n S.base S.tr [I (-1),I (-1),I 7,I 0,I 0] (v.setCell ⟨S.wb,6,none⟩ (.bool true)) (w6.setCell ⟨S.wb,5,none⟩ (.slice (some ⟨g,0,none⟩) (S.n+1) cpg)):=by rw[HTV.out];exact noted_of (below_alloc (Below.refl _ _) _) (by simpa [World.setCell] using q5) hgrow6 hown6 hat6 n1'
 obtain ⟨tv,hev⟩:=noted_ev HV.out.rep hN;exact ⟨tv,HV.out.trans hev⟩
theorem turn50_stuck (cs:List Frame) (hoc:ops[q]? = some oc)
 (hvw:Rel z v w) (hn:NoRow Ch v) (hm:Mem z S K v) (h8:S.thr.length<=8) (h0:rdyIds S S.thr.length=[]) (hw:waits2 S S.thr.length=true) (hnn:(S.n+1)*40<=140737488355328)
 (hk:∀ v' w' tv,Rel z v' w'->NoRow Ch v'->Evo z S K v (stuckS S tv) K v'->GoesI Tryd.prog true (DT (ScZ z) Ch) Stop (G (bc.at (ac.put oc.dst (.bool true)) (.inRegion ops rest :: k)) cs) w') (code:Code) (hc:Tryd.f125.body=some code):
 GoesI Tryd.prog true (DT (ScZ z) Ch) Stop (G ((base 125).at { tmps:=#[Pt S.wb 0]++Array.replicate 72 undef,defers:=[] } [.code code]) (bc.at ac (.inRegion ops (q :: rest) :: k) :: cs)) w:=by
 have hw0:code=.seq c500 (.seq c501 (.seq c502 (.seq scan c504))):=by obtain rfl:=Qd hc;rfl
 subst hw0;clear hc;simp only[Sy];refine goesI_seq (dt_idle _ _) ?_;refine goesI_look hE fineM hvw hn fine500 rfl (by simp[base]) (a':={ tmps:=#[Pt S.wb 0,undef,.bool false]++Array.replicate 70 undef,defers:=[] }) (λτ=>?_) (λw hvw=>?_)
 .show Code.wp Tryd.prog (c500) _ _ _
  unfold c500 Tryd.f125 seq1;simp only[Qa,Sy];go_wp2_with fail;exact ⟨rfl,rfl,rfl⟩
 simp only[Sy];refine goesI_seq (dt_idle _ _) ?_;refine goesI_look hE fineM hvw hn fine501 rfl (by simp[base]) (a':={ tmps:=#[Pt S.wb 0,undef,.bool false,.slice none 0 0]++Array.replicate 69 undef,defers:=[] }) (λτ=>?_) (λw hvw=>?_)
 .show Code.wp Tryd.prog (c501) _ _ _
  unfold c501 Tryd.f125 seq1 seq2;simp only[Qa,Sy];go_wp2_with fail;exact ⟨rfl,rfl,rfl⟩
 simp only[Sy];refine goesI_seq (dt_idle _ _) ?_;refine goesI_look hE fineM hvw hn fine502 rfl (by simp[base]) (a':={ tmps:=#[Pt S.wb 0,undef,.bool false,.slice none 0 0,.bool false]++Array.replicate 68 undef,defers:=[] }) (λτ=>?_) (λw hvw=>?_)
 .show Code.wp Tryd.prog (c502) _ _ _
  unfold c502 Tryd.f125 seq1 seq2;simp only[Qa,Sy];go_wp2_with fail;exact ⟨rfl,rfl,rfl⟩
 simp only[Sy];refine goesI_seq (dt_idle _ _) ?_;have hscan:∀ τ,scan.wp Tryd.prog (λe a w'=>e=.normal∧ScanQ S v a w') { tmps:=#[Pt S.wb 0,undef,.bool false,.slice none 0 0,.bool false]++Array.replicate 68 undef,defers:=[] } (onTape v τ 0):=λτ=>scan_wp (hm.rep.same (v':=onTape v τ 0) rfl) h8;simp only[Sy] at hscan;refine goesI_plain (c:=scan) (z:=z) (wr:=true) (L:=LM) (I:=NoRow Ch) hE fineM noRow_keeps (λv v' w w' es hi hr ho he=>dt_of_z v v' w w' es hi hr ho he) hvw fineScan rfl (by simp[base]) hn hscan ?_;rintro a' v1 w1 ⟨⟨lv,⟨u6,u8,u9,u10,u11,u12,u13,u14,u15,u16,u17,u18,u19,u20,u21,u22,u23,u24,u25,u26,u27,u28,u29,u30,u31,rfl⟩,hown⟩,hsz,hbl,hos,hou⟩ hr1 hn1 -;have hg:Grows v v1:=⟨hsz,hbl,hos,hou⟩
 have he1:=hm.grows hg;obtain ⟨p,cap,rfl⟩:=own_form hown;have hc504:c504=.seq c510 (.seq pick15 (.seq last16 (.seq state17 c518))):=rfl;rw[hc504];clear hscan;rw[h0,hw];simp only[List.length_nil];refine goesI_seq (dt_idle _ _) ?_;have hst:=λτ=>stuck_wp (he1.mem.rep.same (v':=onTape v1 τ 0) rfl) hnn p cap u6 u8 u9 u10 u11 u12 u13 u14 u15 u16 u17 u18 u19 u20 u21 u22 u23 u24 u25 u26 u27 u28 u29 u30 u31;refine goesI_outZ (f:=125) (fn:=Tryd.f125) (c:=c510) hE fineM hr1 hn1 Tryd.func125 fine510 rfl hoc (R:=λx w'=>x=.bool true∧∃ tv,Ev z S v1 (stuckS S tv) w') (λτ=>wp_mono (hst τ) (λe a w' hq=>by obtain ⟨h1,x,h2,h3,tv,h4⟩:=hq;exact ⟨h1,x,h2,h3,tv,h4.base rfl rfl rfl⟩)) ?_;rintro x v2 w2 ⟨rfl,tv,hev⟩ hr2 hn2;exact hk v2 w2 tv hr2 hn2 (he1.trans (Evo.of_ev he1.mem hev rfl))
theorem turn50_end (cs:List Frame) (hoc:ops[q]? = some oc)
 (hvw:Rel z v w) (hn:NoRow Ch v) (hm:Mem z S K v) (h8:S.thr.length<=8) (h0:rdyIds S S.thr.length=[]) (hw:waits2 S S.thr.length=false)
 (hk:∀ v' w',Rel z v' w'->NoRow Ch v'->Evo z S K v S K v'->GoesI Tryd.prog true (DT (ScZ z) Ch) Stop (G (bc.at (ac.put oc.dst (.bool false)) (.inRegion ops rest :: k)) cs) w') (code:Code) (hc:Tryd.f125.body=some code):
 GoesI Tryd.prog true (DT (ScZ z) Ch) Stop (G ((base 125).at { tmps:=#[Pt S.wb 0]++Array.replicate 72 undef,defers:=[] } [.code code]) (bc.at ac (.inRegion ops (q :: rest) :: k) :: cs)) w:=by
 have hw0:code=.seq c500 (.seq c501 (.seq c502 (.seq scan c504))):=by obtain rfl:=Qd hc;rfl
 subst hw0;clear hc;simp only[Sy];refine goesI_seq (dt_idle _ _) ?_;refine goesI_look hE fineM hvw hn fine500 rfl (by simp[base]) (a':={ tmps:=#[Pt S.wb 0,undef,.bool false]++Array.replicate 70 undef,defers:=[] }) (λτ=>?_) (λw hvw=>?_)
 .show Code.wp Tryd.prog (c500) _ _ _
  unfold c500 Tryd.f125 seq1;simp only[Qa,Sy];go_wp2_with fail;exact ⟨rfl,rfl,rfl⟩
 simp only[Sy];refine goesI_seq (dt_idle _ _) ?_;refine goesI_look hE fineM hvw hn fine501 rfl (by simp[base]) (a':={ tmps:=#[Pt S.wb 0,undef,.bool false,.slice none 0 0]++Array.replicate 69 undef,defers:=[] }) (λτ=>?_) (λw hvw=>?_)
 .show Code.wp Tryd.prog (c501) _ _ _
  unfold c501 Tryd.f125 seq1 seq2;simp only[Qa,Sy];go_wp2_with fail;exact ⟨rfl,rfl,rfl⟩
 simp only[Sy];refine goesI_seq (dt_idle _ _) ?_;refine goesI_look hE fineM hvw hn fine502 rfl (by simp[base]) (a':={ tmps:=#[Pt S.wb 0,undef,.bool false,.slice none 0 0,.bool false]++Array.replicate 68 undef,defers:=[] }) (λτ=>?_) (λw hvw=>?_)
 .show Code.wp Tryd.prog (c502) _ _ _
  unfold c502 Tryd.f125 seq1 seq2;simp only[Qa,Sy];go_wp2_with fail;exact ⟨rfl,rfl,rfl⟩
 simp only[Sy];refine goesI_seq (dt_idle _ _) ?_;have hscan:∀ τ,scan.wp Tryd.prog (λe a w'=>e=.normal∧ScanQ S v a w') { tmps:=#[Pt S.wb 0,undef,.bool false,.slice none 0 0,.bool false]++Array.replicate 68 undef,defers:=[] } (onTape v τ 0):=λτ=>scan_wp (hm.rep.same (v':=onTape v τ 0) rfl) h8;simp only[Sy] at hscan;refine goesI_plain (c:=scan) (z:=z) (wr:=true) (L:=LM) (I:=NoRow Ch) hE fineM noRow_keeps (λv v' w w' es hi hr ho he=>dt_of_z v v' w w' es hi hr ho he) hvw fineScan rfl (by simp[base]) hn hscan ?_;rintro a' v1 w1 ⟨⟨lv,⟨u6,u8,u9,u10,u11,u12,u13,u14,u15,u16,u17,u18,u19,u20,u21,u22,u23,u24,u25,u26,u27,u28,u29,u30,u31,rfl⟩,hown⟩,hsz,hbl,hos,hou⟩ hr1 hn1 -;have hg:Grows v v1:=⟨hsz,hbl,hos,hou⟩
 have he1:=hm.grows hg;obtain ⟨p,cap,rfl⟩:=own_form hown;have hc504:c504=.seq c510 (.seq pick15 (.seq last16 (.seq state17 c518))):=rfl;rw[hc504];clear hscan;rw[h0,hw];simp only[List.length_nil];refine goesI_seq (dt_idle _ _) ?_;have hst:=λτ=>end_wp (S:=S) (v:=onTape v1 τ 0) p cap u6 u8 u9 u10 u11 u12 u13 u14 u15 u16 u17 u18 u19 u20 u21 u22 u23 u24 u25 u26 u27 u28 u29 u30 u31;refine goesI_outZ (f:=125) (fn:=Tryd.f125) (c:=c510) hE fineM hr1 hn1 Tryd.func125 fine510 rfl hoc (R:=λx w'=>x=.bool false∧w'.heap=v1.heap∧w'.os=v1.os∧w'.output=v1.output) (λτ=>wp_mono (hst τ) (λe a w' hq=>by obtain ⟨h1,x,h2,h3,h4⟩:=hq;subst h4;exact ⟨h1,x,h2,h3,rfl,rfl,rfl⟩)) ?_;rintro x v2 w2 ⟨rfl,q1,q2,q3⟩ hr2 hn2;exact hk v2 w2 hr2 hn2 (he1.same q1 q2 q3)
end Go.Proofs.YtfjjoohflcchnaaDoor
namespace Go.Proofs.YtfjjoohflcchnaaDoor.Gen
open Go Go.Lift Go.Conc Go.RowKit
variable {b:Nat}
structure Cl where
 po:Int
 ca:Int
 cb:Int
 cc:Int
abbrev Q:=Nat×List Int
inductive Nx where
 |ans (e x:Int)
 |turn (op:Int) (j:Nat) (q:Q)
 |wait (j:Nat) (q:Q)
structure Mc where
 start:Nat->Cl->Nx
 turn:Q->Int->(Int×Int)×Int×Nx
 woke:Q->Nx
 stuck:Q->Nx
 stkN:∀ q j q',stuck q≠.wait j q':=by intro q j q' h;cases h
 nts:Q->Int->List (Int×Int×Int):=λ_ _=>[]
 bnd:Bool:=false
 ok:Nat->Int->Prop:=λ_ _=>True
 okt:∀ q j x,ok j x->ok j (turn q x).2.1:=by intros;trivial
def Mc.set (m:Mc) (stk:Bool):Nx->Nx
 |.ans e x=>.ans e x
 |.turn op j q=>.turn op j q
 |.wait j q=>if stk then m.stuck q else .wait j q
theorem Mc.set_false (m:Mc) (x:Nx):m.set false x=x:=by cases x<;>rfl
def Mc.bn (m:Mc) (caps:Array Value):Array Value:=if m.bnd then caps else #[]
def Mc.fr (m:Mc) (caps:Array Value):Array Value:=if m.bnd then #[] else caps
inductive Ph where
 |turn (op:Int) (j:Nat) (q:Q) (rest:List Cl) (ii:Nat) (ans:List (Int×Int))
 |wait (j:Nat) (q:Q) (rest:List Cl) (ii:Nat) (ans:List (Int×Int))
 |done (ans:List (Int×Int))
def Ph.ans:Ph->List (Int×Int)
 |.turn _ _ _ _ _ a=>a
 |.wait _ _ _ _ a=>a
 |.done a=>a
def nv (S:TS):TS:={ S with tv:=undef }
def thrI (S:TS) (i:Nat):Thr:=(S.thr[i]?).getD ⟨0,0,0,0,0,0⟩
def cellAt (K:List (Nat×Int)) (j:Nat):Nat×Int:=(K[j]?).getD (0,0)
def KOk (m:Mc) (K:List (Nat×Int)):Prop:=∀ j p,K[j]? = some p->m.ok j p.2
theorem KOk.set {m:Mc}{K:List (Nat×Int)}(h:KOk m K) (j:Nat) (q:Q) (b:Nat):KOk m (K.set j (b,(m.turn q (cellAt K j).2).2.1)):=λk p hp=>by
 rw[Qq] at hp;split at hp
 .rename_i e
  subst e;split at hp
  .rename_i hl
   cases hp;refine m.okt q j _ (h j _ ?_);unfold cellAt;rw[Qf hl];rfl
  cases hp
 exact h k p hp
def A0 (i:Nat):List (Int×Int×Int)->TS->TS
 | [],S=>S
 |n :: l,S=>A0 i l (noted S undef i n.1 (-1) n.2.1 n.2.2)
def flow (i:Nat) (m:Mc):List Cl->Nat->Bool->List (Int×Int)->TS->TS×Ph
 | [],_,_,ans,S=>(ended S i (thrI S i),.done ans)
 |_ :: rest,ii,true,ans,S=>flow i m rest (ii+1) true (ans.set ii (4,0)) S
 |c :: rest,ii,false,ans,S =>
  match m.set S.stk (m.start i c) with
  |.ans e x=>flow i m rest (ii+1) (e==4) (ans.set ii (e,x)) (noted (noted S undef i 9 (-1) ii 0) undef i 10 (-1) ii e)
  |.turn op j q=>(waiting (noted S undef i 9 (-1) ii 0) i (thrI S i) 1 op j,.turn op j q rest ii ans)
  |.wait j q=>(waiting (noted S undef i 9 (-1) ii 0) i (thrI S i) 2 6 j,.wait j q rest ii ans)
def back (i:Nat) (m:Mc) (rest:List Cl) (ii:Nat) (ans:List (Int×Int)) (a:Int×Int) (S:TS) (K:List (Nat×Int)):TS×List (Nat×Int)×Ph :=
 ((flow i m rest (ii+1) (a.1==4) (ans.set ii a) (noted S undef i 10 (-1) ii a.1)).1,K,(flow i m rest (ii+1) (a.1==4) (ans.set ii a) (noted S undef i 10 (-1) ii a.1)).2)
def on (i:Nat) (m:Mc) (rest:List Cl) (ii:Nat) (ans:List (Int×Int)) (S:TS) (K:List (Nat×Int)):Nx->TS×List (Nat×Int)×Ph
 |.ans e x=>back i m rest ii ans (e,x) S K
 |.turn op j q=>(waiting S i (thrI S i) 1 op j,K,.turn op j q rest ii ans)
 |.wait j q=>(waiting S i (thrI S i) 2 6 j,K,.wait j q rest ii ans)
def resume (i:Nat) (m:Mc):Ph->TS->List (Nat×Int)->TS×List (Nat×Int)×Ph
 |.turn _ j q rest ii ans,S,K=>on i m rest ii ans (A0 i (m.nts q (cellAt K j).2) (didS S undef i (thrI S i) (m.turn q (cellAt K j).2).1.1 (m.turn q (cellAt K j).2).1.2)) (K.set j ((cellAt K j).1,(m.turn q (cellAt K j).2).2.1)) (m.set S.stk (m.turn q (cellAt K j).2).2.2)
 |.wait j q rest ii ans,S,K=>if S.stk then on i m rest ii ans S K (m.stuck q) else on i m rest ii ans (noted S undef i 6 j 0 0) K (m.woke q)
 |p,S,K=>(S,K,p)
theorem flow_cons (i:Nat) (m:Mc) (c:Cl) (rest:List Cl) (ii:Nat) (ans:List (Int×Int)) (S:TS) (K:List (Nat×Int)):flow i m (c :: rest) ii false ans S=((on i m rest ii ans (noted S undef i 9 (-1) ii 0) K (m.set S.stk (m.start i c))).1,(on i m rest ii ans (noted S undef i 9 (-1) ii 0) K (m.set S.stk (m.start i c))).2.2):=by
 unfold flow;cases h:m.set S.stk (m.start i c) with
 |ans e x=>rfl
 |turn op j q=>rfl
 |wait j q=>rfl
theorem resume_turn (i:Nat) (m:Mc) (op:Int) (j:Nat) (q:Q) (rest:List Cl) (ii:Nat) (ans:List (Int×Int)) (S:TS) (K:List (Nat×Int)):resume i m (.turn op j q rest ii ans) S K=on i m rest ii ans (A0 i (m.nts q (cellAt K j).2) (didS S undef i (thrI S i) (m.turn q (cellAt K j).2).1.1 (m.turn q (cellAt K j).2).1.2)) (K.set j ((cellAt K j).1,(m.turn q (cellAt K j).2).2.1)) (m.set S.stk (m.turn q (cellAt K j).2).2.2):=rfl
theorem resume_wait (i:Nat) (m:Mc) (j:Nat) (q:Q) (rest:List Cl) (ii:Nat) (ans:List (Int×Int)) (S:TS) (K:List (Nat×Int)):resume i m (.wait j q rest ii ans) S K=if S.stk then on i m rest ii ans S K (m.stuck q) else on i m rest ii ans (noted S undef i 6 j 0 0) K (m.woke q):=rfl
theorem on_KK (i:Nat) (m:Mc) (rest:List Cl) (ii:Nat) (ans:List (Int×Int)) (S:TS) (K:List (Nat×Int)) (x:Nx):(on i m rest ii ans S K x).2.1=K:=by
 cases x with
 |ans e x=>rfl
 |turn op j q=>rfl
 |wait j q=>rfl
theorem resume_kok {i:Nat}{m:Mc}{l:Ph}{S:TS}{K:List (Nat×Int)}(h:KOk m K):KOk m (resume i m l S K).2.1:=by
 cases l with
 |done a=>exact h
 |turn op j q rest ii ans =>rw[resume_turn,on_KK];exact h.set j q _
 |wait j q rest ii ans =>rw[resume_wait];split;rw[on_KK];exact h;rw[on_KK];exact h
section
variable {S:TS}{i:Nat}{m:Mc}
theorem thrI_of {t:Thr}(h:S.thr[i]? = some t):thrI S i=t:=by unfold thrI;rw[h];rfl
theorem nv_did (tv:Value) (t:Thr) (b a:Int):nv (didS S tv i t b a)=didS (nv S) undef i t b a:=by
 show nv (if b≠a∧0<=t.ce∧t.ce<S.chg.length then _ else _)=if b≠a∧0<=t.ce∧t.ce<S.chg.length then _ else _
 split<;>rfl
structure Sta (i:Nat) (S S':TS):Prop where
 wb:S'.wb=S.wb
 bk:S'.bk=S.bk
 base:S'.base=S.base
 us:S'.us=S.us
 la:S'.la=S.la
 sc:S'.sc=S.sc
 cv:S'.cv=S.cv
 ths:S'.ths=S.ths
 sched:S'.sched=S.sched
 stk:S'.stk=S.stk
 ran:S'.ran=S.ran
 n:S.n<=S'.n
 chg:S'.chg.length=S.chg.length
 len:S'.thr.length=S.thr.length
 oth:∀ j,j≠i->S'.thr[j]? = S.thr[j]?
 own:∀ t,S.thr[i]? = some t->∃ t',S'.thr[i]? = some t'∧t'.tb=t.tb∧t'.gc=t.gc
theorem Sta.refl (i:Nat) (S:TS):Sta i S S:=⟨rfl,rfl,rfl,rfl,rfl,rfl,rfl,rfl,rfl,rfl,rfl,Qi _,rfl,rfl,λ_ _=>rfl,λt h=>⟨t,h,rfl,rfl⟩⟩
theorem Sta.trans {S S' S'':TS}(h:Sta i S S') (k:Sta i S' S''):Sta i S S'':=by refine ⟨k.wb.trans h.wb,k.bk.trans h.bk,k.base.trans h.base,k.us.trans h.us,k.la.trans h.la,k.sc.trans h.sc,k.cv.trans h.cv,k.ths.trans h.ths,k.sched.trans h.sched,k.stk.trans h.stk,k.ran.trans h.ran,Qk h.n k.n,k.chg.trans h.chg,k.len.trans h.len,λj hj=>(k.oth j hj).trans (h.oth j hj),λt ht=>?_⟩;obtain ⟨t1,h1,h2,h3⟩:=h.own t ht;obtain ⟨t2,k1,k2,k3⟩:=k.own t1 h1;exact ⟨t2,k1,k2.trans h2,k3.trans h3⟩
theorem sta_noted (S:TS) (tv:Value) (op ce ol ne:Int):Sta i S (noted S tv i op ce ol ne):=⟨rfl,rfl,rfl,rfl,rfl,rfl,rfl,rfl,rfl,rfl,rfl,Nat.le_succ _,rfl,rfl,λ_ _=>rfl,λt h=>⟨t,h,rfl,rfl⟩⟩
theorem sta_set (S:TS) (t':Thr) (h1:∀ t,S.thr[i]? = some t->t'.tb=t.tb∧t'.gc=t.gc):Sta i S { S with thr:=S.thr.set i t' }:=by
 refine ⟨rfl,rfl,rfl,rfl,rfl,rfl,rfl,rfl,rfl,rfl,rfl,Qi _,rfl,by simp,λj hj=>?_,λt h=>⟨t',?_,h1 t h⟩⟩
 .show (S.thr.set i t')[j]? = _
  rw[Qq,if_neg (λe=>hj e.symm)]
 .have hi:i<S.thr.length:=(Qc h).1
  show (S.thr.set i t')[i]? = _;rw[Qq,if_pos rfl,if_pos hi]
theorem sta_wait (S:TS) (s o c:Int):Sta i S (waiting S i (thrI S i) s o c):=sta_set S _ (λt h=>by rw[thrI_of h];exact ⟨rfl,rfl⟩)
theorem sta_ended (S:TS):Sta i S (ended S i (thrI S i)):=sta_set S _ (λt h=>by rw[thrI_of h];exact ⟨rfl,rfl⟩)
theorem sta_did (S:TS) (tv:Value) (t:Thr) (b a:Int):Sta i S (didS S tv i t b a):=by unfold didS;split;exact ⟨rfl,rfl,rfl,rfl,rfl,rfl,rfl,rfl,rfl,rfl,rfl,Nat.le_succ _,by simp[counted,noted],rfl,λ_ _=>rfl,λt h=>⟨t,h,rfl,rfl⟩⟩;exact sta_noted _ _ _ _ _ _
theorem sta_notes:∀ (l:List (Int×Int×Int)) (S:TS),Sta i S (A0 i l S)
 | [],S=>Sta.refl i S
 |n :: l,S=>(sta_noted S undef n.1 (-1) n.2.1 n.2.2).trans (sta_notes l _)
theorem notes_n:∀ (l:List (Int×Int×Int)) (S:TS),(A0 i l S).n=S.n+l.length
 | [],S=>rfl
 |n :: l,S=>by show (A0 i l (noted S undef i n.1 (-1) n.2.1 n.2.2)).n=_;rw[notes_n l,List.length_cons];show S.n+1+l.length=_;omega
theorem Ay:∀ (l:List (Int×Int×Int)) (S:TS),(A0 i l S).thr=S.thr∧(A0 i l S).bk=S.bk∧(A0 i l S).chg=S.chg∧(A0 i l S).stk=S.stk
 | [],S=>⟨rfl,rfl,rfl,rfl⟩
 |n :: l,S=>Ay l (noted S undef i n.1 (-1) n.2.1 n.2.2)
theorem flow_sta (i:Nat) (m:Mc):∀ (rest:List Cl) (ii:Nat) (sk:Bool) (ans:List (Int×Int)) (S:TS),Sta i S (flow i m rest ii sk ans S).1
 | [],ii,sk,ans,S=>by cases sk<;>exact sta_ended S
 |c :: rest,ii,true,ans,S=>flow_sta i m rest (ii+1) true _ S
 |c :: rest,ii,false,ans,S=>by unfold flow;split;exact ((sta_noted S _ _ _ _ _).trans (sta_noted _ _ _ _ _ _)).trans (flow_sta i m rest (ii+1) _ _ _);exact (sta_noted S _ _ _ _ _).trans (sta_wait (noted S undef i 9 (-1) ii 0) _ _ _);exact (sta_noted S _ _ _ _ _).trans (sta_wait (noted S undef i 9 (-1) ii 0) _ _ _)
theorem back_sta (rest:List Cl) (ii:Nat) (ans:List (Int×Int)) (a:Int×Int) (K:List (Nat×Int)) (S:TS):Sta i S (back i m rest ii ans a S K).1 :=
 (sta_noted S _ _ _ _ _).trans (flow_sta i m rest (ii+1) _ _ _)
theorem on_sta (rest:List Cl) (ii:Nat) (ans:List (Int×Int)) (K:List (Nat×Int)) (S:TS) (x:Nx):Sta i S (on i m rest ii ans S K x).1:=by
 cases x with
 |ans e x=>exact back_sta _ _ _ _ _ _
 |turn op j q=>exact sta_wait S _ _ _
 |wait j q=>exact sta_wait S _ _ _
theorem resume_sta (i:Nat) (m:Mc) (l:Ph) (S:TS) (K:List (Nat×Int)):Sta i S (resume i m l S K).1:=by
 match l with
 |.done ans=>exact Sta.refl _ _
 |.turn op j q rest ii ans=>exact ((sta_did S _ _ _ _).trans (sta_notes _ _)).trans (on_sta _ _ _ _ _ _)
 |.wait j q rest ii ans =>rw[resume_wait];split;exact on_sta _ _ _ _ _ _;exact (sta_noted S _ _ _ _ _).trans (on_sta _ _ _ _ _ _)
end
def arow (ans:List (Int×Int)):List Value:=ans.flatMap λa=>[I a.1,I a.2]
theorem arow_len (ans:List (Int×Int)):(arow ans).length=ans.length*2:=by
 induction ans with
 |nil=>rfl
 |cons a l ih=>simp only[arow,List.flatMap_cons,Qj,List.length_cons,List.length_nil] at ih ⊢;omega
theorem arow_get:∀ (ans:List (Int×Int)) (k:Nat) (a:Int×Int),ans[k]? = some a->(arow ans)[k*2]? = some (I a.1)∧(arow ans)[k*2+1]? = some (I a.2)
 |b :: l,0,a,h=>by obtain rfl:b=a:=by simpa using h
                   exact ⟨rfl,rfl⟩
 |b :: l,k+1,a,h=>by have:=arow_get l k a (by simpa using h);have e:arow (b :: l)=I b.1 :: I b.2 :: arow l:=rfl;rw[e,show (k+1)*2=(k*2+1)+1 by omega,show (k*2+1)+1+1=(k*2+1+1)+1 by omega];simpa using this
theorem arow_set:∀ (ans:List (Int×Int)) (k:Nat) (e x:Int),k<ans.length->arow (ans.set k (e,x))=((arow ans).set (k*2) (I e)).set (k*2+1) (I x)
 |b :: l,0,e,x,_=>rfl
 |b :: l,k+1,e,x,h=>by have:=arow_set l k e x (by simpa using h);have e1:∀ (b:Int×Int) (l:List (Int×Int)),arow (b :: l)=I b.1 :: I b.2 :: arow l:=λ_ _=>rfl;rw[List.set_cons_succ,e1,this,e1,show (k+1)*2=(k*2+1)+1 by omega,show (k*2+1)+1+1=(k*2+1+1)+1 by omega];simp only[List.set_cons_succ]
variable {mc:Mc}
def roOf:Option Addr->Nat
 |some a=>a.off
 |none=>0
structure Fix (mc:Mc) where
 h:Nat
 i:Nat
 tb:Nat
 gc:Nat
 bb:Nat
 calls:List Cl
 pc:Option Addr
 rb:Nat
 cap:Nat
 asl:Value
 ab:Nat
 cap2:Nat
 aty:TypeId
 fid:FuncId
 caps:Array Value
 pk:Nat->Option Obj
 kb:List Nat
namespace Fix
def csl (X:Fix mc):Value:=.slice X.pc X.calls.length X.cap
abbrev ro (X:Fix mc):Nat:=roOf X.pc
abbrev F (X:Fix mc):Value:=.func (.func X.fid) (mc.bn X.caps) (mc.fr X.caps)
abbrev Pr (X:Fix mc) (b:Nat):Prop:=b=X.bb∨b=X.rb∨b=X.ab∨X.pk b≠none
structure Ok (X:Fix mc):Prop where
 h:0<X.h
 n:(X.calls.length:Int)<9223372036854775808
 ca:∀ c∈X.calls,-9223372036854775808<=c.ca∧c.ca<9223372036854775808
 pc:0<X.calls.length->X.pc=some ⟨X.rb,X.ro,none⟩
 asl:0<X.calls.length->X.asl=.slice (some ⟨X.ab,0,none⟩) X.calls.length X.cap2
 e0:X.calls.length=0->X.rb=X.bb∧X.ab=X.bb
 ne:0<X.calls.length->X.ab≠X.bb∧X.ab≠X.rb∧X.pk X.ab=none
 pk:∀ b o,X.pk b=some o->∃ c e f,o=.cells c e f
end Fix
def Kb (X:Fix mc) (K:List (Nat×Int)):Prop:=K.map (·.1)=X.kb∧KOk mc K
def Has (M:Nat->Option Obj) (v:World):Prop:=∀ b o,M b=some o->v.heap[b]? = some o
structure PM (X:Fix mc) (ans:List (Int×Int)) (v:World):Prop where
 box:v.cell? ⟨X.bb,0,none⟩=some (Pt X.tb 0)
 call:∀ (k:Nat) (c:Cl),X.calls[k]? = some c->v.cell? ⟨X.rb,X.ro+k*4,none⟩=some (I c.po)∧v.cell? ⟨X.rb,X.ro+k*4+1,none⟩=some (I c.ca)∧v.cell? ⟨X.rb,X.ro+k*4+2,none⟩=some (I c.cb)∧v.cell? ⟨X.rb,X.ro+k*4+3,none⟩=some (I c.cc)
 row:0<X.calls.length->v.heap[X.ab]? = some (.cells (arow ans).toArray X.aty (0,0))
 len:ans.length=X.calls.length
 pk:Has X.pk v
theorem PM.stay {X:Fix mc}{ans:List (Int×Int)}{v v':World}(h:PM X ans v) (hs:∀ b,X.Pr b->v'.heap[b]? = v.heap[b]?):PM X ans v':=by
 have hc:∀ (a:Addr) (x:Value),X.Pr a.block->v.cell? a=some x->v'.cell? a=some x:=λa x hb ha=>by rw[World.cell?_of_block (hs a.block hb)];exact ha
 refine ⟨hc _ _ (.inl rfl) h.box,λk c hk=>?_,λh0=>by rw[hs X.ab (.inr (.inr (.inl rfl)))];exact h.row h0,h.len,λb o hb=>by rw[hs b (.inr (.inr (.inr (by rw[hb];simp))))];exact h.pk b o hb⟩;have:=h.call k c hk;exact ⟨hc _ _ (.inr (.inl rfl)) this.1,hc _ _ (.inr (.inl rfl)) this.2.1,hc _ _ (.inr (.inl rfl)) this.2.2.1,hc _ _ (.inr (.inl rfl)) this.2.2.2⟩
structure Sees (X:Fix mc) (E:Nat->Prop) (M:Nat->Option Obj) (ans:List (Int×Int)):Prop where
 ex:∀ b,E b->M b≠none
 dom:∀ b,M b≠none->X.Pr b∨E b
 apart:∀ b,E b->¬ X.Pr b
 pm:∀ v,Has M v->PM X ans v
 pr:∀ b,X.Pr b->M b≠none
 row:∀ b o,M b=some o->∃ c e f,o=.cells c e f
def Gv (X:Fix mc) (z:Nat->Option Nat) (Ch:Nat->Prop) (S:TS) (K:List (Nat×Int)) (v:World) (E:Nat->Prop) (σ:TS) (κ:List (Nat×Int)) (M':Nat->Option Obj) (w':World):Prop :=
 ∃ v' S',Rel z v' w'∧NoRow Ch v'∧nv S'=σ∧EvoP (λb=>b=X.ab∨E b) z S K v S' κ v'∧Has M' v'∧∀ b,M' b≠none->¬ Own S' κ b
def seatOf (X:Fix mc) (Hm:Ph->(Nat->Prop)->(Nat->Option Obj)->Goroutine->Prop):Ph->(Nat->Prop)->(Nat->Option Obj)->Option Seat
 |.done _,_,_=>none
 |l,E,M=>some (seatT X.gc (Hm l E M))
def Gives (X:Fix mc) (Hm:Ph->(Nat->Prop)->(Nat->Option Obj)->Goroutine->Prop) (z:Nat->Option Nat) (cont:Addr->Value) (Ch:Nat->Prop) (S:TS) (K:List (Nat×Int)) (v:World) (E:Nat->Prop) (σ:TS) (κ:List (Nat×Int)) (l':Ph) (E':Nat->Prop) (M':Nat->Option Obj) (g':Goroutine) (w':World):Prop :=
 Sees X E' M' l'.ans∧(∀ b,E' b->E b∨v.heap.size<=b)∧Lift.AtGive Tryd.prog (KC (ScZ z) cont) (StillC (ScZ z)) X.h S.bk (.agg #[]) (seatOf X Hm l' E' M') (Gv X z Ch S K v E σ κ M') g' w'
def Fits (X:Fix mc):Ph->Thr->Prop
 |.turn op j _ _ _ _,t=>t.op=op∧t.ce=j
 |_,_=>True
def Home (X:Fix mc):Nat->Ph->(Nat->Prop)->(Nat->Option Obj)->Goroutine->Prop
 |0,_,_,_,_=>True
 |n+1,l,E,M,g=>∀ (z:Nat->Option Nat) (Ch:Nat->Prop) (Stop:Goroutine->World->Prop) (cont:Addr->Value) (y:Value) (w v:World) (S:TS) (K:List (Nat×Int)) (t:Thr),Rel z v w->NoRow Ch v->Mem z S K v->S.thr[X.i]? = some t->t.tb=X.tb->t.gc=X.gc->Fits X l t->Kb X K->z X.tb=some 2->cont ⟨X.tb,2,none⟩=.chan (some X.gc) ->
    Has M v->(∀ b,M b≠none->¬ Own S K b)->(resume X.i mc l (nv S) K).1.n*40<=140737488355328 ->
    (∀ g' w' E' M',Gives X (Home X n) z cont Ch S K v E (resume X.i mc l (nv S) K).1 (resume X.i mc l (nv S) K).2.1 (resume X.i mc l (nv S) K).2.2 E' M' g' w'->Stop g' w') ->
    GoesI Tryd.prog (X.h==0) (DT (ScZ z) Ch) Stop (Go.Conc.served g y) w
theorem atGive_mono {K:World->Prop}{Still:Loc->Prop}{h c:Nat}{v:Value}{o:Option Seat}{F F':World->Prop}{a:Goroutine}{w:World}(hF:F w->F' w) (hg:Lift.AtGive Tryd.prog K Still h c v o F a w):Lift.AtGive Tryd.prog K Still h c v o F' a w :=
 ⟨hg.1,hF hg.2.1,hg.2.2⟩
section
variable {Pr Pr':Nat->Prop}{z:Nat->Option Nat}{S S' S'':TS}{K K' K'':List (Nat×Int)}{v v' v'':World}
theorem _root_.Go.Proofs.YtfjjoohflcchnaaDoor.EvoP.join (h:EvoP Pr z S K v S' K' v') (k:EvoP Pr' z S' K' v' S'' K'' v'') (hp:∀ b,Pr' b->Pr b∨v.heap.size<=b):EvoP Pr z S K v S'' K'' v'':=by
 refine ⟨k.mem,k.blks.trans h.blks,⟨k.fr.os.trans h.fr.os,k.fr.output.trans h.fr.output,Qk h.fr.size k.fr.size,λx hx hs=>?_⟩,λb hb=>?_⟩
 .rw[k.fr.block x (Qp hx h.fr.size) (λhi=>?_),h.fr.block x hx hs]
  rcases hi with hi|hi;exact (h.new x hi).elim (λh=>hs (.inl h)) (λhle=>by omega);exact (hp x hi).elim (λh=>hs (.inr h)) (λhle=>by omega)
 .rcases k.new b hb with h1|h1
  exact h.new b h1;exact .inr (Qk h.fr.size h1)
theorem _root_.Go.Proofs.YtfjjoohflcchnaaDoor.EvoP.grows (h:EvoP Pr z S K v S' K' v') {u:World}(g:Grows v' u) (k:EvoP Pr' z S' K' u S'' K'' v'') (hp:∀ b,Pr' b->Pr b∨v.heap.size<=b):EvoP Pr z S K v S'' K'' v'':=by
 refine ⟨k.mem,k.blks.trans h.blks,⟨(k.fr.os.trans g.os).trans h.fr.os,(k.fr.output.trans g.output).trans h.fr.output,Qk h.fr.size (Qk g.size k.fr.size),λx hx hs=>?_⟩,λb hb=>?_⟩
 .have hx':=Qp hx h.fr.size
  rw[k.fr.block x (Qp hx' g.size) (λhi=>?_),g.old x hx',h.fr.block x hx hs];rcases hi with hi|hi;exact (h.new x hi).elim (λh=>hs (.inl h)) (λhle=>by omega);exact (hp x hi).elim (λh=>hs (.inr h)) (λhle=>by omega)
 .rcases k.new b hb with h1|h1
  exact h.new b h1;exact .inr (Qk h.fr.size (Qk g.size h1))
theorem _root_.Go.Proofs.YtfjjoohflcchnaaDoor.EvoP.keeps (h:EvoP Pr z S K v S' K' v') {b:Nat}(hb:b<v.heap.size) (ho:¬ Own S K b) (hp:¬ Pr b):v'.heap[b]? = v.heap[b]?∧¬ Own S' K' b :=
 ⟨h.fr.block b hb (λhi=>hi.elim ho hp),λhi=>(h.new b hi).elim ho (λhle=>by omega)⟩
theorem _root_.Go.Proofs.YtfjjoohflcchnaaDoor.Grows.trans' {a b c:World}(h:Grows a b) (k:Grows b c):Grows a c:=⟨Qk h.size k.size,λx hx=>by rw[k.old x (Qp hx h.size),h.old x hx],k.os.trans h.os,k.output.trans h.output⟩
theorem Gives.join {X:Fix mc}{Hm:Ph->(Nat->Prop)->(Nat->Option Obj)->Goroutine->Prop}{cont:Addr->Value}{Ch:Nat->Prop}{E E1 E':Nat->Prop}{M':Nat->Option Obj}{σ:TS}{κ:List (Nat×Int)}{l':Ph}{g':Goroutine}{w':World}
 (h:EvoP (λb=>b=X.ab∨E b) z S K v S' K' v') (hbk:S'.bk=S.bk) (he:∀ b,E1 b->E b∨v.heap.size<=b) (k:Gives X Hm z cont Ch S' K' v' E1 σ κ l' E' M' g' w'):Gives X Hm z cont Ch S K v E σ κ l' E' M' g' w':=by
 obtain ⟨k1,k2,k3⟩:=k;rw[hbk] at k3;refine ⟨k1,λb hb=>?_,atGive_mono (λhF=>?_) k3⟩
 .rcases k2 b hb with h1|h1
  exact he b h1;exact .inr (Qk h.fr.size h1)
 .obtain ⟨v2,S2,q1,q2,q3,q4,q5⟩:=hF
  refine ⟨v2,S2,q1,q2,q3,h.join q4 (λb hb=>?_),q5⟩;rcases hb with rfl|hb;exact .inl (.inl rfl);exact (he b hb).imp .inr id
end
def mind (X:Fix mc) (v:World) (b:Nat):Option Obj:=if X.Pr b then v.heap[b]? else none
def mindO (X:Fix mc) (v:World) (Mo:Nat->Option Obj) (b:Nat):Option Obj:=if Mo b≠none then Mo b else mind X v b
def CarryEnds (X:Fix mc) (cs:List Frame):Prop :=
 ∀ (z:Nat->Option Nat) (Ch:Nat->Prop) (Stop:Goroutine->World->Prop) (cont:Addr->Value) (w v:World) (S:TS) (K:List (Nat×Int)) (t:Thr) (sk:Bool) (u:Nat->Value),Rel z v w->NoRow Ch v->Mem z S K v->S.thr[X.i]? = some t->t.tb=X.tb->v.cell? ⟨X.bb,0,none⟩=some (Pt X.tb 0)->¬ Own S K X.bb ->
   (∀ g w',GiveE z cont X.h S.bk (Then z Ch S K v (ended S X.i t) K) g w'->Stop g w') ->
   GoesI Tryd.prog (X.h==0) (DT (ScZ z) Ch) Stop (G (cFr X.tb X.csl X.F X.asl X.calls.length X.calls.length sk u) cs) w
def Answers (X:Fix mc) (cs:List Frame) (ii:Nat) (ans:List (Int×Int)) (cu:Value->Goroutine):Prop :=
 ∀ (z:Nat->Option Nat) (Ch:Nat->Prop) (Stop:Goroutine->World->Prop) (w v:World) (S:TS) (K:List (Nat×Int)) (t:Thr) (e x:Int),Rel z v w->NoRow Ch v->Mem z S K v->S.thr[X.i]? = some t->t.tb=X.tb->(S.n+1)*40<=140737488355328->PM X ans v->(∀ b,X.Pr b->¬ Own S K b) ->
   (∀ v' w' tv u',Rel z v' w'->NoRow Ch v'->EvoP (λb=>b=X.ab) z S K v (noted S tv X.i 10 (-1) ii e) K v'->PM X (ans.set ii (e,x)) v'->GoesI Tryd.prog (X.h==0) (DT (ScZ z) Ch) Stop (G (cFr X.tb X.csl X.F X.asl X.calls.length (ii+1) (e==4) u') cs) w') ->
   GoesI Tryd.prog (X.h==0) (DT (ScZ z) Ch) Stop (cu (.agg #[I e,I x])) w
section
variable {X:Fix mc}{ans:List (Int×Int)}{v v':World}
theorem row_of_cell {a:Addr}{x:Value}(h:v.cell? a=some x):∃ c e f,v.heap[a.block]? = some (.cells c e f):=by
 unfold World.cell? at h;cases hh:v.heap[a.block]? with
 |none=>rw[hh] at h;cases h
 |some o =>
  rw[hh] at h;cases o with
  |cells c e f=>exact ⟨c,e,f,rfl⟩
  |_=>cases h
theorem PM.isrow (h:PM X ans v) (ok:X.Ok) (hb:X.Pr b):∃ c e f,v.heap[b]? = some (.cells c e f):=by
 have hbb:=row_of_cell h.box;rcases hb with rfl|rfl|rfl|hb;exact hbb
 .by_cases hc:X.calls.length=0
  rw[(ok.e0 hc).1];exact hbb
  .have h0:0<X.calls.length:=by omega
   exact row_of_cell (h.call 0 (X.calls[0]) (by simp[h0])).1
 .by_cases hc:X.calls.length=0
  rw[(ok.e0 hc).2];exact hbb;exact ⟨_,_,_,h.row (by omega)⟩
 .obtain ⟨o,ho⟩:=Option.ne_none_iff_exists'.1 hb
  obtain ⟨c,e,f,rfl⟩:=ok.pk b o ho;exact ⟨c,e,f,h.pk b _ ho⟩
theorem PM.lt (h:PM X ans v) (ok:X.Ok) (hb:X.Pr b):b<v.heap.size:=by obtain ⟨c,e,f,hh⟩:=h.isrow ok hb;exact (Qb hh).1
theorem mind_row (h:PM X ans v) (ok:X.Ok) {o:Obj}(hb:mind X v b=some o):∃ c e f,o=.cells c e f:=by
 unfold mind at hb;split at hb
 .rename_i hp
  obtain ⟨c,e,f,hh⟩:=h.isrow ok hp;rw[hh] at hb;cases hb;exact ⟨c,e,f,rfl⟩
 cases hb
theorem PM.set (h:PM X ans v) {ii:Nat}(hi:ii<X.calls.length) (e x:Int) (hab:v'.heap[X.ab]? = ((v.setCell ⟨X.ab,ii*2,none⟩ (I e)).setCell ⟨X.ab,ii*2+1,none⟩ (I x)).heap[X.ab]?) (hs:∀ b,X.Pr b->b≠X.ab->v'.heap[b]? = v.heap[b]?) (hne:X.ab≠X.bb∧X.ab≠X.rb∧X.pk X.ab=none):PM X (ans.set ii (e,x)) v':=by
 have h0:0<X.calls.length:=by omega
 have hc:∀ (a:Addr) (y:Value),X.Pr a.block->a.block≠X.ab->v.cell? a=some y->v'.cell? a=some y:=λa y hb hn ha=>by rw[World.cell?_of_block (hs a.block hb hn)];exact ha
 refine ⟨hc _ _ (.inl rfl) (Ne.symm hne.1) h.box,λk c hk=>?_,λ_=>?_,by simpa using h.len,λb o hb=>by rw[hs b (.inr (.inr (.inr (by rw[hb];simp)))) (λe=>by rw[e,hne.2.2] at hb;cases hb)];exact h.pk b o hb⟩
 .have:=h.call k c hk
  exact ⟨hc _ _ (.inr (.inl rfl)) (Ne.symm hne.2.1) this.1,hc _ _ (.inr (.inl rfl)) (Ne.symm hne.2.1) this.2.1,hc _ _ (.inr (.inl rfl)) (Ne.symm hne.2.1) this.2.2.1,hc _ _ (.inr (.inl rfl)) (Ne.symm hne.2.1) this.2.2.2⟩
 .rw[hab,heap_setCell_same (heap_setCell_same (h.row h0) (I e)) (I x),arow_set _ _ _ _ (by rw[h.len];exact hi)]
  simp
theorem PM.cells (h:PM X ans v) {ii:Nat}(hi:ii<X.calls.length):∃ y0 y1,v.cell? ⟨X.ab,ii*2,none⟩=some (I y0)∧v.cell? ⟨X.ab,ii*2+1,none⟩=some (I y1)∧v.frozen? ⟨X.ab,ii*2,none⟩=false∧v.frozen? ⟨X.ab,ii*2+1,none⟩=false:=by
 have h0:=h.row (by omega);have hl:ii<ans.length:=by rw[h.len];exact hi
 have:=arow_get ans ii ans[ii] (by simp[hl]);refine ⟨ans[ii].1,ans[ii].2,?_,?_,?_,?_⟩;simp[World.cell?,h0,this.1];simp[World.cell?,h0,this.2];simp[World.frozen?,h0];simp[World.frozen?,h0]
theorem has_mind (hl:∀ b,X.Pr b->b<v.heap.size) {M:Nat->Option Obj}(hM:∀ b o,mind X v b=some o->M b=some o) (h:Has M v'):∀ b,X.Pr b->v'.heap[b]? = v.heap[b]?:=λb hb=>by
 have e:v.heap[b]? = some v.heap[b]!:=by simp[hl b hb]
 rw[e];exact h b _ (hM b _ (by unfold mind;rw[if_pos hb,e]))
theorem sees_mind (h:PM X ans v) (ok:X.Ok):Sees X (λ_=>False) (mind X v) ans:=by
 refine ⟨λ_ h=>h.elim,λb hb=>?_,λ_ h=>h.elim,λv' hM=>h.stay (has_mind (λb hb=>h.lt ok hb) (λ_ _ h=>h) hM),λb hb=>?_,λb o hb=>mind_row h ok hb⟩
 .unfold mind at hb
  split at hb;exact .inl ‹_›;exact absurd rfl hb
 .unfold mind
  rw[if_pos hb];simp[h.lt ok hb]
theorem sees_mindO (h:PM X ans v) (ok:X.Ok) {Mo:Nat->Option Obj}(h1:∀ b,Mo b≠none->¬ X.Pr b) (h2:∀ b o,Mo b=some o->∃ c e f,o=.cells c e f):Sees X (λb=>Mo b≠none) (mindO X v Mo) ans:=by
 refine ⟨λb hb=>?_,λb hb=>?_,λb hb hp=>h1 b hb hp,λv' hM=>h.stay (has_mind (λb hb=>h.lt ok hb) (λb o hb=>?_) hM),λb hb=>?_,λb o hb=>?_⟩;unfold mindO;rw[if_pos hb];exact hb
 .unfold mindO at hb
  split at hb;exact .inr ‹_›
  .unfold mind at hb
   split at hb;exact .inl ‹_›;exact absurd rfl hb
 .unfold mindO
  have hpr:X.Pr b:=by unfold mind at hb;split at hb;assumption;cases hb
  rw[if_neg (λe=>h1 b e hpr)];exact hb
 .unfold mindO mind
  rw[if_neg (λe=>h1 b e hb),if_pos hb];simp[h.lt ok hb]
 .unfold mindO at hb
  split at hb;exact h2 b o hb;exact mind_row h ok hb
end
end Go.Proofs.YtfjjoohflcchnaaDoor.Gen
