/- Of the proof of CounterTimes. Part 10 of 31. (Joined, by program, and written short, of: GDrive4, GDrive5, GDrive6, GServe, GFlow, GBirth.) -/
import Derived.Test.YtfjjoohflcchnaaDoorCounterTimes06
import Derived.Test.YtfjjoohflcchnaaDoorCounterTimes07
import Derived.Test.YtfjjoohflcchnaaDoorCounterTimes08
import Derived.Test.YtfjjoohflcchnaaDoorCounterTimes09
set_option linter.unusedSimpArgs false
set_option linter.unusedVariables false
set_option maxHeartbeats 4000000
set_option maxRecDepth 100000
namespace Go.Proofs.YtfjjoohflcchnaaDoor.Gen
open Go Go.Lift Go.Conc Go.RowKit
open Go.ConcN (upd upd_same upd_ne)
variable {mc:Mc}
section
variable {k N:Nat} {X:Nat→Fix mc} {l:Nat→Ph} {E:Nat→Nat→Prop} {M:Nat→Nat→Option Obj} {Mm:Keep} {z:Nat→Option Nat} {cont:Addr→Value} {Ch:Nat→Prop} {S:TS} {K:List (Nat×Int)} {v:World} {B:Nat} {Mb:Nat→Prop} {Inb:Nat→Option Seat} {h:Nat} {T:Trace} {gs:Array Goroutine} {w:World} {q:Nat→Nat}
theorem Holds.fewer (H:Holds k (N+1) X l E M Mm z cont Ch S K v B Mb Inb h T gs w q):Holds k N X l E M Mm z cont Ch S K v B Mb Inb h T gs w q :=
 ⟨H.ring,H.mb,H.b,H.rel,H.mem,H.crew,⟨fun i hi=>by obtain ⟨n,h1,h2⟩:=H.seats.seat i hi;exact ⟨n,by omega,h2⟩,H.seats.none,H.seats.main⟩,H.len,H.stt⟩
theorem round_stuck {u:Nat→Value} {cs:List Frame} (H:Holds k N X l E M Mm z cont Ch S K v B Mb Inb 0 T gs w q) (hg:gs[0]? = some (G (tFr S.wb u) cs)) (h8:k≤8) (h0:rdyIds S S.thr.length=[]) (hw:waits2 S S.thr.length=true) (hn:(S.n+1)*40≤140737488355328) (sl:Option (Nat×Nat)) :
 ∃ (N':Nat) (gs':Array Goroutine) (w':World) (sl':Option (Nat×Nat)) (T':Trace) (q':Nat→Nat) (B':Nat) (S':TS) (v':World) (u':Nat→Value),
   runNT Tryd.prog N' (crowd gs w sl) T=(.next (crowd gs' w' sl'),T')∧gs'.size=gs.size∧gs'[0]? = some (G (tFr S'.wb u') cs)∧nv S'=stuckS (nv S) undef ∧
   Holds k N X l E M Mm z cont Ch S' K v' B' Mb Inb 0 T' gs' w' q':=by
 have cr:=H.crew
 have hG:GoesI Tryd.prog ((0:Nat)==0) (DT (ScZ z) Ch) (fun g w'=>(∃ u,g=G (tFr S.wb u) cs)∧∃ v' tv,Rel z v' w'∧Evo z S K v (stuckS S tv) K v') (G (tFr S.wb u) cs) w :=
  turn_in u cs (fun bd ad od qd rd oe kd hoe hT hF code hcode=>turn50_stuck cs hoe H.rel cr.noRow H.mem (by rw [H.len];exact h8) h0 hw hn (fun v' w' tv hr hn he=>hT z Ch _ w' (fun u'=>GoesI.stop fun d=>⟨⟨u',rfl⟩,v',tv,hr.re rfl rfl rfl rfl rfl rfl,he⟩)) code hcode)
 obtain ⟨N1,gs1,a1,w1,sl1,T1,q1,B1,r1,z1,h1,⟨⟨u1,rfl⟩,v1,tv,hr1,he1⟩,⟨hB1,hB1b,hB1c⟩,C1⟩:=hold_goes (fun w d h=>kc_at w d h) (dh_of_dt (seat_ch cr H.seats)) hG gs sl T q B hg H.ring
 refine ⟨N1,gs1,w1,sl1,T1,q1,B1,stuckS S tv,v1,u1,r1,z1,h1,rfl,⟨C1,H.mb,by have:=H.b;omega,hr1,he1.mem,by rw [z1];exact cr.main H.mem he1 rfl rfl rfl (fun i t ht=>⟨t,ht,rfl,rfl,rfl,rfl,id⟩),H.seats,H.len,H.stt⟩⟩
theorem round_end {u:Nat→Value} {cs:List Frame} {bc:Frame} {ac:Act} {ops:Array Oper} {q0:Nat} {rest:List Nat} {oc:Oper} {k0:List Item} (hoc:ops[q0]? = some oc) (H:Holds k N X l E M Mm z cont Ch S K v B Mb Inb 0 T gs w q) (hg:gs[0]? = some (G (tFr S.wb u) (bc.at ac (.inRegion ops (q0 :: rest) :: k0) :: cs))) (h8:k≤8) (h0:rdyIds S S.thr.length=[]) (hw:waits2 S S.thr.length=false) (sl:Option (Nat×Nat)) :
 ∃ (N':Nat) (gs':Array Goroutine) (w':World) (sl':Option (Nat×Nat)) (T':Trace) (q':Nat→Nat) (B':Nat) (v':World),
   runNT Tryd.prog N' (crowd gs w sl) T=(.next (crowd gs' w' sl'),T')∧gs'.size=gs.size∧gs'[0]? = some (G (bc.at (ac.put oc.dst (.tuple #[])) (.inRegion ops rest :: k0)) cs) ∧
   Holds k N X l E M Mm z cont Ch S K v' B' Mb Inb 0 T' gs' w' q':=by
 have cr:=H.crew
 have hG:GoesI Tryd.prog ((0:Nat)==0) (DT (ScZ z) Ch) (fun g w'=>g=G (bc.at (ac.put oc.dst (.tuple #[])) (.inRegion ops rest :: k0)) cs∧∃ v',Rel z v' w'∧Evo z S K v S K v') (G (tFr S.wb u) (bc.at ac (.inRegion ops (q0 :: rest) :: k0) :: cs)) w :=
  turn_in u _ (fun bd ad od qd rd oe kd hoe hT hF code hcode=>turn50_end _ hoe H.rel cr.noRow H.mem (by rw [H.len];exact h8) h0 hw (fun v' w' hr hn he=>hF z Ch _ w' bc ac ops q0 rest oc k0 cs rfl hoc (GoesI.stop fun d=>⟨rfl,v',hr.re rfl rfl rfl rfl rfl rfl,he⟩)) code hcode)
 obtain ⟨N1,gs1,a1,w1,sl1,T1,q1,B1,r1,z1,h1,⟨rfl,v1,hr1,he1⟩,⟨hB1,hB1b,hB1c⟩,C1⟩:=hold_goes (fun w d h=>kc_at w d h) (dh_of_dt (seat_ch cr H.seats)) hG gs sl T q B hg H.ring
 exact ⟨N1,gs1,w1,sl1,T1,q1,B1,v1,r1,z1,h1,⟨C1,H.mb,by have:=H.b;omega,hr1,he1.mem,by rw [z1];exact cr.main H.mem he1 rfl rfl rfl (fun i t ht=>⟨t,ht,rfl,rfl,rfl,rfl,id⟩),H.seats,H.len,H.stt⟩⟩
theorem all_done (H:Holds k N X l E M Mm z cont Ch S K v B Mb Inb h T gs w q) (h0:rdyIds S S.thr.length=[]) (hw:waits2 S S.thr.length=false):∀ i,i<k→∃ a,l i=.done a:=by
 intro i hi
 obtain ⟨t,ht,_⟩:=H.crew.thr i hi
 have hs:=H.stt i hi t ht
 have hlt:i<S.thr.length:=by rw [H.len];exact hi
 match hl:l i,hs with
 |.done a,_=>exact ⟨a,rfl⟩
 |.turn _ _ _ _ _ _,hs =>
  exfalso
  have:i∈rdyIds S S.thr.length:=by
   unfold rdyIds
   rw [List.mem_filter,List.mem_range]
   refine ⟨hlt,?_⟩
   rw [ht]
   have hs':t.st=1:=hs
   simp [rdy,hs']
  rw [h0] at this
  cases this
 |.wait _ _ _ _ _,hs =>
  exfalso
  have hs':t.st=2:=hs
  have:waits2 S S.thr.length=true:=by
   unfold waits2
   rw [List.any_eq_true]
   exact ⟨i,by simpa using hlt,by rw [ht];simp [hs']⟩
  rw [hw] at this
  cases this
end
inductive Turns (nk:Mc):Nat→PSt→PSt→Prop
 |stop {p:PSt}:pturn nk p=none→Turns nk 0 p p
 |step {n:Nat} {p p1 p':PSt}:pturn nk p=some p1→Turns nk n p1 p'→Turns nk (n+1) p p'
theorem nv_picked (S:TS):nv (picked S)=picked (nv S):=by
 unfold picked
 by_cases h:S.us<S.sched.length
 ·rw [if_pos h,if_pos (show (nv S).us<(nv S).sched.length from h)];rfl
 ·rw [if_neg h,if_neg (show ¬ (nv S).us<(nv S).sched.length from h)]
theorem nv_going (S:TS) (i:Nat) (t:Thr):nv (going S i t)=going (nv S) i t:=by
 unfold going
 rw [←nv_picked]
 rfl
theorem pickAt_lt (S:TS) {ids:List Nat} (h:0<ids.length):pickAt S ids<ids.length:=by
 unfold pickAt
 split
 ·exact which_lt _ h
 ·cases hf:ids.findIdx? (fun (i:Nat)=>decide (S.la<(i:Int))) with
  |none=>exact h
  |some k=>exact (List.findIdx?_eq_some_iff_getElem.1 hf).1
theorem going_n (S:TS) (i:Nat) (t:Thr):(going S i t).n=S.n∧(going S i t).sched=S.sched:=by
 unfold going picked
 split<;>exact ⟨rfl,rfl⟩
theorem pturn_n {nk:Mc} {p p1:PSt} (h:pturn nk p=some p1):p.S.n≤p1.S.n∧p1.S.sched=p.S.sched:=by
 unfold pturn at h
 split at h
 ·split at h
  ·cases h;exact ⟨Nat.le_succ _,rfl⟩
  ·cases h
 ·cases h
  have s:=resume_sta (nextI p.S) nk (p.l (nextI p.S)) (going p.S (nextI p.S) (thrI p.S (nextI p.S))) p.K
  have g:=going_n p.S (nextI p.S) (thrI p.S (nextI p.S))
  exact ⟨by rw [←g.1];exact s.n,by rw [←g.2];exact s.sched⟩
theorem Turns.le {nk:Mc}:∀ {n:Nat} {p p':PSt},Turns nk n p p'→p.S.n≤p'.S.n
 |_,_,_,.stop _=>Nat.le_refl _
 |_,_,_,.step h t=>Nat.le_trans (pturn_n h).1 t.le
theorem turns_run {k:Nat} {X:Nat→Fix mc} {Mm:Keep} {z:Nat→Option Nat} {cont:Addr→Value} {Ch:Nat→Prop} {cs:List Frame} {bc:Frame} {ac:Act} {ops:Array Oper} {q0:Nat} {rest:List Nat} {oc:Oper} {k0:List Item} (hoc:ops[q0]? = some oc) (h8:k≤8) :
 ∀ (n:Nat) (p p':PSt),Turns mc n p p'→∀ (l:Nat→Ph) (E:Nat→Nat→Prop) (M:Nat→Nat→Option Obj) (S:TS) (K:List (Nat×Int)) (v:World) (B:Nat) (Mb:Nat→Prop) (Inb:Nat→Option Seat) (T:Trace) (gs:Array Goroutine) (w:World) (q:Nat→Nat) (sl:Option (Nat×Nat)) (u:Nat→Value),
   p.S=nv S→p.K=K→p.l=l→S.sched.length≤4611686018427387904→(∀ x∈S.sched,-9223372036854775808≤x∧x<9223372036854775808)→p'.S.n*40≤140737488355328 →
   Holds k n X l E M Mm z cont Ch S K v B Mb Inb 0 T gs w q→gs[0]? = some (G (tFr S.wb u) (bc.at ac (.inRegion ops (q0 :: rest) :: k0) :: cs)) →
   ∃ (N':Nat) (gs':Array Goroutine) (w':World) (sl':Option (Nat×Nat)) (T':Trace) (q':Nat→Nat) (B':Nat) (Mb':Nat→Prop) (Inb':Nat→Option Seat) (S':TS) (v':World) (E':Nat→Nat→Prop) (M':Nat→Nat→Option Obj),
     runNT Tryd.prog N' (crowd gs w sl) T=(.next (crowd gs' w' sl'),T')∧gs'.size=gs.size∧gs'[0]? = some (G (bc.at (ac.put oc.dst (.tuple #[])) (.inRegion ops rest :: k0)) cs)∧nv S'=p'.S ∧
     Holds k 0 X p'.l E' M' Mm z cont Ch S' p'.K v' B' Mb' Inb' 0 T' gs' w' q'∧∀ i,i<k→∃ a,p'.l i=.done a:=by
 intro n p p' ht
 induction ht with
 |stop hp =>
  rename_i p
  intro l E M S K v B Mb Inb T gs w q sl u hS hK hl hsl hsc hn H hg
  unfold pturn at hp
  split at hp
  ·rename_i h0
   split at hp
   ·cases hp
   ·rename_i hw
    rw [hS] at h0 hw
    have hw':waits2 S S.thr.length=false:=Bool.eq_false_iff.2 hw
    obtain ⟨N',gs',w',sl',T',q',B',v',r,z1,h1,H1⟩:=round_end hoc H hg h8 h0 hw' sl
    rw [hl,hK]
    exact ⟨N',gs',w',sl',T',q',B',Mb,Inb,S,v',E,M,r,z1,h1,hS.symm,H1,all_done H1 h0 hw'⟩
  ·cases hp
 |step hp htt ih =>
  rename_i n p p1 p'
  intro l E M S K v B Mb Inb T gs w q sl u hS hK hl hsl hsc hn H hg
  have hp0:=hp
  unfold pturn at hp
  split at hp
  ·rename_i h0
   split at hp
   ·rename_i hw
    have hp1:=Option.some.inj hp
    rw [hS] at h0 hw
    have hle:=htt.le
    rw [←hp1,hS] at hle
    obtain ⟨N',gs',w',sl',T',q',B',S',v',u',r,z1,h1,hS1,H1⟩:=round_stuck H.fewer hg h8 h0 hw (Nat.le_trans (Nat.mul_le_mul_right 40 hle) hn) sl
    have es:S'.sched=S.sched:=by
     have:=congrArg TS.sched hS1
     exact this
    obtain ⟨N2,gs2,w2,sl2,T2,q2,B2,Mb2,Inb2,S2,v2,E2,M2,r2,z2,h2,hS2,H2,hd⟩:=ih l E M S' K v' B' Mb Inb T' gs' w' q' sl' u' (by rw [←hp1,hS1,hS]) (by rw [←hp1];exact hK) (by rw [←hp1];exact hl) (by rw [es];exact hsl) (by rw [es];exact hsc) hn H1 h1
    exact ⟨N'+N2,gs2,w2,sl2,T2,q2,B2,Mb2,Inb2,S2,v2,E2,M2,runNT_then r r2,z2.trans z1,h2,hS2,H2,hd⟩
   ·cases hp
  ·rename_i h0
   have hp1:=Option.some.inj hp
   rw [hS] at h0
   have hlen:0<(rdyIds S S.thr.length).length:=List.length_pos_iff.2 h0
   have hpk:pickAt S (rdyIds S S.thr.length)<(rdyIds S S.thr.length).length:=pickAt_lt S hlen
   obtain ⟨i,hi⟩:∃ i,(rdyIds S S.thr.length)[pickAt S (rdyIds S S.thr.length)]? = some i:=⟨_,List.getElem?_eq_getElem hpk⟩
   have hni:nextI p.S=i:=by
    rw [hS]
    show ((rdyIds S S.thr.length)[pickAt S (rdyIds S S.thr.length)]?).getD 0=i
    rw [hi];rfl
   have eR:resume (nextI p.S) mc (p.l (nextI p.S)) (going p.S (nextI p.S) (thrI p.S (nextI p.S))) p.K=resume i mc (l i) (nv (going S i (thrI S i))) K:=by
    rw [hni,hl,hK,hS,nv_going]
    rfl
   rw [eR,hni,hl] at hp1
   have hle:=htt.le
   rw [←hp1] at hle
   obtain ⟨N',gs',w',sl',T',q',B',Mb',Inb',S',v',E',M',u',r,z1,h1,hS1,H1⟩:=round_go H hg h8 hsl hsc hi sl (Nat.le_trans (Nat.mul_le_mul_right 40 hle) hn)
   have es:S'.sched=S.sched:=by
    have e1:=congrArg TS.sched hS1
    have e2:=(resume_sta i mc (l i) (nv (going S i (thrI S i))) K).sched
    have e3:=(going_n S i (thrI S i)).2
    exact e1.trans (e2.trans e3)
   obtain ⟨N2,gs2,w2,sl2,T2,q2,B2,Mb2,Inb2,S2,v2,E2,M2,r2,z2,h2,hS2,H2,hd⟩:=ih _ E' M' S' _ v' B' Mb' Inb' T' gs' w' q' sl' u' (by rw [←hp1];exact hS1.symm) (by rw [←hp1]) (by rw [←hp1]) (by rw [es];exact hsl) (by rw [es];exact hsc) hn H1 h1
   exact ⟨N'+N2,gs2,w2,sl2,T2,q2,B2,Mb2,Inb2,S2,v2,E2,M2,runNT_then r r2,z2.trans z1,h2,hS2,H2,hd⟩
end Go.Proofs.YtfjjoohflcchnaaDoor.Gen
namespace Go.Lift
open Go.Conc
open Go.ConcN (sumTo upd sumTo_upd upd_ne upd_same)
theorem touch_low {x:MemAct} {a:Touch} {B:Nat} (h:x.touch? = some a) (hl:x.low B):a.loc.low B:=by
 cases x with
 |access e =>
  simp only [MemAct.touch?,Option.some.injEq] at h
  subst h
  exact hl
 |mark m=>cases m<;>simp only [MemAct.touch?,Option.some.injEq,reduceCtorEq] at h<;>(subst h;exact hl)
 |go _|start=>cases h
 |send _ _|sendDone _ _|recv _ _ _|recvDone _ _|close _|recvClosed _=>cases h
end Go.Lift
namespace Go.Proofs.YtfjjoohflcchnaaDoor.Gen
open Go Go.Lift Go.Conc Go.RowKit
open Go.ConcN (upd upd_same upd_ne)
variable {mc:Mc}
def hiredS (S:TS) (tv:Value) (tb gc:Nat):TS:={ S with ths:=tv,thr:=S.thr++[⟨tb,gc,0,0,0,0⟩] }
def hireV (S:TS) (v:World):World:={ v with heap:=(v.heap.push (.chan 0 #[] false 0 0 false)).push (.cells (trow S.wb S.thr.length v.heap.size 0 0 0 0) 107 (2,3)) }
def zAdd (z:Nat→Option Nat) (tb:Nat) (b:Nat):Option Nat:=if b=tb then some 2 else z b
theorem hireV_old (S:TS) (v:World) {b:Nat} (hb:b<v.heap.size):(hireV S v).heap[b]? = v.heap[b]?:=by
 show ((v.heap.push _).push _)[b]? = _
 rw [Array.getElem?_push_lt (by simp;omega),Array.getElem_push_lt hb,Array.getElem?_eq_getElem hb]
theorem hireV_chan (S:TS) (v:World):(hireV S v).heap[v.heap.size]? = some (.chan 0 #[] false 0 0 false):=by
 show ((v.heap.push _).push _)[v.heap.size]? = _
 simp [Array.getElem?_push]
theorem hireV_row (S:TS) (v:World):(hireV S v).heap[v.heap.size+1]? = some (.cells (trow S.wb S.thr.length v.heap.size 0 0 0 0) 107 (2,3)):=by
 have:v.heap.size+1=(v.heap.push (Obj.chan 0 #[] false 0 0 false)).size:=by simp
 show ((v.heap.push _).push _)[v.heap.size+1]? = _
 rw [this]
 exact Array.getElem?_push_size
theorem hireV_size (S:TS) (v:World):(hireV S v).heap.size=v.heap.size+2:=by simp [hireV]
theorem thr_add {z:Nat→Option Nat} {S:TS} {K:List (Nat×Int)} {v v3:World} (hm:Mem z S K v) (hz:z (v.heap.size+1)=none) (hT:Threaded S.wb S.ths S.thr.length S.base (S.thr.map fun t=>Pt t.tb 0) (Pt (v.heap.size+1) 0) (hireV S v) v3) :
 ∃ tv,Mem (zAdd z (v.heap.size+1)) (hiredS S tv (v.heap.size+1) v.heap.size) K v3∧(∀ b,b<v.heap.size→¬ Own S K b→v3.heap[b]? = v.heap[b]?)∧(∀ b,Own (hiredS S tv (v.heap.size+1) v.heap.size) K b→Own S K b∨v.heap.size≤b)∧v3.heap[v.heap.size]? = some (.chan 0 #[] false 0 0 false)∧v.heap.size+2≤v3.heap.size:=by
 obtain ⟨g,cap,q1,q2,q3,q5⟩:=hT
 have hs:=hireV_size S v
 have r:=hm.rep
 have hwb:S.wb<v.heap.size:=r.lt (k:=0) rfl
 have hths:∀ b,S.ths.ownBlock=some b→b<v.heap.size:=fun b hb=>r.lt (k:=2) hb
 have hst:∀ b,b<v.heap.size+2→b≠S.wb→some b≠S.ths.ownBlock→v3.heap[b]? = (hireV S v).heap[b]?:=fun b hb h1 h2=>q5.block b (by rw [hs];exact hb) (fun h=>h.elim h1 h2)
 have hst':∀ b,b<v.heap.size→b≠S.wb→some b≠S.ths.ownBlock→v3.heap[b]? = v.heap[b]?:=fun b hb h1 h2=>by rw [hst b (by omega) h1 h2,hireV_old S v hb]
 have hits:∀ k b,blk S k=some b→k≠0→k≠2→v3.heap[b]? = v.heap[b]?:=fun k b hk h0 h2=>hst' b (r.lt hk) (fun e=>h0 (r.apart k 0 b hk (by rw [e];rfl))) (fun e=>h2 (r.apart k 2 b hk e.symm))
 have hgb:g=g∧(S.ths.ownBlock=some g∨v.heap.size+2≤g):=⟨rfl,by rw [hs] at q3;exact q3⟩
 have hsz:v.heap.size+2≤v3.heap.size:=by have:=q5.size;omega
 have hfz:∀ b,b<v.heap.size→fz (zAdd z (v.heap.size+1)) b=fz z b:=fun b hb=>by
  unfold fz zAdd
  rw [if_neg (by omega)]
 have hblk:∀ k b,blk (hiredS S (.slice (some ⟨g,0,none⟩) (S.thr.length+1) cap) (v.heap.size+1) v.heap.size) k=some b→(k≠2∧blk S k=some b)∨(k=2∧b=g)∨(k=S.thr.length+5∧b=v.heap.size+1):=fun k b hk=>by
  match k,hk with
  |0,hk=>exact .inl ⟨by omega,hk⟩
  |1,hk=>exact .inl ⟨by omega,hk⟩
  |2,hk=>cases hk;exact .inr (.inl ⟨rfl,rfl⟩)
  |3,hk=>exact .inl ⟨by omega,hk⟩
  |4,hk=>exact .inl ⟨by omega,hk⟩
  |k+5,hk =>
   simp only [blk,hiredS,Option.map_eq_some_iff] at hk
   obtain ⟨t,ht,rfl⟩:=hk
   rcases Nat.lt_trichotomy k S.thr.length with hlt|rfl|hgt
   ·rw [List.getElem?_append_left hlt] at ht
    exact .inl ⟨by omega,by simp [blk,ht]⟩
   ·rw [List.getElem?_append_right (Nat.le_refl _)] at ht
    simp at ht
    subst ht
    exact .inr (.inr ⟨rfl,rfl⟩)
   ·rw [List.getElem?_append_right (by omega)] at ht
    have:k - S.thr.length≠0:=by omega
    simp [this] at ht
 have hlow:∀ k b,blk S k=some b→b≠v.heap.size+1:=fun k b hk e=>by have:=r.lt hk;omega
 have hgne:∀ k b,k≠2→blk S k=some b→b≠g:=fun k b hk2 hk e=>by
  rcases hgb.2 with h1|h1
  ·exact hk2 (r.apart k 2 b hk (by rw [e];exact h1))
  ·have:=r.lt hk;omega
 have hgtb:g≠v.heap.size+1:=fun e=>by
  rcases hgb.2 with h1|h1
  ·have:=hths g h1;omega
  ·omega
 refine ⟨.slice (some ⟨g,0,none⟩) (S.thr.length+1) cap,⟨⟨?_,fun i t ht=>?_,own_stay (fun b hb=>hits 3 b hb (by omega) (by omega)) r.own,own_stay (fun b hb=>hits 1 b hb (by omega) (by omega)) r.chg,?_,own_stay (fun b hb=>hits 4 b hb (by omega) (by omega)) r.sch,?_,fun j k b hj hk=>?_,fun b n hzb=>?_⟩,fun j c hc=>?_,fun j c hc hi=>?_,hm.inj,hm.len⟩,fun b hb ho=>?_,fun b ho=>?_,?_,hsz⟩
 ·have:=q1 _ _ _ (by rw [hireV_old S v hwb];exact r.wor)
  show v3.heap[S.wb]? = some (.cells (wrow (hiredS S _ _ _)) 97 (fz (zAdd z (v.heap.size+1)) S.wb))
  rw [hfz S.wb hwb]
  simpa [hiredS] using this
 ·rcases Nat.lt_trichotomy i S.thr.length with hlt|rfl|hgt
  ·rw [show (hiredS S _ _ _).thr[i]? = S.thr[i]? from List.getElem?_append_left hlt] at ht
   have hb:blk S (i+5)=some t.tb:=by simp [blk,ht]
   rw [hits (i+5) t.tb hb (by omega) (by omega),hfz t.tb (r.lt hb)]
   exact r.thr i t ht
  ·have ht':(S.thr++[(⟨v.heap.size+1,v.heap.size,0,0,0,0⟩:Thr)])[S.thr.length]? = some t:=ht
   rw [List.getElem?_append_right (Nat.le_refl _)] at ht'
   simp at ht'
   subst ht'
   show v3.heap[v.heap.size+1]? = some (.cells (trow S.wb S.thr.length v.heap.size 0 0 0 0) 107 (fz (zAdd z (v.heap.size+1)) (v.heap.size+1)))
   rw [hst (v.heap.size+1) (by omega) (by omega) (fun e=>by have:=hths _ e.symm;omega),hireV_row]
   unfold fz zAdd
   rw [if_pos rfl]
  ·have ht':(S.thr++[(⟨v.heap.size+1,v.heap.size,0,0,0,0⟩:Thr)])[i]? = some t:=ht
   rw [List.getElem?_append_right (by omega)] at ht'
   have:i - S.thr.length≠0:=by omega
   simp [this] at ht'
 ·show v3.ownsRow S.base 48 1 (.slice (some ⟨g,0,none⟩) (S.thr.length+1) cap) (S.thr++[(⟨v.heap.size+1,v.heap.size,0,0,0,0⟩:Thr)]).length ((S.thr++[(⟨v.heap.size+1,v.heap.size,0,0,0,0⟩:Thr)]).map fun t=>Pt t.tb 0)
  rw [List.length_append,List.map_append]
  exact q2
 ·show S.base≤v3.heap.size
  have:=r.bs;omega
 ·rcases hblk j b hj with ⟨n1,e1⟩|⟨n1,e1⟩|⟨n1,e1⟩<;>rcases hblk k b hk with ⟨n2,e2⟩|⟨n2,e2⟩|⟨n2,e2⟩
  ·exact r.apart j k b e1 e2
  ·exact absurd e2 (hgne j b n1 e1)
  ·exact absurd e2 (hlow j b e1)
  ·exact absurd e1 (hgne k b n2 e2)
  ·rw [n1,n2]
  ·exact absurd (e1.symm.trans e2) hgtb
  ·exact absurd e1 (hlow k b e2)
  ·exact absurd (e2.symm.trans e1) hgtb
  ·rw [n1,n2]
 ·unfold zAdd at hzb
  split at hzb
  ·cases hzb
   rename_i e
   exact .inr ⟨S.thr.length,⟨v.heap.size+1,v.heap.size,0,0,0,0⟩,by show (S.thr++[_])[S.thr.length]? = _;simp,e,rfl⟩
  ·rcases r.kept b n hzb with h1|⟨i,t,ht,h2,h3⟩
   ·exact .inl h1
   ·have hlt:i<S.thr.length:=(List.getElem?_eq_some_iff.1 ht).1
    exact .inr ⟨i,t,by show (S.thr++[_])[i]? = _;rw [List.getElem?_append_left hlt];exact ht,h2,h3⟩
 ·have hb:=hm.lt (.inr ⟨j,c,hc,rfl⟩)
  rw [hst' c.1 hb (fun e=>hm.far j c hc ⟨0,by rw [e];rfl⟩) (fun e=>hm.far j c hc ⟨2,e.symm⟩)]
  exact hm.cel j c hc
 ·obtain ⟨k,hk⟩:=hi
  have hb:=hm.lt (.inr ⟨j,c,hc,rfl⟩)
  rcases hblk k c.1 hk with ⟨_,e1⟩|⟨_,e1⟩|⟨_,e1⟩
  ·exact hm.far j c hc ⟨k,e1⟩
  ·rcases hgb.2 with h1|h1
   ·exact hm.far j c hc ⟨2,by rw [e1];exact h1⟩
   ·omega
  ·omega
 ·exact hst' b hb (fun e=>ho (.inl ⟨0,by rw [e];rfl⟩)) (fun e=>ho (.inl ⟨2,e.symm⟩))
 ·rcases ho with ⟨k,hk⟩|hc
  ·rcases hblk k b hk with ⟨_,e1⟩|⟨_,e1⟩|⟨_,e1⟩
   ·exact .inl (.inl ⟨k,e1⟩)
   ·rcases hgb.2 with h1|h1
    ·exact .inl (.inl ⟨2,by rw [e1];exact h1⟩)
    ·right;omega
   ·right;omega
  ·exact .inl (.inr hc)
 ·rw [hst v.heap.size (by omega) (by omega) (fun e=>by have:=hths _ e.symm;omega),hireV_chan]
variable {mc:Mc}
section
variable {k:Nat} {X:Nat→Fix mc} {l:Nat→Ph} {E:Nat→Nat→Prop} {M:Nat→Nat→Option Obj} {Mm:Keep} {z z':Nat→Option Nat} {cont cont':Addr→Value} {Ch Ch':Nat→Prop} {S S':TS} {K K':List (Nat×Int)} {v v':World} {gsz gsz':Nat}
theorem has_move {m:Nat→Option Obj} (hkeep:∀ b,b<v.heap.size→¬ Own S K b→v'.heap[b]? = v.heap[b]?) (hown:∀ b,Own S' K' b→Own S K b∨v.heap.size≤b) (hM:Has m v) (hfar:∀ b,m b≠none→¬ Own S K b):Has m v'∧∀ b,m b≠none→¬ Own S' K' b:=by
 refine ⟨fun b o hb=>?_,fun b hb ho=>?_⟩
 ·have hne:m b≠none:=by rw [hb];simp
  rw [hkeep b (hM.lt hne) (hfar b hne)]
  exact hM b o hb
 ·rcases hown b ho with h1|h1
  ·exact hfar b hb h1
  ·have:=hM.lt hb;omega
theorem Crew.move (h:Crew k X l E M Mm z cont Ch S K v gsz) (hkeep:∀ b,b<v.heap.size→¬ Own S K b→v'.heap[b]? = v.heap[b]?) (hown:∀ b,Own S' K b→Own S K b∨v.heap.size≤b)
 (hthr:∀ i,i<k→S'.thr[i]? = S.thr[i]?) (hlen:k≤S'.thr.length) (hwb:S'.wb=S.wb) (hbk:S'.bk=S.bk) (hgs:gsz≤gsz')
 (hz:∀ b n,z b=some n→z' b=some n∧cont' ⟨b,n,none⟩=cont ⟨b,n,none⟩) (hch:∀ c,Ch c→Ch' c) (hzc:∀ c,Ch' c→z' c=none) (hopn:∀ c,Ch' c→Open v' c) (hnc:∀ c,Ch' c→Ch c∨v.heap.size≤c) (hio:v'.os=v.os∧v'.output=v.output):Crew k X l E M Mm z' cont' Ch' S' K v' gsz':=by
 refine ⟨hlen,h.ok,fun i hi=>?_,h.hinj,h.ginj,fun i hi=>by rw [hbk];exact h.gbk i hi,fun i hi=>Nat.lt_of_lt_of_le (h.hlt i hi) hgs,fun i hi=>?_,?_,hzc,hopn,fun i hi=>?_,h.apart,?_⟩
 ·obtain ⟨t,h1,h2⟩:=h.thr i hi
  exact ⟨t,by rw [hthr i hi];exact h1,h2⟩
 ·have a:=h.zs i hi
  have b:=hz _ _ a.1
  exact ⟨b.1,b.2.trans a.2.1,hch _ a.2.2⟩
 ·rw [hwb,hbk]
  have a:=h.z0
  have b:=hz _ _ a.1
  exact ⟨b.1,b.2.trans a.2.1,hch _ a.2.2⟩
 ·have:=h.sees i hi
  exact ⟨this.1,has_move hkeep hown this.2.1 this.2.2⟩
 ·have:=has_move hkeep hown h.mine.1 h.mine.2.1
  exact ⟨this.1,this.2,fun b hb hc=>(hnc b hc).elim (h.mine.2.2.1 b hb) (fun hle=>by have:=h.mine.1.lt hb;omega),h.mine.2.2.2.1,hio.1.trans h.mine.2.2.2.2.1,hio.2.trans h.mine.2.2.2.2.2⟩
theorem Crew.add (h:Crew k X l E M Mm z cont Ch S K v gsz) {Y:Fix mc} (he:EvoP (fun b=>b=Y.ab∨False) z S K v S' K' v') (hst:Sta k S S') {l':Ph} {E':Nat→Prop} {M':Nat→Option Obj} {Mm':Keep}
 (hfit:∃ t',S'.thr[k]? = some t'∧FitsN l' t') (hs:Sees Y E' M' l'.ans) (hM':Has M' v') (hfar:∀ b,M' b≠none→¬ Own S' K' b) (hnew:∀ b,E' b→False∨v.heap.size≤b)
 (hok:Y.Ok∧Y.i=k∧K.map (·.1)=Y.kb) (htY:∃ t,S.thr[k]? = some t∧t.tb=Y.tb∧t.gc=Y.gc) (hm:Mem z S K v)
 (hh:∀ j,j<k→(X j).h≠Y.h) (hgc:∀ j,j<k→(X j).gc≠Y.gc) (hgbk:Y.gc≠S.bk) (hlt:Y.h<gsz) (hzY:z Y.tb=some 2∧cont ⟨Y.tb,2,none⟩=.chan (some Y.gc)∧Ch Y.gc)
 (habM:∀ j,j<k→∀ b,M j b≠none→b≠Y.ab) (habm:∀ b,Mm'.M b≠none→b≠Y.ab) (hMm:∀ b o,Mm'.M b=some o→Mm.M b=some o) (hYp:∀ b,Y.Pr b→v.heap.size≤b∨Mm.M b≠none) (hio:Mm'.os=Mm.os∧Mm'.out=Mm.out) :
 Crew (k+1) (upd X k Y) (upd l k l') (upd E k E') (upd M k M') Mm' z cont Ch S' K' v' gsz:=by
 have hX:∀ j,j<k→upd X k Y j=X j:=fun j hj=>upd_ne _ _ (by omega)
 have hl:∀ j,j<k→upd l k l' j=l j:=fun j hj=>upd_ne _ _ (by omega)
 have hE:∀ j,j<k→upd E k E' j=E j:=fun j hj=>upd_ne _ _ (by omega)
 have hM:∀ j,j<k→upd M k M' j=M j:=fun j hj=>upd_ne _ _ (by omega)
 have cs:∀ j,j<k+1→j<k∨j=k:=fun j hj=>by omega
 have hMlt:∀ j,j<k→∀ b,M j b≠none→b<v.heap.size:=fun j hj b hb=>(h.sees j hj).2.1.lt hb
 have hab:Y.ab<v.heap.size→Mm.M Y.ab≠none:=fun hlt=>(hYp Y.ab (.inr (.inr (.inl rfl)))).elim (fun hle=>by omega) id
 have hopn:∀ c,Ch c→Open v' c:=fun c hc=>by
  obtain ⟨cap,n,hh⟩:=h.opn c hc
  have hcl:=(Array.getElem?_eq_some_iff.1 hh).1
  refine ⟨cap,n,?_⟩
  rw [(he.keeps hcl (fun ho=>?_) (fun hw=>?_)).1,hh]
  ·obtain ⟨x,e,f,h1⟩:=hm.row ho
   rw [hh] at h1;cases h1
  ·rcases hw with rfl|hw
   ·exact h.mine.2.2.1 _ (hab hcl) hc
   ·exact hw
 have hMd:∀ b,M' b≠none→∀ j,j<k→¬ (b=(X j).ab∨E j b):=fun b hb j hj hx=>by
  have hlt:=hMlt j hj b (h.abM hj hx)
  rcases hs.dom b hb with h1|h1
  ·rcases hYp b h1 with h2|h2
   ·omega
   ·exact h.mine.2.2.2.1 j hj b h2 hx
  ·rcases hnew b h1 with h2|h2
   ·exact h2
   ·omega
 refine ⟨?_,fun j hj=>?_,fun j hj=>?_,fun i j hi hj e=>?_,fun i j hi hj e=>?_,fun j hj=>?_,fun j hj=>?_,fun j hj=>?_,by rw [hst.wb,hst.bk];exact h.z0,h.zc,hopn,fun j hj=>?_,fun i j hi hj hne b hb hx=>?_,?_⟩
 ·obtain ⟨t,ht,_⟩:=htY
  rw [hst.len]
  exact (List.getElem?_eq_some_iff.1 ht).1
 ·rcases cs j hj with hj|rfl
  ·rw [hX j hj]
   exact ⟨(h.ok j hj).1,(h.ok j hj).2.1,he.blks.trans (h.ok j hj).2.2⟩
  ·rw [upd_same]
   exact ⟨hok.1,hok.2.1,he.blks.trans hok.2.2⟩
 ·rcases cs j hj with hj|rfl
  ·rw [hX j hj,hl j hj]
   obtain ⟨t,h1,h2⟩:=h.thr j hj
   exact ⟨t,by rw [hst.oth j (by omega)];exact h1,h2⟩
  ·rw [upd_same,upd_same]
   obtain ⟨t,h1,h2,h3⟩:=htY
   obtain ⟨t',k1,k2⟩:=hfit
   obtain ⟨t2,q1,q2,q3⟩:=hst.own t h1
   rw [k1] at q1
   cases q1
   exact ⟨t',k1,q2.trans h2,q3.trans h3,k2⟩
 ·rcases cs i hi with hi|rfl<;>rcases cs j hj with hj|rfl
  ·rw [hX i hi,hX j hj] at e;exact h.hinj i j hi hj e
  ·rw [hX i hi,upd_same] at e;exact absurd e (hh i hi)
  ·rw [hX j hj,upd_same] at e;exact absurd e.symm (hh j hj)
  ·rfl
 ·rcases cs i hi with hi|rfl<;>rcases cs j hj with hj|rfl
  ·rw [hX i hi,hX j hj] at e;exact h.ginj i j hi hj e
  ·rw [hX i hi,upd_same] at e;exact absurd e (hgc i hi)
  ·rw [hX j hj,upd_same] at e;exact absurd e.symm (hgc j hj)
  ·rfl
 ·rw [hst.bk]
  rcases cs j hj with hj|rfl
  ·rw [hX j hj];exact h.gbk j hj
  ·rw [upd_same];exact hgbk
 ·rcases cs j hj with hj|rfl
  ·rw [hX j hj];exact h.hlt j hj
  ·rw [upd_same];exact hlt
 ·rcases cs j hj with hj|rfl
  ·rw [hX j hj];exact h.zs j hj
  ·rw [upd_same];exact hzY
 ·rcases cs j hj with hj|rfl
  ·rw [hX j hj,hl j hj,hE j hj,hM j hj]
   have:=h.sees j hj
   exact ⟨this.1,keepM he this.2.1 this.2.2 (fun b hb hx=>hx.elim (habM j hj b hb) id)⟩
  ·rw [upd_same,upd_same,upd_same,upd_same]
   exact ⟨hs,hM',hfar⟩
 ·rcases cs i hi with hi|rfl<;>rcases cs j hj with hj|rfl
  ·rw [hX i hi,hE i hi] at hx
   rw [hM j hj] at hb
   exact h.apart i j hi hj hne b hb hx
  ·rw [hX i hi,hE i hi] at hx
   rw [upd_same] at hb
   exact hMd b hb i hi hx
  ·rw [upd_same,upd_same] at hx
   rw [hM j hj] at hb
   rcases hx with h1|h1
   ·exact habM j hj b hb h1
   ·rcases hnew b h1 with h2|h2
    ·exact h2
    ·have:=hMlt j hj b hb;omega
  ·exact hne rfl
 ·have hmm:∀ b,Mm'.M b≠none→Mm.M b≠none:=fun b hb=>by
   obtain ⟨o,ho⟩:=Option.ne_none_iff_exists'.1 hb
   rw [hMm b o ho];simp
  have hMm':Has Mm'.M v:=fun b o hb=>h.mine.1 b o (hMm b o hb)
  have:=keepM he hMm' (fun b hb=>h.mine.2.1 b (hmm b hb)) (fun b hb hx=>hx.elim (habm b hb) id)
  refine ⟨this.1,this.2,fun b hb=>h.mine.2.2.1 b (hmm b hb),fun j hj b hb hx=>?_,(he.fr.os.trans h.mine.2.2.2.2.1).trans hio.1.symm,(he.fr.output.trans h.mine.2.2.2.2.2).trans hio.2.symm⟩
  rcases cs j hj with hj|rfl
  ·rw [hX j hj,hE j hj] at hx
   exact h.mine.2.2.2.1 j hj b (hmm b hb) hx
  ·rw [upd_same,upd_same] at hx
   rcases hx with h1|h1
   ·exact habm b hb h1
   ·rcases hnew b h1 with h2|h2
    ·exact h2
    ·have:=hMm'.lt hb;omega
end
section
variable {P:Program} {K K':World→Prop} {Still Still':Loc→Prop} {B B':Nat} {Mem:Nat→Prop} {Inb:Nat→Option Seat} {h:Nat} {T:Trace} {gs:Array Goroutine} {w:World} {q:Nat→Nat}
open Go.ConcN (sumTo)
theorem hold_mute (hKat:∀ w d,K w→K (w.at d)) {D:World→World→Array Event→Prop} {Stop:Goroutine→World→Prop} (hD:∀ w w' es,D w w' es→K w→(∀ i s c,Inb i=some s→s.has c→∃ o,w.heap[c]? = some o)→∀ B,DH K Still B Inb w w' es)
 {a:Goroutine} {w:World} (hG:GoesI P (h==0) D Stop a w):∀ (gs:Array Goroutine) (sl:Option (Nat×Nat)) (T:Trace) (q:Nat→Nat) (B:Nat),gs[h]? = some a→Ring P K Still B Mem Inb h T gs w q →
 ∃ (N:Nat) (gs':Array Goroutine) (a':Goroutine) (w':World) (sl':Option (Nat×Nat)) (T':Trace) (q':Nat→Nat),
   runNT P N (crowd gs w sl) T=(.next (crowd gs' w' sl'),T')∧gs'.size=gs.size∧gs'[h]? = some a'∧Stop a' w'∧Ring P K Still B Mem Inb h T' gs' w' q':=by
 refine hG.induct (M:=fun a w=>∀ (gs:Array Goroutine) (sl:Option (Nat×Nat)) (T:Trace) (q:Nat→Nat) (B:Nat),gs[h]? = some a→Ring P K Still B Mem Inb h T gs w q →
  ∃ (N:Nat) (gs':Array Goroutine) (a':Goroutine) (w':World) (sl':Option (Nat×Nat)) (T':Trace) (q':Nat→Nat),
    runNT P N (crowd gs w sl) T=(.next (crowd gs' w' sl'),T')∧gs'.size=gs.size∧gs'[h]? = some a'∧Stop a' w'∧Ring P K Still B Mem Inb h T' gs' w' q') ?_ ?_
 ·intro g w hs gs sl T q B ha C
  exact ⟨0,gs,g,w,sl,T,q,rfl,rfl,ha,hs w.drawn,C⟩
 ·intro g w hrun g' w' es e hDD _ ih
  have key:∀ (m:Nat) (gs:Array Goroutine) (sl:Option (Nat×Nat)) (T:Trace) (q:Nat→Nat) (B d₀:Nat),sumTo gs.size q=m→gs[h]? = some g→Ring P K Still B Mem Inb h T gs (w.at d₀) q →
   ∃ (N:Nat) (gs':Array Goroutine) (a':Goroutine) (w':World) (sl':Option (Nat×Nat)) (T':Trace) (q':Nat→Nat),
     runNT P N (crowd gs (w.at d₀) sl) T=(.next (crowd gs' w' sl'),T')∧gs'.size=gs.size∧gs'[h]? = some a'∧Stop a' w'∧Ring P K Still B Mem Inb h T' gs' w' q':=by
   intro m
   induction m using Nat.strongRecOn with
   |_ m ihm =>
    intro gs sl T q B d₀ hm ha C
    obtain ⟨i,x,d,sl',hi,hg,hst⟩:=crowd_pick (P:=P) (w:=w.at d₀) (sl:=sl) (C.awake ha (.inl hrun)) ⟨h,g,ha,hrun⟩
    have Cd:Ring P K Still B Mem Inb h T gs (w.at d) q:=TokCore.at hKat C d
    have hst':stepT P (crowd gs (w.at d₀) sl)=runT P (crowd gs (w.at d) sl') i:=hst
    by_cases ei:i=h
    ·subst ei
     obtain rfl:x=g:=by rw [ha] at hi;exact (Option.some.inj hi).symm
     have hB₀:=hD _ _ _ (hDD d) Cd.keep (fun j s c e hc=>by obtain ⟨cap,n,hk⟩:=Cd.chans j s c (fun z=>z) e hc;exact ⟨_,hk⟩)
     obtain ⟨C',ha'⟩:=Ring.own (a':=g' d) Cd hi (hB₀ B)
     obtain ⟨N,gs2,a2,w2,sl2,T2,q2,r,hsz,h2,hS,C2⟩:=ih d _ sl' _ q _ ha' C'
     refine ⟨N+1,gs2,a2,w2,sl2,T2,q2,?_,by simpa using hsz,h2,hS,C2⟩
     have hrt:=runT_crowd_go (P:=P) (sl:=sl') hi (e d)
     simp only [runNT,hst',hrt]
     exact r
    ·obtain ⟨gs',ops,q',hrt,hsz',hsp,_,_,C',hlt⟩:=TokCore.by_step (sl:=sl') (fun t u i=>Knows.app u) Cd hi ei hg
      (fun y gy hy hgy=>by subst hy;rw [ha] at hgy;obtain rfl:=Option.some.inj hgy;exact again_of_running (.inl hrun) _) (fun hD=>hD.elim)
      (fun s g₂ _ _=>⟨fun hD=>hD,fun y gy c hy hgy _=>by subst hy;rw [ha] at hgy;obtain rfl:=Option.some.inj hgy;exact offersAt_of_not_blocked (by rw [hrun];simp) _ _⟩)
     obtain ⟨N,gs2,a2,w2,sl2,T2,q2,r,hsz,h2,hS,C2⟩:=ihm (sumTo gs'.size q') (by rw [hsz'];omega) gs' sl' _ q' B d rfl (by rw [hsp h rfl];exact ha) C'
     refine ⟨N+1,gs2,a2,w2,sl2,T2,q2,?_,hsz.trans hsz',h2,hS,C2⟩
     simp only [runNT,hst',hrt]
     exact r
  intro gs sl T q B ha C
  exact key _ gs sl T q B w.drawn rfl ha C
end
end Go.Proofs.YtfjjoohflcchnaaDoor.Gen
namespace Go.Proofs.YtfjjoohflcchnaaDoor.Gen
open Go Go.Lift Go.Conc Go.RowKit
variable {mc:Mc}
structure Good (v0:World) (Mo0:Nat→Option Obj) (x:Nx) (Mo:Nat→Option Obj):Prop where
 seat:∀ e y,x≠.ans e y
 new:∀ b,Mo b≠none→Mo0 b≠none∨v0.heap.size≤b
 row:∀ b o,Mo b=some o→∃ c e f,o=.cells c e f
structure Ob (X:Fix mc) (H:Nx→(Nat→Option Obj)→Goroutine→Prop) (z:Nat→Option Nat) (cont:Addr→Value) (Ch:Nat→Prop) (Stop:Goroutine→World→Prop) (cu:Value→Goroutine) (S0:TS) (K0:List (Nat×Int)) (v0:World) (Mo0:Nat→Option Obj) (σ:TS) (κ:List (Nat×Int)) (x:Nx):Prop where
 ans:∀ a:Int×Int,(x=.ans a.1 a.2∨∃ j q,x=.wait j q∧σ.stk=true∧a=mc.stuck q)→∀ (v w:World) (S:TS),Rel z v w→NoRow Ch v→nv S=σ→EvoP (fun b=>Mo0 b≠none) z S0 K0 v0 S κ v→GoesI Tryd.prog (X.h==0) (DT (ScZ z) Ch) Stop (cu (.agg #[I a.1,I a.2])) w
 seat:∀ (s op:Int) (j:Nat),((∃ q,x=.turn op j q)∧s=1∨(∃ q,x=.wait j q)∧σ.stk=false∧s=2∧op=6)→∀ (g:Goroutine) (w:World) (Mo:Nat→Option Obj),Good v0 Mo0 x Mo →
  Lift.AtGive Tryd.prog (KC (ScZ z) cont) (StillC (ScZ z)) X.h S0.bk (.agg #[]) (some (seatT X.gc (H x Mo))) (fun w'=>∃ v' S',Rel z v' w'∧NoRow Ch v'∧nv S'=waiting σ X.i (thrI σ X.i) s op j∧EvoP (fun b=>Mo0 b≠none) z S0 K0 v0 S' κ v'∧Has Mo v'∧∀ b,Mo b≠none→¬ Own S' κ b) g w→Stop g w
structure At (X:Fix mc) (z:Nat→Option Nat) (cont:Addr→Value) (Ch:Nat→Prop) (S:TS) (K:List (Nat×Int)) (v w:World) (t:Thr):Prop where
 rel:Rel z v w
 noRow:NoRow Ch v
 mem:Mem z S K v
 thr:S.thr[X.i]? = some t
 tb:t.tb=X.tb
 gc:t.gc=X.gc
 kb:K.map (·.1)=X.kb
 z:z X.tb=some 2
 cont:cont ⟨X.tb,2,none⟩=.chan (some X.gc)
 pk:Has X.pk v
 far:∀ b,X.pk b≠none→¬ Own S K b
structure Pkg (mc:Mc) (fid:FuncId) where
 fn:Func
 code:Code
 hf:Tryd.prog.funcs[fid]? = some fn
 hname : (fn.name == "runtime.NumGoroutine") = false
 hcode:fn.body=some code
 Mine:Fix mc→Prop
 Sit:Fix mc→Nx→(Nat→Option Obj)→(Value→Goroutine)→Goroutine→Prop
 start:∀ (X:Fix mc),X.Ok→Mine X→X.fid=fid→∀ (c:Cl),c∈X.calls→∀ (cs:List Frame) (bc:Frame) (ac:Act) (ops:Array Oper) (q:Nat) (rest:List Nat) (oc:Oper) (k:List Item),ops[q]? = some oc →
  ∀ (H:Nx→(Nat→Option Obj)→Goroutine→Prop) (z:Nat→Option Nat) (cont:Addr→Value) (Ch:Nat→Prop) (Stop:Goroutine→World→Prop) (S:TS) (K:List (Nat×Int)) (v w:World) (t:Thr),At X z cont Ch S K v w t →
  (∀ x Mo g,Good v (fun _=>none) x Mo→Sit X x Mo (fun r=>G (bc.at (ac.put oc.dst r) (.inRegion ops rest :: k)) cs) g→H x Mo g) →
  Ob X H z cont Ch Stop (fun r=>G (bc.at (ac.put oc.dst r) (.inRegion ops rest :: k)) cs) S K v (fun _=>none) (nv S) K (mc.start X.i c) →
  GoesI Tryd.prog (X.h==0) (DT (ScZ z) Ch) Stop (G ((base fid).at { tmps:=(mc.bn X.caps++#[Pt X.tb 0,.agg #[I c.po,I c.ca,I c.cb,I c.cc]]++mc.fr X.caps)++Array.replicate (fn.ntmps - (mc.bn X.caps++#[Pt X.tb 0,.agg #[I c.po,I c.ca,I c.cb,I c.cc]]++mc.fr X.caps).size) undef,defers:=[] } [.code code]) (bc.at ac (.inRegion ops (q :: rest) :: k) :: cs)) w
 turn:∀ (X:Fix mc),X.Ok→Mine X→X.fid=fid→∀ (op:Int) (j:Nat) (q:Q) (Mo:Nat→Option Obj) (cu:Value→Goroutine) (g:Goroutine),Sit X (.turn op j q) Mo cu g →
  ∀ (H:Nx→(Nat→Option Obj)→Goroutine→Prop) (z:Nat→Option Nat) (cont:Addr→Value) (Ch:Nat→Prop) (Stop:Goroutine→World→Prop) (y:Value) (S:TS) (K:List (Nat×Int)) (v w:World) (t:Thr),At X z cont Ch S K v w t→(∀ x Mo' g,Good v Mo x Mo'→Sit X x Mo' cu g→H x Mo' g)→t.op=op→t.ce=j→(S.n+1)*40≤140737488355328→Has Mo v→(∀ b,Mo b≠none→¬ Own S K b)→(∀ b,Mo b≠none→¬ X.Pr b) →
  Ob X H z cont Ch Stop cu S K v Mo (didS (nv S) undef X.i t (mc.turn q (cellAt K j).2).1.1 (mc.turn q (cellAt K j).2).1.2) (K.set j ((cellAt K j).1,(mc.turn q (cellAt K j).2).2.1)) (mc.turn q (cellAt K j).2).2.2 →
  GoesI Tryd.prog (X.h==0) (DT (ScZ z) Ch) Stop (Go.Conc.served g y) w
 wake:∀ (X:Fix mc),X.Ok→Mine X→X.fid=fid→∀ (j:Nat) (q:Q) (Mo:Nat→Option Obj) (cu:Value→Goroutine) (g:Goroutine),Sit X (.wait j q) Mo cu g →
  ∀ (H:Nx→(Nat→Option Obj)→Goroutine→Prop) (z:Nat→Option Nat) (cont:Addr→Value) (Ch:Nat→Prop) (Stop:Goroutine→World→Prop) (y:Value) (S:TS) (K:List (Nat×Int)) (v w:World) (t:Thr),At X z cont Ch S K v w t→(∀ x Mo' g,Good v Mo x Mo'→Sit X x Mo' cu g→H x Mo' g)→(S.n+1)*40≤140737488355328→Has Mo v→(∀ b,Mo b≠none→¬ Own S K b)→(∀ b,Mo b≠none→¬ X.Pr b) →
  (S.stk=true→Ob X H z cont Ch Stop cu S K v Mo (nv S) K (.ans (mc.stuck q).1 (mc.stuck q).2)) →
  (S.stk=false→Ob X H z cont Ch Stop cu S K v Mo (noted (nv S) undef X.i 6 j 0 0) K (mc.woke q)) →
  GoesI Tryd.prog (X.h==0) (DT (ScZ z) Ch) Stop (Go.Conc.served g y) w
def FlowGoes (X:Fix mc) (Hm:Ph→(Nat→Prop)→(Nat→Option Obj)→Goroutine→Prop) (cs:List Frame) (z:Nat→Option Nat) (cont:Addr→Value) (Ch:Nat→Prop) (Stop:Goroutine→World→Prop) (rest:List Cl) (ii:Nat):Prop :=
 ∀ (sk:Bool) (ans:List (Int×Int)) (E:Nat→Prop) (S:TS) (K:List (Nat×Int)) (v w:World) (t:Thr) (u:Nat→Value),Rel z v w→NoRow Ch v→Mem z S K v→S.thr[X.i]? = some t→t.tb=X.tb→t.gc=X.gc→K.map (·.1)=X.kb→PM X ans v→(∀ b,X.Pr b→¬ Own S K b) →
   (flow X.i mc rest ii sk ans (nv S)).1.n*40≤140737488355328 →
   (∀ g' w' E' M',Gives X Hm z cont Ch S K v E (flow X.i mc rest ii sk ans (nv S)).1 K (flow X.i mc rest ii sk ans (nv S)).2 E' M' g' w'→Stop g' w') →
   GoesI Tryd.prog (X.h==0) (DT (ScZ z) Ch) Stop (G (cFr X.tb X.csl X.F X.asl X.calls.length ii sk u) cs) w
def phOf (rest:List Cl) (ii:Nat) (ans:List (Int×Int)):Nx→Ph
 |.ans _ _=>.done ans
 |.turn op j q=>.turn op j q rest ii ans
 |.wait j q=>.wait j q rest ii ans
theorem ob_of {X:Fix mc} (ok:X.Ok) {Hm:Ph→(Nat→Prop)→(Nat→Option Obj)→Goroutine→Prop} {cs:List Frame} {z:Nat→Option Nat} {cont:Addr→Value} {Ch:Nat→Prop} {Stop:Goroutine→World→Prop} {rest:List Cl} {ii:Nat} {ans:List (Int×Int)} {cu:Value→Goroutine} (hfl:FlowGoes X Hm cs z cont Ch Stop rest (ii+1)) (hans:Answers X cs ii ans cu)
 {S0:TS} {K0:List (Nat×Int)} {v0:World} {Mo0:Nat→Option Obj} {E:Nat→Prop} (hE:∀ b,Mo0 b≠none→E b) (hp:PM X ans v0) (hfar:∀ b,X.Pr b→¬ Own S0 K0 b) (hMp:∀ b,Mo0 b≠none→¬ X.Pr b) (hkb:K0.map (·.1)=X.kb)
 {σ:TS} {κ:List (Nat×Int)} {x:Nx} {t:Thr} (ht:σ.thr[X.i]? = some t) (htb:t.tb=X.tb) (hgc:t.gc=X.gc) (hbk:σ.bk=S0.bk)
 (hl:(on X.i mc rest ii ans σ κ x).1.n*40≤140737488355328)
 (hstop:∀ g' w' E' M',Gives X Hm z cont Ch S0 K0 v0 E (on X.i mc rest ii ans σ κ x).1 (on X.i mc rest ii ans σ κ x).2.1 (on X.i mc rest ii ans σ κ x).2.2 E' M' g' w'→Stop g' w') :
 Ob X (fun x Mo=>Hm (phOf rest ii ans x) (fun b=>Mo b≠none) (mindO X v0 Mo)) z cont Ch Stop cu S0 K0 v0 Mo0 σ κ x:=by
 have stay:∀ {S:TS} {κ:List (Nat×Int)} {v:World},EvoP (fun b=>Mo0 b≠none) z S0 K0 v0 S κ v→∀ b,X.Pr b→v.heap[b]? = v0.heap[b]?∧¬ Own S κ b:=fun he b hb=>he.keeps (hp.lt ok hb) (hfar b hb) (fun h=>hMp b h hb)
 refine ⟨fun a ha v w S hvw hn hS he=>?_,fun s op j hx g w Mo ⟨_,hnew,hrow⟩ hat=>?_⟩
 ·have eon:on X.i mc rest ii ans σ κ x=back X.i mc rest ii ans a σ κ:=by
   rcases ha with rfl|⟨j,q,rfl,hs,rfl⟩
   ·rfl
   ·rw [on_wait,if_pos hs]
  rw [eon] at hl hstop
  subst hS
  have hp1:PM X ans v:=hp.stay (fun b hb=>(stay he b hb).1)
  have hl1:(S.n+1)*40≤140737488355328:=Nat.le_trans (Nat.mul_le_mul_right 40 (flow_sta X.i mc rest (ii+1) (a.1==4) (ans.set ii a) (noted (nv S) undef X.i 10 (-1) ii a.1)).n) hl
  refine hans z Ch Stop w v S κ t a.1 a.2 hvw hn he.mem ht htb hl1 hp1 (fun b hb=>(stay he b hb).2) (fun v2 w2 tv u' hvw2 hn2 he2 hp2=>?_)
  have ej:EvoP (fun b=>b=X.ab∨E b) z S0 K0 v0 (noted S tv X.i 10 (-1) ii a.1) κ v2:=(he.wider (Pr':=fun b=>b=X.ab∨E b) (fun b _ hb=>.inr (hE b hb))).join he2 (fun b hb=>.inl (.inl hb))
  refine hfl (a.1==4) (ans.set ii a) E (noted S tv X.i 10 (-1) ii a.1) κ v2 w2 t u' hvw2 hn2 he2.mem ht htb hgc (he.blks.trans hkb) hp2 (fun b hb ho=>?_) hl (fun g' w' E' M' hg=>hstop g' w' E' M' (hg.join ej hbk (fun b h=>.inl h)))
  rcases he2.new b ho with h1|h1
  ·exact (stay he b hb).2 h1
  ·have:=hp1.lt ok hb;omega
 ·have eon:on X.i mc rest ii ans σ κ x=(waiting σ X.i (thrI σ X.i) s op j,κ,phOf rest ii ans x):=by
   rcases hx with ⟨⟨q,rfl⟩,rfl⟩|⟨⟨q,rfl⟩,hs,rfl,rfl⟩
   ·rfl
   ·rw [on_wait,if_neg (by rw [hs];simp)];rfl
  rw [eon] at hstop
  have h1:∀ b,Mo b≠none→¬ X.Pr b:=fun b hb hpr=>(hnew b hb).elim (fun h=>hMp b h hpr) (fun h=>by have:=hp.lt ok hpr;omega)
  have ea:(phOf rest ii ans x).ans=ans:=by
   rcases hx with ⟨⟨q,rfl⟩,_⟩|⟨⟨q,rfl⟩,_⟩<;>rfl
  have es:seatOf X Hm (phOf rest ii ans x) (fun b=>Mo b≠none) (mindO X v0 Mo)=some (seatT X.gc (Hm (phOf rest ii ans x) (fun b=>Mo b≠none) (mindO X v0 Mo))):=by
   rcases hx with ⟨⟨q,rfl⟩,_⟩|⟨⟨q,rfl⟩,_⟩<;>rfl
  refine hstop g w (fun b=>Mo b≠none) (mindO X v0 Mo) ⟨by rw [ea];exact sees_mindO hp ok h1 hrow,fun b hb=>(hnew b hb).imp (hE b) id,?_⟩
  rw [es]
  refine atGive_mono (fun hF=>?_) hat
  obtain ⟨v',S',q1,q2,q3,q4,q5,q6⟩:=hF
  refine ⟨v',S',q1,q2,q3,q4.wider (fun b _ hb=>.inr (hE b hb)),fun b o hb=>?_,fun b hb=>?_⟩
  ·unfold mindO at hb
   split at hb
   ·exact q5 b o hb
   ·unfold mind at hb
    split at hb
    ·rename_i hc
     rw [(stay q4 b hc).1];exact hb
    ·cases hb
  ·unfold mindO at hb
   split at hb
   ·rename_i hc;exact q6 b hc
   ·unfold mind at hb
    split at hb
    ·rename_i hc;exact (stay q4 b hc).2
    ·exact absurd rfl hb
variable {mc:Mc} {fid:FuncId}
theorem dst5:ops347[5]? = some (ops347.getD 5 default):=by kernel_rfl
theorem dst5':(ops347.getD 5 default).dst=some 31:=by kernel_rfl
theorem on_K (i:Nat) (m:Mc) (rest:List Cl) (ii:Nat) (ans:List (Int×Int)) (S:TS) (K:List (Nat×Int)) (x:Nx):(on i m rest ii ans S K x).2.1=K:=by
 cases x with
 |ans e x=>rfl
 |turn op j q=>rfl
 |wait j q=>rw [on_wait];split<;>rfl
theorem answers_of {X:Fix mc} (ok:X.Ok) {cs:List Frame} {ii:Nat} {ans:List (Int×Int)} {N:Nat} {V:Value} {u:Nat→Value} (hi:ii<X.calls.length) :
 Answers X cs ii ans (fun r=>G ((base 94).at ((cAct X.tb X.csl X.F X.asl X.rb X.ro X.calls.length ii N V u).put (some 31) r) [.inRegion ops347 [6,7],.code R89,.inBlock 1,.code R10,.inLoop L34,.inBlock 0]) cs):=by
 intro z Ch Stop w v S K t e x hvw hn hm ht htb hl hp hfar hk
 have h0:0<X.calls.length:=by omega
 obtain ⟨y0,y1,c1,c2,c3,c4⟩:=hp.cells hi
 have hab:X.Pr X.ab:=.inr (.inr (.inl rfl))
 show GoesI Tryd.prog (X.h==0) (DT (ScZ z) Ch) Stop (G ((base 94).at ((cAct X.tb X.csl X.F X.asl X.rb X.ro X.calls.length ii N V u).put (some 31) (.agg #[I e,I x])) _) cs) w
 rw [←htb,ok.asl h0]
 refine carry_back (S:=S) (K:=K) (v:=v) (i:=X.i) (t:=t) X.csl X.F X.rb X.ro X.ab X.calls.length X.cap2 ii N V e x y0 y1 u cs hi ok.n c1 c2 c3 c4 (hfar X.ab hab) hvw hn hm ht hl (fun v2 w2 tv u' hvw2 hn2 he2 hab2=>?_)
 have:=hk v2 w2 tv u' hvw2 hn2 he2 (hp.set hi e x hab2 (fun b hb hne=>(he2.keeps (hp.lt ok hb) (hfar b hb) hne).1) (ok.ne h0))
 rw [←htb,ok.asl h0] at this
 exact this
structure Mid (X:Fix mc) (rest:List Cl) (ii:Nat) (ans:List (Int×Int)) (E:Nat→Prop) (M:Nat→Option Obj) (cs:List Frame) (cu:Value→Goroutine) (Mo:Nat→Option Obj):Prop where
 sees:Sees X E M ans
 drop:X.calls.drop (ii+1)=rest
 lt:ii<X.calls.length
 ends:CarryEnds X cs
 answers:Answers X cs ii ans cu
 e:E=fun b=>Mo b≠none
 m:∀ b o,Mo b=some o→M b=some o
def HomeBack (P:Pkg mc fid) (X:Fix mc):Ph→(Nat→Prop)→(Nat→Option Obj)→Goroutine→Prop
 |.turn op j q rest ii ans,E,M,g=>∃ cs cu Mo,Mid X rest ii ans E M cs cu Mo∧P.Sit X (.turn op j q) Mo cu g
 |.wait j q rest ii ans,E,M,g=>∃ cs cu Mo,Mid X rest ii ans E M cs cu Mo∧P.Sit X (.wait j q) Mo cu g
 |_,_,_,_=>False
theorem home_of {P:Pkg mc fid} {X:Fix mc} (ok:X.Ok) {Hm:Ph→(Nat→Prop)→(Nat→Option Obj)→Goroutine→Prop} (hHm:∀ l E M g,HomeBack P X l E M g→Hm l E M g) {rest:List Cl} {ii:Nat} {ans:List (Int×Int)} {cs:List Frame} {cu:Value→Goroutine} (hdrop:X.calls.drop (ii+1)=rest) (hlt:ii<X.calls.length) (hends:CarryEnds X cs) (hans:Answers X cs ii ans cu)
 {v0:World} (hp:PM X ans v0) {Mo0:Nat→Option Obj} (hMp:∀ b,Mo0 b≠none→¬ X.Pr b) (x:Nx) (Mo:Nat→Option Obj) (g:Goroutine) (hg:Good v0 Mo0 x Mo) (hs:P.Sit X x Mo cu g):Hm (phOf rest ii ans x) (fun b=>Mo b≠none) (mindO X v0 Mo) g:=by
 have h1:∀ b,Mo b≠none→¬ X.Pr b:=fun b hb hpr=>(hg.new b hb).elim (fun h=>hMp b h hpr) (fun h=>by have:=hp.lt ok hpr;omega)
 have hmid:Mid X rest ii ans (fun b=>Mo b≠none) (mindO X v0 Mo) cs cu Mo:=⟨sees_mindO hp ok h1 hg.row,hdrop,hlt,hends,hans,rfl,fun b o hb=>by unfold mindO;rw [if_pos (by rw [hb];simp)];exact hb⟩
 apply hHm
 match x,hg.seat,hs with
 |.ans e y,h,_=>exact absurd rfl (h e y)
 |.turn op j q,_,hs=>exact ⟨cs,cu,Mo,hmid,hs⟩
 |.wait j q,_,hs=>exact ⟨cs,cu,Mo,hmid,hs⟩
theorem flow_goes (P:Pkg mc fid) {X:Fix mc} (ok:X.Ok) (hmine:P.Mine X) (hfid:X.fid=fid) (Hm:Ph→(Nat→Prop)→(Nat→Option Obj)→Goroutine→Prop) (hHm:∀ l E M g,HomeBack P X l E M g→Hm l E M g) {cs:List Frame} (hce:CarryEnds X cs) {z:Nat→Option Nat} {Ch:Nat→Prop} {Stop:Goroutine→World→Prop} {cont:Addr→Value} (hz:z X.tb=some 2) (hcont:cont ⟨X.tb,2,none⟩=.chan (some X.gc)) :
 ∀ (rest:List Cl) (ii:Nat),X.calls.drop ii=rest→ii≤X.calls.length→FlowGoes X Hm cs z cont Ch Stop rest ii:=by
 intro rest
 induction rest with
 |nil =>
  intro ii hd hi sk ans E S K v w t u hvw hn hm ht htb hgc hK hp hfar hl hstop
  obtain rfl:ii=X.calls.length:=by have:=List.drop_eq_nil_iff.1 hd;omega
  refine hce z Ch Stop cont w v S K t sk u hvw hn hm ht htb hp.box (hfar X.bb (.inl rfl)) (fun g w' hg=>hstop g w' (fun _=>False) (mind X v) ⟨by cases sk<;>exact sees_mind hp ok,fun _ h=>h.elim,?_⟩)
  have efl:flow X.i mc [] X.calls.length sk ans (nv S)=(ended (nv S) X.i (thrI (nv S) X.i),.done ans):=by cases sk<;>rfl
  rw [efl]
  refine atGive_mono (fun hF=>?_) hg
  obtain ⟨v',k1,k2,k3⟩:=hF
  have kp:∀ b,X.Pr b→v'.heap[b]? = v.heap[b]?∧¬ Own (ended S X.i t) K b:=fun b hb=>(Evo.toP (Pr:=fun _=>False) k3).keeps (hp.lt ok hb) (hfar b hb) (fun h=>h)
  refine ⟨v',_,k1,k2,?_,k3.toP,fun b o hb=>?_,fun b hb=>?_⟩
  ·show nv (ended S X.i t)=ended (nv S) X.i (thrI (nv S) X.i)
   rw [show thrI (nv S) X.i=t from thrI_of ht]
   rfl
  ·unfold mind at hb
   split at hb
   ·rename_i hc;rw [(kp b hc).1];exact hb
   ·cases hb
  ·unfold mind at hb
   split at hb
   ·rename_i hc;exact (kp b hc).2
   ·exact absurd rfl hb
 |cons c rest ih =>
  intro ii hd hi sk ans E S K v w t u hvw hn hm ht htb hgc hK hp hfar hl hstop
  have hlt:ii<X.calls.length:=by
   rcases Nat.lt_or_ge ii X.calls.length with h|h
   ·exact h
   ·rw [List.drop_eq_nil_iff.2 h] at hd;cases hd
  have h0:0<X.calls.length:=by omega
  have hc:X.calls[ii]? = some c:=by
   have:=congrArg (·[0]?) hd
   simpa using this
  have hd':X.calls.drop (ii+1)=rest:=by
   have:=congrArg List.tail hd
   simpa using this
  have ecs:X.csl=.slice (some ⟨X.rb,X.ro,none⟩) X.calls.length X.cap:=by unfold Fix.csl;exact congrArg (fun p=>Value.slice p X.calls.length X.cap) (ok.pc h0)
  obtain ⟨p0,p1,p2,p3⟩:=hp.call ii c hc
  obtain ⟨y0,y1,c1,c2,c3,c4⟩:=hp.cells hlt
  cases sk with
  |true =>
   have hab:X.Pr X.ab:=.inr (.inr (.inl rfl))
   rw [ecs,ok.asl h0]
   refine carry_skip (S:=S) (K:=K) (v:=v) X.F X.rb X.ro X.ab X.calls.length X.cap X.cap2 ii c.po c.ca c.cb c.cc y0 y1 u cs hlt ok.n p0 p1 p2 p3 c1 c2 c3 c4 (hfar X.ab hab) hvw hn hm (fun v1 w1 u1 hvw1 hn1 he1 hab1=>?_)
   have hp1:PM X (ans.set ii (4,0)) v1:=hp.set hlt 4 0 hab1 (fun b hb hne=>(he1.keeps (hp.lt ok hb) (hfar b hb) hne).1) (ok.ne h0)
   have:=ih (ii+1) hd' (by omega) true (ans.set ii (4,0)) E S K v1 w1 t u1 hvw1 hn1 he1.mem ht htb hgc hK hp1 hfar hl (fun g' w' E' M' hg=>hstop g' w' E' M' (hg.join (he1.wider (fun b _ e=>.inl e)) rfl (fun b e=>.inl e)))
   rw [ecs,ok.asl h0] at this
   exact this
  |false =>
   rw [flow_cons X.i mc c rest ii ans (nv S) K] at hl hstop
   have hn1:(S.n+1)*40≤140737488355328:=by
    refine Nat.le_trans (Nat.mul_le_mul_right 40 ?_) hl
    exact (on_sta (i:=X.i) (m:=mc) rest ii ans K (noted (nv S) undef X.i 9 (-1) ii 0) (mc.start X.i c)).n
   rw [ecs,←htb]
   refine carry_step (S:=S) (K:=K) (v:=v) (i:=X.i) (t:=t) X.asl X.fid P.fn (mc.bn X.caps) (mc.fr X.caps) (by rw [hfid];exact P.hf) P.hname P.code P.hcode X.rb X.ro X.calls.length X.cap ii c.po c.ca c.cb c.cc u cs hlt p0 p1 p2 p3 hvw hn hm ht hn1 (fun v1 w1 tv hvw1 hn1 he1 hbx1=>?_)
   have st1:∀ b,X.Pr b→v1.heap[b]? = v.heap[b]?∧¬ Own (noted S tv X.i 9 (-1) ii 0) K b:=fun b hb=>(Evo.toP (Pr:=fun _=>False) he1).keeps (hp.lt ok hb) (hfar b hb) (fun h=>h)
   have hp1:PM X ans v1:=hp.stay (fun b hb=>(st1 b hb).1)
   have hans:=answers_of (cs:=cs) (ans:=ans) (N:=v.heap.size) (V:=.agg #[I c.po,I c.ca,I c.cb,I c.cc]) (u:=u) ok hlt
   rw [ecs] at hans
   rw [htb]
   have hat:At X z cont Ch (noted S tv X.i 9 (-1) ii 0) K v1 w1 t:=⟨hvw1,hn1,he1.mem,ht,htb,hgc,hK,hz,hcont,hp1.pk,fun b hb=>(st1 b (.inr (.inr (.inr hb)))).2⟩
   have:=P.start X ok hmine hfid c (List.mem_of_getElem? hc) cs (base 94) (cAct X.tb (.slice (some ⟨X.rb,X.ro,none⟩) X.calls.length X.cap) X.F X.asl X.rb X.ro X.calls.length ii v.heap.size (.agg #[I c.po,I c.ca,I c.cb,I c.cc]) u) ops347 5 [6,7] _ [.code R89,.inBlock 1,.code R10,.inLoop L34,.inBlock 0] dst5
    (fun x Mo=>Hm (phOf rest ii ans x) (fun b=>Mo b≠none) (mindO X v1 Mo)) z cont Ch Stop (noted S tv X.i 9 (-1) ii 0) K v1 w1 t hat
    (fun x Mo g hg hs=>home_of (P:=P) ok hHm hd' hlt hce (by rw [dst5'];exact hans) hp1 (fun _ h=>absurd rfl h) x Mo g hg hs)
    (ob_of ok (ih (ii+1) hd' (by omega)) (by rw [dst5'];exact hans) (E:=E) (fun _ h=>absurd rfl h) hp1 (fun b hb=>(st1 b hb).2) (fun _ h=>absurd rfl h) hK (t:=t) ht htb hgc rfl hl (fun g' w' E' M' hg=>hstop g' w' E' M' (Gives.join (Evo.toP he1) rfl (fun b h=>.inl h) (by rw [on_K] at hg;exact hg))))
   subst hfid
   exact this
variable {mc:Mc} {fid:FuncId}
theorem home_all (P:Pkg mc fid) {X:Fix mc} (ok:X.Ok) (hmine:P.Mine X) (hfid:X.fid=fid):∀ (n:Nat) (l:Ph) (E:Nat→Prop) (M:Nat→Option Obj) (g:Goroutine),HomeBack P X l E M g→Home X n l E M g:=by
 intro n
 induction n with
 |zero=>intros;trivial
 |succ n ih =>
  intro l E M g hb z Ch Stop cont y w v S K t hvw hn hm ht htb hgc hfit hK hz hcont hM hfar hl hstop
  have main:∀ (rest:List Cl) (ii:Nat) (ans:List (Int×Int)) (cs:List Frame) (cu:Value→Goroutine) (Mo:Nat→Option Obj),Mid X rest ii ans E M cs cu Mo →
   PM X ans v∧(∀ b,X.Pr b→¬ Own S K b)∧Has Mo v∧(∀ b,Mo b≠none→¬ Own S K b)∧(∀ b,Mo b≠none→¬ X.Pr b)∧At X z cont Ch S K v w t:=fun rest ii ans cs cu Mo hmid=>by
   have hp:PM X ans v:=hmid.sees.pm v hM
   have hf:∀ b,X.Pr b→¬ Own S K b:=fun b hb=>hfar b (hmid.sees.pr b hb)
   have hMo:Has Mo v:=fun b o hb=>hM b o (hmid.m b o hb)
   refine ⟨hp,hf,hMo,fun b hb=>?_,fun b hb=>hmid.sees.apart b (by rw [hmid.e];exact hb),⟨hvw,hn,hm,ht,htb,hgc,hK,hz,hcont,hp.pk,fun b hb=>hf b (.inr (.inr (.inr hb)))⟩⟩
   obtain ⟨o,ho⟩:=Option.ne_none_iff_exists'.1 hb
   exact hfar b (by rw [hmid.m b o ho];simp)
  have eth:thrI (nv S) X.i=t:=thrI_of ht
  match l,hb,hfit,hl,hstop with
  |.turn op j q rest ii ans,hb,hfit,hl,hstop =>
   obtain ⟨cs,cu,Mo,hmid,hsit⟩:=hb
   obtain ⟨hp,hf,hMo,hMf,hMp,hat⟩:=main rest ii ans cs cu Mo hmid
   rw [resume_turn,eth] at hl hstop
   have hl1:(S.n+1)*40≤140737488355328:=by
    refine Nat.le_trans (Nat.mul_le_mul_right 40 ?_) hl
    refine Nat.le_trans ?_ (on_sta (i:=X.i) (m:=mc) rest ii ans _ _ _).n
    unfold didS
    split<;>exact Nat.le_refl _
   refine P.turn X ok hmine hfid op j q Mo cu g hsit _ z cont Ch Stop y S K v w t hat (fun x Mo' g hg hs=>home_of (P:=P) ok ih hmid.drop hmid.lt hmid.ends hmid.answers hp hMp x Mo' g hg hs) hfit.1 hfit.2 hl1 hMo hMf hMp ?_
   exact ob_of ok (flow_goes P ok hmine hfid (Home X n) ih hmid.ends hz hcont rest (ii+1) hmid.drop hmid.lt) hmid.answers (E:=E) (fun b hb=>by rw [hmid.e];exact hb) hp hf hMp hK (t:=t) (by unfold didS;split<;>exact ht) htb hgc (by unfold didS;split<;>rfl) hl hstop
  |.wait j q rest ii ans,hb,hfit,hl,hstop =>
   obtain ⟨cs,cu,Mo,hmid,hsit⟩:=hb
   obtain ⟨hp,hf,hMo,hMf,hMp,hat⟩:=main rest ii ans cs cu Mo hmid
   rw [resume_wait] at hl hstop
   have hl1:(S.n+1)*40≤140737488355328:=by
    refine Nat.le_trans (Nat.mul_le_mul_right 40 ?_) hl
    split
    ·exact (flow_sta X.i mc rest (ii+1) _ _ (noted (nv S) undef X.i 10 (-1) ii _)).n
    ·exact (on_sta (i:=X.i) (m:=mc) rest ii ans K (noted (nv S) undef X.i 6 j 0 0) (mc.woke q)).n
   refine P.wake X ok hmine hfid j q Mo cu g hsit _ z cont Ch Stop y S K v w t hat (fun x Mo' g hg hs=>home_of (P:=P) ok ih hmid.drop hmid.lt hmid.ends hmid.answers hp hMp x Mo' g hg hs) hl1 hMo hMf hMp (fun hs=>?_) (fun hs=>?_)
   ·rw [if_pos (show (nv S).stk=true from hs)] at hl hstop
    exact ob_of ok (flow_goes P ok hmine hfid (Home X n) ih hmid.ends hz hcont rest (ii+1) hmid.drop hmid.lt) hmid.answers (E:=E) (fun b hb=>by rw [hmid.e];exact hb) hp hf hMp hK (x:=.ans (mc.stuck q).1 (mc.stuck q).2) (t:=t) ht htb hgc rfl hl hstop
   ·rw [if_neg (show ¬ (nv S).stk=true from by show ¬ S.stk=true;rw [hs];simp)] at hl hstop
    exact ob_of ok (flow_goes P ok hmine hfid (Home X n) ih hmid.ends hz hcont rest (ii+1) hmid.drop hmid.lt) hmid.answers (E:=E) (fun b hb=>by rw [hmid.e];exact hb) hp hf hMp hK (t:=t) ht htb hgc rfl hl hstop
  |.done _,hb,_,_,_=>exact hb.elim
theorem ends_of {X:Fix mc} (ok:X.Ok) {F33:Value} {bd:Frame} {ad:Act} {od:Array Oper} {qd:Nat} {rd:List Nat} {oe:Oper} {kd:List Item} (hoe:od[qd]? = some oe)
 (hf:∀ (z:Nat→Option Nat) (Ch:Nat→Prop) (Stop:Goroutine→World→Prop) (w:World),GoesI Tryd.prog (X.h==0) (DT (ScZ z) Ch) Stop (G ((baseD 124).at ((lifeAct X.tb X.bb F33).put (ops492.getD 2 default).dst (.tuple #[])) [.inRegion ops492 []]) [botP Tryd.prog]) w →
   GoesI Tryd.prog (X.h==0) (DT (ScZ z) Ch) Stop (G (bd.at (ad.put oe.dst (.tuple #[])) (.inRegion od rd :: kd)) [lifeFr X.tb X.bb F33,botP Tryd.prog]) w) :
 CarryEnds X [bd.at ad (.inRegion od (qd :: rd) :: kd),lifeFr X.tb X.bb F33,botP Tryd.prog]:=by
 intro z Ch Stop cont w v S K t sk u hvw hn hm ht htb hbox hbo hstop
 refine carry_end X.csl X.F X.asl X.calls.length sk u _ hoe (hf z Ch Stop w ?_)
 rw [←htb]
 exact life_tail X.bb F33 ok.h hvw hn hm ht (by rw [htb];exact hbox) hbo hstop
theorem birth_goes {P:Pkg mc fid} {X:Fix mc} (ok:X.Ok) (hmine:P.Mine X) (hfid:X.fid=fid) (n:Nat) {z:Nat→Option Nat} {Ch:Nat→Prop} {Stop:Goroutine→World→Prop} {cont:Addr→Value} (hz:z X.tb=some 2) (hcont:cont ⟨X.tb,2,none⟩=.chan (some X.gc)) {S:TS} {K:List (Nat×Int)} {v w:World} {t:Thr} {ans:List (Int×Int)} (p1 p2 p3 p4 rr m cap' ix:Nat) (hix:ix<m)
 (hvw:Rel z v w) (hn:NoRow Ch v) (hm:Mem z S K v) (ht:S.thr[X.i]? = some t) (htb:t.tb=X.tb) (hgc:t.gc=X.gc) (hK:K.map (·.1)=X.kb) (hbb:X.bb=v.heap.size)
 (h1:v.cell? ⟨p1,0,none⟩=some X.csl) (h2:v.cell? ⟨p2,0,none⟩=some X.F) (h3:v.cell? ⟨p3,0,none⟩=some (.slice (some ⟨rr,0,none⟩) m cap')) (h4:v.cell? ⟨p4,0,none⟩=some (I ix)) (h5:v.cell? ⟨rr,ix,none⟩=some X.asl)
 (hp:∀ v1,Grows v v1→v1.cell? ⟨X.bb,0,none⟩=some (Pt X.tb 0)→PM X ans v1) (hfar:∀ b,X.Pr b→¬ Own S K b)
 (hl:(flow X.i mc X.calls 0 false ans (nv S)).1.n*40≤140737488355328)
 (hstop:∀ g' w' E' M',Gives X (Home X n) z cont Ch S K v (fun _=>False) (flow X.i mc X.calls 0 false ans (nv S)).1 K (flow X.i mc X.calls 0 false ans (nv S)).2 E' M' g' w'→Stop g' w') (code:Code) (hc:Tryd.f124.body=some code) :
 GoesI Tryd.prog (X.h==0) (DT (ScZ z) Ch) Stop (G ((baseD 124).at { tmps:=#[Pt X.tb 0,.func (.func 93) #[] #[Pt p1 0,Pt p2 0,Pt p3 0,Pt p4 0]]++Array.replicate 6 undef,defers:=[] } [.code code]) [botP Tryd.prog]) w:=by
 refine run_goes X.tb 93 Tryd.f93 #[Pt p1 0,Pt p2 0,Pt p3 0,Pt p4 0] Tryd.func93 (by kernel_rfl) _ rfl hvw hn (fun v1 w1 hvw1 hn1 hg1 hbx hs1=>?_) code hc
 have hbox:v1.cell? ⟨X.bb,0,none⟩=some (Pt X.tb 0):=by rw [hbb];simp [World.cell?,hbx]
 refine body33_goes (tb:=X.tb) X.csl X.F X.asl rr m cap' ix hix (hg1.cell h1) (hg1.cell h2) (hg1.cell h3) (hg1.cell h4) (hg1.cell h5) [botP Tryd.prog] dst492 hvw1 hn1 (fun w2 bd ad od qd rd oe kd hvw2 hoe hfact code hcode=>?_) _ rfl
 rw [←hbb] at hfact
 have hce:=ends_of ok hoe hfact
 refine carry_in X.F X.asl X.pc X.calls.length X.cap _ (fun u=>?_) code hcode
 have:=flow_goes P ok hmine hfid (Home X n) (home_all P ok hmine hfid n) hce hz hcont X.calls 0 (by simp) (Nat.zero_le _) false ans (fun _=>False) S K v1 w2 t u hvw2 hn1 (hm.grows hg1).mem ht htb hgc hK (hp v1 hg1 hbox) hfar hl (fun g' w' E' M' hg=>hstop g' w' E' M' (hg.join (Evo.toP (hm.grows hg1)) rfl (fun b h=>.inl h)))
 rw [hbb] at this
 exact this
end Go.Proofs.YtfjjoohflcchnaaDoor.Gen
