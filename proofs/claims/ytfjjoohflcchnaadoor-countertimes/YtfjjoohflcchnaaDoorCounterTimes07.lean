/- Of the proof of CounterTimes. Part 7 of 31. (Joined, by program, and written short, of: Scan, MainT, Ends, Life, Body33.) -/
import Derived.Test.YtfjjoohflcchnaaDoorCounterTimes06
set_option linter.unusedSimpArgs false
set_option linter.unusedVariables false
set_option maxHeartbeats 4000000
set_option maxRecDepth 100000
namespace Go.Proofs.YtfjjoohflcchnaaDoor
open Go Go.Lift Go.Conc Go.RowKit
noncomputable def scan:Code:=seq1 (seq2 (seq2 (seq2 (Tryd.f125.body.getD .skip))))
def rdyIds (S:TS) (k:Nat):List Nat:=(List.range k).filter fun i=>(S.thr[i]?).any (rdy S)
def waits2 (S:TS) (k:Nat):Bool:=(List.range k).any fun i=>(S.thr[i]?).any fun t=>t.st==2
def tbs (S:TS) (ids:List Nat):List Nat:=ids.map fun i=>((S.thr[i]?).map (·.tb)).getD 0
theorem Rep.grows {z:Nat→Option Nat} {S:TS} {v v':World} (h:Rep z S v) (hs:v.heap.size≤v'.heap.size) (g:∀ b,b<v.heap.size→v'.heap[b]? = v.heap[b]?):Rep z S v':=by
 have hits:∀ k b,blk S k=some b→v'.heap[b]? = v.heap[b]?:=fun k b hk=>g b (h.lt hk)
 exact ⟨by rw [hits 0 S.wb rfl];exact h.wor,fun i t ht=>by rw [hits (i+5) t.tb (by simp [blk,ht])];exact h.thr i t ht,own_stay (fun b hb=>hits 3 b hb) h.own,own_stay (fun b hb=>hits 1 b hb) h.chg,own_stay (fun b hb=>hits 2 b hb) h.ths,own_stay (fun b hb=>hits 4 b hb) h.sch,Nat.le_trans h.bs hs,h.apart,h.kept⟩
theorem rdyIds_succ (S:TS) (k:Nat) {t:Thr} (ht:S.thr[k]? = some t):rdyIds S (k+1)=if rdy S t then rdyIds S k++[k] else rdyIds S k:=by
 unfold rdyIds
 rw [List.range_succ,List.filter_append]
 cases hr:rdy S t<;>simp [ht,hr]
theorem waits2_succ (S:TS) (k:Nat) {t:Thr} (ht:S.thr[k]? = some t):waits2 S (k+1)=(waits2 S k||t.st==2):=by
 unfold waits2
 rw [List.range_succ,List.any_append]
 simp [ht]
theorem rdyIds_len (S:TS) (k:Nat):(rdyIds S k).length≤k:=by
 unfold rdyIds
 refine Nat.le_trans (List.length_filter_le _ _) ?_
 simp
theorem info46:(Tryd.prog.info? 48).map (fun i=>(i.zero,i.size,i.bytes))=some (some (.pointer none),1,8):=by kernel_rfl
theorem ptr_cell {w:World} {base:Nat} {v:Value} {l:List Nat} (h:w.ownsRow base 48 1 v l.length (l.map fun b=>Pt b 0)) {k b:Nat} (hx:l[k]? = some b):∃ g cap,v=.slice (some ⟨g,0,none⟩) l.length cap∧w.cell? ⟨g,k,none⟩=some (Pt b 0):=by
 have hc:k<l.length:=(List.getElem?_eq_some_iff.1 hx).1
 rcases h.2 with ⟨rfl,h0⟩|⟨g,cap,cur,rfl,hb,hh,hle,_,hsz,htake⟩
 ·omega
 ·refine ⟨g,cap,rfl,?_⟩
  have e:(l.map fun b=>Pt b 0)[k]? = some (Pt b 0):=by simp [hx]
  rw [←htake,Nat.mul_one,List.getElem?_take_of_lt hc] at e
  simp only [World.cell?,hh,Option.isSome_none,Bool.false_eq_true,if_false]
  simpa using e
theorem news1 (w:World) (b:Nat) (t:TypeId):∀ j u,[Pt b 0][j]? = some u→(w.alloc (.cells #[Pt b 0] t)).cell? ((⟨w.heap.size,0,none⟩:Addr).add j)=some u:=by
 intro j u hj
 have hb:(w.alloc (.cells #[Pt b 0] t)).heap[w.heap.size]? = some (.cells #[Pt b 0] t):=Array.getElem?_push_size
 exact World.news_of_block hb j u hj
theorem one1 (b:Nat):∀ u∈[Pt b 0],u.oneCell'=true:=by
 intro u hu
 simp at hu
 subst hu
 rfl
theorem scan_wp {z:Nat→Option Nat} {S:TS} {v:World} (h:Rep z S v) (hm:S.thr.length≤8) :
 scan.wp Tryd.prog (fun e a w'=>e=.normal∧(∃ lv,(∃ u6 u8 u9 u10 u11 u12 u13 u14 u15 u16 u17 u18 u19 u20 u21 u22 u23 u24 u25 u26 u27 u28 u29 u30 u31,a={ tmps:=#[Pt S.wb 0,undef,.bool false,lv,.bool (waits2 S S.thr.length),undef,u6,undef,u8,u9,u10,u11,u12,u13,u14,u15,u16,u17,u18,u19,u20,u21,u22,u23,u24,u25,u26,u27,u28,u29,u30,u31]++Array.replicate 41 undef,defers:=[] })∧w'.ownsRow v.heap.size 48 1 lv (rdyIds S S.thr.length).length ((tbs S (rdyIds S S.thr.length)).map fun b=>Pt b 0)) ∧
  v.heap.size≤w'.heap.size∧(∀ b,b<v.heap.size→w'.heap[b]? = v.heap[b]?)∧w'.os=v.os∧w'.output=v.output)
  { tmps:=#[Pt S.wb 0,undef,.bool false,.slice none 0 0,.bool false]++Array.replicate 68 undef,defers:=[] } v:=by
 obtain ⟨_,_,_,_,w4,_⟩:=h.wcell
 have hths:=h.ths
 obtain ⟨p,pc,hp⟩:=own_form hths
 rw [hp] at w4
 have HR:Hid (Rep z S v):=⟨h⟩
 have HT:Hid (∀ (k:Nat) (t:Thr),S.thr[k]? = some t→∃ g,p=some ⟨g,0,none⟩∧v.cell? ⟨g,k,none⟩=some (Pt t.tb 0)):=⟨fun k t ht=>by
  have e:S.thr.map (fun t=>Pt t.tb 0)=(S.thr.map (·.tb)).map fun b=>Pt b 0:=by simp
  have hl:S.thr.length=(S.thr.map (·.tb)).length:=by simp
  have h':=hths
  rw [e,hl] at h'
  obtain ⟨g,cap,e1,e2⟩:=ptr_cell h' (k:=k) (b:=t.tb) (by simp [ht])
  rw [hp,←hl] at e1
  cases e1
  exact ⟨g,rfl,e2⟩⟩
 clear h hths
 show Code.wp Tryd.prog (seq1 (seq2 (seq2 (seq2 (Tryd.f125.body.getD .skip))))) _ _ _
 unfold Tryd.f125 seq1 seq2
 simp only [Option.getD_some,Array.replicate_succ,Array.replicate_zero,List.push_toArray,List.append_toArray,List.nil_append,List.cons_append]
 go_wp2_with fail
 go_loopw [3,4,13] (fun l b i u=>∃ (k:Nat),k≤S.thr.length∧i=.int .i64 k∧b=.bool (waits2 S k)∧(∃ lp lc,l=.slice lp (rdyIds S k).length lc)∧u.ownsRow v.heap.size 48 1 l (rdyIds S k).length ((tbs S (rdyIds S k)).map fun b=>Pt b 0)∧v.heap.size≤u.heap.size∧(∀ b,b<v.heap.size→u.heap[b]? = v.heap[b]?)∧u.os=v.os∧u.output=v.output) (fun _ _ i _=>S.thr.length - (intOf i).toNat)
 case atStart=>exact ⟨0,Nat.zero_le _,rfl,rfl,⟨none,0,rfl⟩,⟨by simp [rdyIds,tbs],.inl ⟨rfl,rfl⟩⟩,Nat.le_refl _,fun _ _=>rfl,rfl,rfl⟩
 case round =>
  obtain ⟨k,hk,rfl,rfl,⟨lp,lc,rfl⟩,hown,hsz,hbl,hos,hou⟩:=hrel
  have HI:Hid (wr.ownsRow v.heap.size 48 1 (.slice lp (rdyIds S k).length lc) (rdyIds S k).length ((tbs S (rdyIds S k)).map fun b=>Pt b 0)∧v.heap.size≤wr.heap.size∧(∀ b,b<v.heap.size→wr.heap[b]? = v.heap[b]?)∧wr.os=v.os∧wr.output=v.output):=⟨⟨hown,hsz,hbl,hos,hou⟩⟩
  clear hown hsz hbl hos hou
  by_cases hlt:k<S.thr.length
  ·obtain ⟨t,ht⟩:∃ t,S.thr[k]? = some t:=⟨_,List.getElem?_eq_getElem hlt⟩
   obtain ⟨g,rfl,hg⟩:=HT.out k t ht
   have HRw:Hid (Rep z S wr):=⟨HR.out.grows HI.out.2.1 HI.out.2.2.1⟩
   have hg':wr.cell? ⟨g,k,none⟩=some (Pt t.tb 0):=by rw [World.cell?_of_block (HI.out.2.2.1 g (World.block_lt_of_cell? _ _ hg))];exact hg
   have hst:wr.cell? ⟨t.tb,3,none⟩=some (I t.st):=(HRw.out.cell ht).2.2.2.1
   have HTk:Hid (S.thr[k]? = some t):=⟨ht⟩
   have hlt':(k:Int)<(S.thr.length:Int):=by omega
   have HLen:Hid ((rdyIds S k).length≤k):=⟨rdyIds_len S k⟩
   have HW1:=waits2_succ S k ht
   have HI1:=rdyIds_succ S k ht
   clear hg
   cases hr:rdy S t with
   |false =>
    rw [hr] at HI1
    simp only [Bool.false_eq_true,if_false] at HI1
    have HS:Hid (rdyIds S (k+1)=rdyIds S k∧waits2 S (k+1)=(waits2 S k||t.st==2)):=⟨⟨HI1,HW1⟩⟩
    have HRD:Hid (rdy S t=false):=⟨hr⟩
    clear HI1 HW1 hr ht
    cases hb:waits2 S k<;>cases hs:(t.st==2)
    all_goals
     have HBS:Hid (waits2 S (k+1)=_):=⟨by rw [HS.out.2,hb,hs]⟩
     clear hb
     go_wp2_with (go_at_call 155;refine ((body71 HRw.out HTk.out).calls Tryd.func155 rfl).mono ?_;rintro e w1 ⟨_,rfl,rfl,q,rfl⟩;rw [HRD.out])
     go_roundw
     case rel =>
      refine ⟨k+1,by omega,by go_num,by rw [HBS.out];rfl,⟨lp,lc,by rw [HS.out.1]⟩,?_,HI.out.2.1,HI.out.2.2.1,HI.out.2.2.2.1,HI.out.2.2.2.2⟩
      rw [HS.out.1]
      exact own_stay (fun _ _=>rfl) HI.out.1
     case measure=>simp [intOf];omega
   |true =>
    rw [hr] at HI1
    simp only [if_true] at HI1
    have hel:tbs S [k]=[t.tb]:=by simp [tbs,ht]
    have HS:Hid (rdyIds S (k+1)=rdyIds S k++[k]∧waits2 S (k+1)=(waits2 S k||t.st==2)∧tbs S (rdyIds S (k+1))=tbs S (rdyIds S k)++[t.tb]):=⟨⟨HI1,HW1,by rw [HI1,←hel];simp [tbs]⟩⟩
    have HRD:Hid (rdy S t=true):=⟨hr⟩
    clear HI1 HW1 hr ht hel
    obtain ⟨j0,hj,hj0,hj1,hj2⟩:=info_parts info46
    have HG:Hid (∀ (q:Nat) (w6:World),((wr.drewN q).alloc (.cells #[Pt t.tb 0] 48)).grownBy w6 (Value.slice lp (rdyIds S k).length lc).ownBlock→w6.cell? ⟨t.tb,3,none⟩=some (I t.st)∧v.heap.size≤w6.heap.size∧(∀ b,b<v.heap.size→w6.heap[b]? = v.heap[b]?)∧w6.os=v.os∧w6.output=v.output):=⟨fun q w6 hg6=>by
     have hal:Below wr.heap.size wr ((wr.drewN q).alloc (.cells #[Pt t.tb 0] 48)):=below_alloc (a:=wr) (b:=wr.drewN q) ⟨rfl,rfl,rfl,Nat.le_refl _,fun _ _=>rfl⟩ _
     have hblk:∀ b,b<v.heap.size→w6.heap[b]? = v.heap[b]?:=fun b hb=>by
      rw [hg6.block b (by have:=HI.out.2.1;have:=hal.size;omega) (fun e=>by have:=(own_lt HI.out.1 b e.symm).1;omega),hal.block b (by have:=HI.out.2.1;omega),HI.out.2.2.1 b hb]
     have hbt:t.tb<v.heap.size:=HR.out.lt (k:=k+5) (by simp [blk,HTk.out])
     refine ⟨?_,by have:=HI.out.2.1;have:=hal.size;have:=hg6.size;omega,hblk,by rw [hg6.os,hal.os];exact HI.out.2.2.2.1,by rw [hg6.output,hal.output];exact HI.out.2.2.2.2⟩
     rw [World.cell?_of_block (w:=wr) (by rw [hblk _ hbt,HI.out.2.2.1 _ hbt])]
     exact hst⟩
    cases hb:waits2 S k<;>cases hs:(t.st==2)
    all_goals
     have HBS:Hid (waits2 S (k+1)=_):=⟨by rw [HS.out.2.1,hb,hs]⟩
     clear hb
     go_wp2_with (first
      |(go_at_call 155;refine ((body71 HRw.out HTk.out).calls Tryd.func155 rfl).mono ?_;rintro e w1 ⟨_,rfl,rfl,q,rfl⟩;rw [HRD.out])
      |(refine wpList_append_lies _ rfl (.tmp 19) (.tmp 21) 95 rfl v.heap.size 48 j0 _ 1 8 Tryd.underlying95 hj hj0 hj1 hj2 rfl (by decide) (.slice lp (rdyIds S k).length lc) (rdyIds S k).length ((tbs S (rdyIds S k)).map fun b=>Pt b 0) rfl (own_later (below_alloc (Below.refl _ _) _) (own_stay (fun _ _=>rfl) HI.out.1)) ⟨_,0,none⟩ 1 1 [Pt t.tb 0] rfl rfl (news1 _ _ _) (one1 _) (by decide) (by have:=HLen.out;unfold maxLen;omega) (by have:=HLen.out;omega) (by have:=HI.out.2.1;simp;omega) _ rfl ?_
        intro g2 cp2 w6 hown6 hgrow6 hat6 hlt6
        have k3:=(HG.out _ _ hgrow6).1))
     have HO6:Hid (w6.ownsRow v.heap.size 48 1 (.slice (some ⟨g2,0,none⟩) ((rdyIds S k).length+1) cp2) ((rdyIds S k).length+1) (((tbs S (rdyIds S k)).map fun b=>Pt b 0)++[Pt t.tb 0])):=⟨hown6⟩
     have HG6:=(HG.out _ _ hgrow6).2
     go_roundw
     case rel =>
      have el:(rdyIds S (k+1)).length=(rdyIds S k).length+1:=by rw [HS.out.1];simp
      refine ⟨k+1,by omega,by go_num,by rw [HBS.out];rfl,⟨some ⟨g2,0,none⟩,cp2,by rw [el]⟩,?_,HG6.1,HG6.2.1,HG6.2.2.1,HG6.2.2.2⟩
      rw [el,HS.out.2.2]
      simpa using HO6.out
     case measure=>simp [intOf];omega
  ·have hkk:k=S.thr.length:=by omega
   subst hkk
   go_wp2_with fail
   exact HI.out
def mainFs:List FuncId:=[157,155,156]
def LM (f:FuncId):Prop:=f∈mainFs
theorem callM:∀ f∈mainFs,Callable Tryd.prog LM f:=by
 intro f hf
 have hf':=hf
 simp only [mainFs,List.mem_cons,List.not_mem_nil,or_false] at hf
 rcases hf with rfl|rfl|rfl
 ·exact ⟨hf',Tryd.f157,Tryd.func157,by kernel_rfl,by kernel_rfl⟩
 ·exact ⟨hf',Tryd.f155,Tryd.func155,by kernel_rfl,by kernel_rfl⟩
 ·exact ⟨hf',Tryd.f156,Tryd.func156,by kernel_rfl,by kernel_rfl⟩
theorem fineM:∀ f,LM f→fineFn Tryd.prog true LM f:=by
 intro f hf
 simp only [LM,mainFs,List.mem_cons,List.not_mem_nil,or_false] at hf
 rcases hf with rfl|rfl|rfl
 ·exact fineFn_of callM Tryd.func157 (c:=Tryd.f157.body.getD .skip) (by rfl) (by kernel_rfl)
 ·exact fineFn_of callM Tryd.func155 (c:=Tryd.f155.body.getD .skip) (by rfl) (by kernel_rfl)
 ·exact fineFn_of callM Tryd.func156 (c:=Tryd.f156.body.getD .skip) (by rfl) (by kernel_rfl)
theorem fineScan:fineCode Tryd.prog true LM scan:=fineCode_of callM (by kernel_rfl)
theorem thr_ev {z:Nat→Option Nat} {S:TS} {v V:World} (h:Rep z S v) {i:Nat} {t:Thr} (ht:S.thr[i]? = some t) (t':Thr) (htb:t'.tb=t.tb) (hst:∀ b,b≠t.tb→V.heap[b]? = v.heap[b]?) (hrow:V.heap[t.tb]? = some (.cells (trow S.wb i t'.gc t'.st t'.ce t'.op t'.se) 107 (fz z t.tb))) (hsz:V.heap.size=v.heap.size) (hos:V.os=v.os) (hou:V.output=v.output) :
 Ev z S v { S with thr:=S.thr.set i t' } V:=by
 have hi:i<S.thr.length:=(List.getElem?_eq_some_iff.1 ht).1
 have hbt:blk S (i+5)=some t.tb:=by simp [blk,ht]
 have hits:∀ k b,blk S k=some b→k≠i+5→V.heap[b]? = v.heap[b]?:=fun k b hk hne=>hst b (fun e=>hne (h.apart k (i+5) b hk (by rw [hbt,e])))
 have hget:∀ (j:Nat) (u:Thr),(S.thr.set i t')[j]? = some u→(j=i∧u=t')∨(j≠i∧S.thr[j]? = some u):=fun j u hj=>by
  rw [List.getElem?_set] at hj
  by_cases e:i=j
  ·subst e;rw [if_pos rfl,if_pos hi] at hj;exact .inl ⟨rfl,(Option.some.inj hj).symm⟩
  ·rw [if_neg e] at hj;exact .inr ⟨fun e'=>e e'.symm,hj⟩
 have hblk:∀ k,blk { S with thr:=S.thr.set i t' } k=blk S k:=fun k=>by
  match k with
  |0=>rfl
  |1=>rfl
  |2=>rfl
  |3=>rfl
  |4=>rfl
  |k+5 =>
   simp only [blk,List.getElem?_set]
   by_cases e:i=k
   ·subst e
    have:S.thr[i]=t:=by rw [List.getElem?_eq_getElem hi] at ht;exact Option.some.inj ht
    simp [hi,this,htb]
   ·simp [e]
 have hths:(S.thr.set i t').map (fun t=>Pt t.tb 0)=S.thr.map (fun t=>Pt t.tb 0):=by
  apply List.ext_getElem?
  intro k
  have:=hblk (k+5)
  simp only [blk] at this
  rw [List.getElem?_map,List.getElem?_map]
  have e:∀ l:List Thr,(l[k]?).map (fun t=>Pt t.tb 0)=((l[k]?).map (·.tb)).map (fun b=>Pt b 0):=fun l=>by cases l[k]?<;>rfl
  rw [e,e,this]
 refine ⟨⟨?_,fun j u hj=>?_,own_stay (fun b hb=>hits 3 b hb (by omega)) h.own,own_stay (fun b hb=>hits 1 b hb (by omega)) h.chg,?_,own_stay (fun b hb=>hits 4 b hb (by omega)) h.sch,?_,fun j k b hj hk=>?_,fun b n hz=>?_⟩,⟨hos,hou,by omega,fun b hb hs=>hst b (fun e=>hs ⟨i+5,by rw [hbt,e]⟩)⟩,fun b ⟨k,hk⟩=>.inl ⟨k,by rw [←hblk];exact hk⟩⟩
 ·show V.heap[S.wb]? = _
  rw [hits 0 S.wb rfl (by omega)]
  exact h.wor
 ·rcases hget j u hj with ⟨rfl,rfl⟩|⟨hne,hj⟩
  ·rw [htb];exact hrow
  ·rw [hits (j+5) u.tb (by simp [blk,hj]) (by omega)]
   exact h.thr j u hj
 ·have:=own_stay (w':=V) (fun b hb=>hits 2 b hb (by omega)) h.ths
  show V.ownsRow S.base 48 1 S.ths (S.thr.set i t').length ((S.thr.set i t').map fun t=>Pt t.tb 0)
  rw [hths,List.length_set]
  exact this
 ·show S.base≤V.heap.size
  rw [hsz];exact h.bs
 ·exact h.apart j k b (by rw [←hblk];exact hj) (by rw [←hblk];exact hk)
 ·rcases h.kept b n hz with h1|⟨j,u,hj,h2,h3⟩
  ·exact .inl h1
  ·right
   by_cases e:j=i
   ·subst e
    rw [ht] at hj
    cases hj
    exact ⟨j,t',by simp [hi],by rw [h2,htb],h3⟩
   ·exact ⟨j,u,by show (S.thr.set i t')[j]? = some u;rw [List.getElem?_set,if_neg (fun e'=>e e'.symm)];exact hj,h2,h3⟩
def going (S:TS) (i:Nat) (t:Thr):TS:={ (picked S) with la:=i,thr:=(picked S).thr.set i { t with st:=0 } }
noncomputable def pick15:Code:=seq1 (seq2 (seq2 (seq2 (seq2 (seq2 (Tryd.f125.body.getD .skip))))))
noncomputable def last16:Code:=seq1 (seq2 (seq2 (seq2 (seq2 (seq2 (seq2 (Tryd.f125.body.getD .skip)))))))
noncomputable def state17:Code:=seq1 (seq2 (seq2 (seq2 (seq2 (seq2 (seq2 (seq2 (Tryd.f125.body.getD .skip))))))))
theorem fine15M:fineCode Tryd.prog true LM pick15:=fineCode_of callM (by kernel_rfl)
theorem fine16M:fineCode Tryd.prog true LM last16:=fineCode_of callM (by kernel_rfl)
theorem fine17M:fineCode Tryd.prog true LM state17:=fineCode_of callM (by kernel_rfl)
noncomputable def c500:Code:=seq1 (Tryd.f125.body.getD .skip)
noncomputable def c501:Code:=seq1 (seq2 (Tryd.f125.body.getD .skip))
noncomputable def c502:Code:=seq1 (seq2 (seq2 (Tryd.f125.body.getD .skip)))
noncomputable def c504:Code:=seq2 (seq2 (seq2 (seq2 (Tryd.f125.body.getD .skip))))
theorem fine500:fineCode Tryd.prog true LM c500:=fineCode_of callM (by kernel_rfl)
theorem fine501:fineCode Tryd.prog true LM c501:=fineCode_of callM (by kernel_rfl)
theorem fine502:fineCode Tryd.prog true LM c502:=fineCode_of callM (by kernel_rfl)
noncomputable def c510:Code:=seq1 (seq2 (seq2 (seq2 (seq2 (Tryd.f125.body.getD .skip)))))
noncomputable def c518:Code:=seq2 (seq2 (seq2 (seq2 (seq2 (seq2 (seq2 (seq2 (Tryd.f125.body.getD .skip))))))))
theorem fine510:fineCode Tryd.prog true LM c510:=fineCode_of callM (by kernel_rfl)
theorem own_ptrs {w:World} {base:Nat} {v:Value} {l:List Nat} (h:w.ownsRow base 48 1 v l.length (l.map fun b=>Pt b 0)) (h0:0<l.length):PtrRow w v l:=by
 rcases h.2 with ⟨_,h1⟩|⟨g,cap,cur,rfl,hb,hh,hle,_,hsz,htake⟩
 ·omega
 ·refine ⟨g,cap,rfl,fun k b hx=>?_⟩
  have hc:k<l.length:=(List.getElem?_eq_some_iff.1 hx).1
  have e:(l.map fun b=>Pt b 0)[k]? = some (Pt b 0):=by simp [hx]
  rw [←htake,Nat.mul_one,List.getElem?_take_of_lt hc] at e
  simp only [World.cell?,hh,Option.isSome_none,Bool.false_eq_true,if_false]
  simpa using e
noncomputable def ops5019:Array Oper:=opsOf (seq1 (seq2 (seq2 (seq2 (seq2 (seq2 (seq2 (seq2 (seq2 (seq2 (Tryd.f125.body.getD .skip)))))))))))
noncomputable def c5020:Code:=seq2 (seq2 (seq2 (seq2 (seq2 (seq2 (seq2 (seq2 (seq2 (seq2 (Tryd.f125.body.getD .skip))))))))))
theorem back50 (tmps:Array Value) (hs:tmps.size=73) {bc:Frame} {ac:Act} {ops:Array Oper} {i:Nat} {rest:List Nat} {o:Oper} {k:List Item} {cs:List Frame} (ho:ops[i]? = some o) :
 Back Tryd.prog true (G ((base 125).at { tmps:=tmps,defers:=[] } [.inRegion ops5019 [4],.code c5020]) (bc.at ac (.inRegion ops (i :: rest) :: k) :: cs)) (G (bc.at (ac.put o.dst (.bool true)) (.inRegion ops rest :: k)) cs):=by
 intro D Stop x w hD h
 rw [served_fr,Frame.finish_at]
 refine goesI_regionEnd hD ?_
 refine goesI_seq hD ?_
 refine goesI_region hD ?_
 refine goesI_value (v:=fun _=>.bool true) (w':=fun d=>w.at d) rfl rfl (by decide) (fun d=>rfl) (fun d=>by rw [listed_none rfl];exact hD _) (fun d=>?_)
 refine GoesI.at ?_ d
 refine goesI_regionEnd hD ?_
 refine GoesI.ctl rfl (fun _=>stepG_ret') hD ?_
 refine goesI_leave (b:=base 125) (fn:=Tryd.f125) (v:=.bool true) rfl rfl Tryd.func125 (fun w=>?_) (fun w=>by simp [results,go_sem]) ho hD h
 rw [results_tmp (t:=2) rfl]
 show Result.ok (((tmps.setIfInBounds 72 x).setIfInBounds 2 (.bool true)).getD 2 undef) w=_
 simp [hs]
def ScanQ (S:TS) (v:World) (a:Act) (w':World):Prop :=
 (∃ lv,(∃ u6 u8 u9 u10 u11 u12 u13 u14 u15 u16 u17 u18 u19 u20 u21 u22 u23 u24 u25 u26 u27 u28 u29 u30 u31,a={ tmps:=#[Pt S.wb 0,undef,.bool false,lv,.bool (waits2 S S.thr.length),undef,u6,undef,u8,u9,u10,u11,u12,u13,u14,u15,u16,u17,u18,u19,u20,u21,u22,u23,u24,u25,u26,u27,u28,u29,u30,u31]++Array.replicate 41 undef,defers:=[] })∧w'.ownsRow v.heap.size 48 1 lv (rdyIds S S.thr.length).length ((tbs S (rdyIds S S.thr.length)).map fun b=>Pt b 0))∧v.heap.size≤w'.heap.size∧(∀ b,b<v.heap.size→w'.heap[b]? = v.heap[b]?)∧w'.os=v.os∧w'.output=v.output
theorem turn50_goes {z:Nat→Option Nat} {Ch:Nat→Prop} {Stop:Goroutine→World→Prop} {cont:Addr→Value} {S:TS} {K:List (Nat×Int)} {v w:World} {i:Nat} {t:Thr} (cs:List Frame) (Hm:Goroutine→Prop) {bc:Frame} {ac:Act} {ops:Array Oper} {q:Nat} {rest:List Nat} {oc:Oper} {k:List Item} (hoc:ops[q]? = some oc)
 (hH:∀ g,Back Tryd.prog true g (G (bc.at (ac.put oc.dst (.bool true)) (.inRegion ops rest :: k)) cs)→Hm g)
 (hvw:Rel z v w) (hn:NoRow Ch v) (hm:Mem z S K v) (h8:S.thr.length≤8) (hsl:S.sched.length≤4611686018427387904) (hsc:∀ x∈S.sched,-9223372036854775808≤x∧x<9223372036854775808)
 (h0:0<(rdyIds S S.thr.length).length) (hi:(rdyIds S S.thr.length)[pickAt S (rdyIds S S.thr.length)]? = some i) (ht:S.thr[i]? = some t) (hz:z S.wb=some 8) (hcont:cont ⟨S.wb,8,none⟩=.chan (some S.bk))
 (hstop:∀ g w',Lift.AtGive Tryd.prog (KC (ScZ z) cont) (StillC (ScZ z)) 0 t.gc (.agg #[]) (some (Seat.one S.bk (.agg #[]) false Hm)) (Then z Ch S K v (going S i t) K) g w'→Stop g w') (code:Code) (hc:Tryd.f125.body=some code) :
 GoesI Tryd.prog true (DT (ScZ z) Ch) Stop (G ((base 125).at { tmps:=#[Pt S.wb 0]++Array.replicate 72 undef,defers:=[] } [.code code]) (bc.at ac (.inRegion ops (q :: rest) :: k) :: cs)) w:=by
 have hw0:code=.seq c500 (.seq c501 (.seq c502 (.seq scan c504))):=by
  obtain rfl:=Option.some.inj hc;rfl
 subst hw0
 clear hc
 simp only [Array.replicate_succ,Array.replicate_zero,List.push_toArray,List.append_toArray,List.nil_append,List.cons_append]
 refine goesI_seq (dt_idle _ _) ?_
 refine goesI_look hE fineM hvw hn fine500 rfl (by simp [base]) (a':={ tmps:=#[Pt S.wb 0,undef,.bool false]++Array.replicate 70 undef,defers:=[] }) (fun τ=>?_) (fun w hvw=>?_)
 ·show Code.wp Tryd.prog (c500) _ _ _
  unfold c500 Tryd.f125 seq1
  simp only [Option.getD_some,Array.replicate_succ,Array.replicate_zero,List.push_toArray,List.append_toArray,List.nil_append,List.cons_append]
  go_wp2_with fail
  exact ⟨rfl,rfl,rfl⟩
 simp only [Array.replicate_succ,Array.replicate_zero,List.push_toArray,List.append_toArray,List.nil_append,List.cons_append]
 refine goesI_seq (dt_idle _ _) ?_
 refine goesI_look hE fineM hvw hn fine501 rfl (by simp [base]) (a':={ tmps:=#[Pt S.wb 0,undef,.bool false,.slice none 0 0]++Array.replicate 69 undef,defers:=[] }) (fun τ=>?_) (fun w hvw=>?_)
 ·show Code.wp Tryd.prog (c501) _ _ _
  unfold c501 Tryd.f125 seq1 seq2
  simp only [Option.getD_some,Array.replicate_succ,Array.replicate_zero,List.push_toArray,List.append_toArray,List.nil_append,List.cons_append]
  go_wp2_with fail
  exact ⟨rfl,rfl,rfl⟩
 simp only [Array.replicate_succ,Array.replicate_zero,List.push_toArray,List.append_toArray,List.nil_append,List.cons_append]
 refine goesI_seq (dt_idle _ _) ?_
 refine goesI_look hE fineM hvw hn fine502 rfl (by simp [base]) (a':={ tmps:=#[Pt S.wb 0,undef,.bool false,.slice none 0 0,.bool false]++Array.replicate 68 undef,defers:=[] }) (fun τ=>?_) (fun w hvw=>?_)
 ·show Code.wp Tryd.prog (c502) _ _ _
  unfold c502 Tryd.f125 seq1 seq2
  simp only [Option.getD_some,Array.replicate_succ,Array.replicate_zero,List.push_toArray,List.append_toArray,List.nil_append,List.cons_append]
  go_wp2_with fail
  exact ⟨rfl,rfl,rfl⟩
 simp only [Array.replicate_succ,Array.replicate_zero,List.push_toArray,List.append_toArray,List.nil_append,List.cons_append]
 refine goesI_seq (dt_idle _ _) ?_
 have hscan:∀ τ,scan.wp Tryd.prog (fun e a w'=>e=.normal∧ScanQ S v a w') { tmps:=#[Pt S.wb 0,undef,.bool false,.slice none 0 0,.bool false]++Array.replicate 68 undef,defers:=[] } (onTape v τ 0):=fun τ=>scan_wp (hm.rep.same (v':=onTape v τ 0) rfl) h8
 simp only [Array.replicate_succ,Array.replicate_zero,List.push_toArray,List.append_toArray,List.nil_append,List.cons_append] at hscan
 refine goesI_plain (c:=scan) (z:=z) (wr:=true) (L:=LM) (I:=NoRow Ch) hE fineM noRow_keeps (fun v v' w w' es hi hr ho he=>dt_of_z v v' w w' es hi hr ho he) hvw fineScan rfl (by simp [base]) hn hscan ?_
 rintro a' v1 w1 ⟨⟨lv,⟨u6,u8,u9,u10,u11,u12,u13,u14,u15,u16,u17,u18,u19,u20,u21,u22,u23,u24,u25,u26,u27,u28,u29,u30,u31,rfl⟩,hown⟩,hsz,hbl,hos,hou⟩ hr1 hn1 -
 have hg:Grows v v1:=⟨hsz,hbl,hos,hou⟩
 have he1:=hm.grows hg
 have hlv:=own_form hown
 obtain ⟨p,cap,rfl⟩:=hlv
 have hc504:c504=.seq c510 (.seq pick15 (.seq last16 (.seq state17 c518))):=rfl
 rw [hc504]
 clear hscan
 refine goesI_seq (dt_idle _ _) ?_
 refine goesI_look hE fineM hr1 hn1 fine510 rfl (by simp [base]) (a':={ tmps:=#[Pt S.wb 0,undef,.bool false,.slice p (rdyIds S S.thr.length).length cap,.bool (waits2 S S.thr.length),undef,u6,undef,u8,u9,u10,u11,u12,u13,u14,u15,u16,u17,u18,u19,u20,u21,u22,u23,u24,u25,u26,u27,u28,u29,u30,u31,.slice p (rdyIds S S.thr.length).length cap,I (rdyIds S S.thr.length).length,.bool false]++Array.replicate 38 undef,defers:=[] }) (fun τ=>?_) (fun w2 hr2=>?_)
 ·have hn0:¬ (((rdyIds S S.thr.length).length:Int)=0):=by omega
  have hn0':((((rdyIds S S.thr.length).length:Int))==0)=false:=by rw [beq_eq_false_iff_ne];omega
  clear hr1 hn1 he1 hown hbl hm hH hstop hi hsc hsl h8 hos hou hsz hg
  generalize (rdyIds S S.thr.length).length=nn at *
  show Code.wp Tryd.prog c510 _ _ _
  unfold c510 Tryd.f125 seq1 seq2
  simp only [Option.getD_some,Array.replicate_succ,Array.replicate_zero,List.push_toArray,List.append_toArray,List.nil_append,List.cons_append]
  go_wp2_with fail
  exact ⟨rfl,rfl,rfl⟩
 simp only [Array.replicate_succ,Array.replicate_zero,List.push_toArray,List.append_toArray,List.nil_append,List.cons_append]
 have hbs:(tbs S (rdyIds S S.thr.length)).length=(rdyIds S S.thr.length).length:=by simp [tbs]
 have hrw1:Rep z S v1:=he1.mem.rep
 have hgl:∀ g,(Value.slice p (rdyIds S S.thr.length).length cap).ownBlock=some g→¬ Its S g:=fun g hg' ⟨kk,hkk⟩=>by
  have:=(own_lt hown g hg').1
  have:=hm.rep.lt hkk
  omega
 have hrowp:PtrRow v1 (.slice p (rdyIds S S.thr.length).length cap) (tbs S (rdyIds S S.thr.length)):=by
  have h':=hown
  rw [←hbs] at h' ⊢
  exact own_ptrs h' (by omega)
 have hidsp:∀ (kk ii b:Nat),(rdyIds S S.thr.length)[kk]? = some ii→(tbs S (rdyIds S S.thr.length))[kk]? = some b→∃ t,S.thr[ii]? = some t∧t.tb=b:=fun kk ii b h1 h2=>by
  have hmem:ii∈rdyIds S S.thr.length:=List.mem_of_getElem? h1
  simp only [rdyIds,List.mem_filter] at hmem
  cases ht':S.thr[ii]? with
  |none=>rw [ht'] at hmem;simp at hmem
  |some t' =>
   refine ⟨t',rfl,?_⟩
   simp only [tbs,List.getElem?_map,h1,Option.map_some,ht',Option.getD_some,Option.some.injEq] at h2
   exact h2
 have hbi:(tbs S (rdyIds S S.thr.length))[pickAt S (rdyIds S S.thr.length)]? = some t.tb:=by simp [tbs,hi,ht]
 refine goesI_seq (dt_idle _ _) ?_
 refine goesI_plain (c:=pick15) (z:=z) (wr:=true) (L:=LM) (I:=NoRow Ch) hE fineM noRow_keeps (fun v v' w w' es hi hr ho he=>dt_of_z v v' w w' es hi hr ho he) hr2 fine15M rfl (by simp [base]) hn1 (Q:=fun a w'=>a={ tmps:=#[Pt S.wb 0,undef,.bool false,.slice p (rdyIds S S.thr.length).length cap,.bool (waits2 S S.thr.length),undef,u6,Pt t.tb 0,u8,u9,u10,u11,u12,u13,u14,u15,u16,u17,u18,u19,u20,u21,u22,u23,u24,u25,u26,u27,u28,u29,u30,u31,.slice p (rdyIds S S.thr.length).length cap,I (rdyIds S S.thr.length).length,.bool false,undef,undef,undef,undef,undef,undef,undef,undef,undef,undef,undef,undef,undef,undef,undef,Pt S.wb 0,.slice p (rdyIds S S.thr.length).length cap,Pt t.tb 0]++Array.replicate 20 undef,defers:=[] }∧Ev z S v1 (picked S) w') (fun τ=>?_) ?_
 ·have HB:=(body72 (hrw1.same (v':=onTape v1 τ 0) rfl) (.slice p (rdyIds S S.thr.length).length cap) (rdyIds S S.thr.length) (tbs S (rdyIds S S.thr.length)) hrowp hgl hbs hidsp h0 (Nat.le_trans (rdyIds_len S _) h8) hsl hsc).calls Tryd.func156 rfl
  have HBC:Hid (Calls Tryd.prog 156 #[Pt S.wb 0,.slice p (rdyIds S S.thr.length).length cap] (onTape v1 τ 0) (fun e w'=>e=.returned (Pt t.tb 0)∧Ev z S v1 (picked S) w')):=⟨HB.mono fun e w' ⟨r,h1,⟨b,h2,h3⟩,h4⟩=>⟨by rw [hbi] at h2;cases h2;rw [h1,h3],h4.base rfl rfl rfl⟩⟩
  clear HB hr1 hr2 hn1 he1 hown hbl hm hH hstop hi hsc hsl h8 hrw1 hgl hrowp hidsp hbi hbs hos hou hsz hg
  generalize (rdyIds S S.thr.length).length=nn at *
  show Code.wp Tryd.prog pick15 _ _ _
  unfold pick15 Tryd.f125 seq1 seq2
  simp only [Option.getD_some,Array.replicate_succ,Array.replicate_zero,List.push_toArray,List.append_toArray,List.nil_append,List.cons_append]
  go_wp2_with (go_at_call 156;refine HBC.out.mono ?_;rintro e w5 ⟨rfl,hev5⟩)
 rintro a' v2 w3 ⟨rfl,hev2⟩ hr3 hn3 -
 simp only [Array.replicate_succ,Array.replicate_zero,List.push_toArray,List.append_toArray,List.nil_append,List.cons_append]
 have hthr2:(picked S).thr=S.thr:=by unfold picked;split<;>rfl
 have hwb2:(picked S).wb=S.wb:=by unfold picked;split<;>rfl
 have hrep2:Rep z (picked S) v2:=hev2.rep
 have ht2:(picked S).thr[i]? = some t:=by rw [hthr2];exact ht
 have c1:v2.cell? ⟨t.tb,1,none⟩=some (I i):=(hrep2.cell ht2).2.1
 have c2:v2.cell? ⟨S.wb,2,none⟩=some (I (picked S).la):=by rw [←hwb2];exact hrep2.wcell.2.2.1
 have f2:v2.frozen? ⟨S.wb,2,none⟩=false:=by rw [←hwb2];exact fz_off hrep2 2 (by omega)
 have hev3:Ev z (picked S) v2 { (picked S) with la:=i } (v2.setCell ⟨S.wb,2,none⟩ (I i)):=by
  have:=world_set hrep2 (picked S).us i (picked S).stk 2 (I i) (by simp)
  rw [←hwb2]
  exact this
 refine goesI_seq (dt_idle _ _) ?_
 refine goesI_plain (c:=last16) (z:=z) (wr:=true) (L:=LM) (I:=NoRow Ch) hE fineM noRow_keeps (fun v v' w w' es hi hr ho he=>dt_of_z v v' w w' es hi hr ho he) hr3 fine16M rfl (by simp [base]) hn3 (Q:=fun a w'=>a={ tmps:=#[Pt S.wb 0,undef,.bool false,.slice p (rdyIds S S.thr.length).length cap,.bool (waits2 S S.thr.length),undef,u6,Pt t.tb 0,u8,u9,u10,u11,u12,u13,u14,u15,u16,u17,u18,u19,u20,u21,u22,u23,u24,u25,u26,u27,u28,u29,u30,u31,.slice p (rdyIds S S.thr.length).length cap,I (rdyIds S S.thr.length).length,.bool false,undef,undef,undef,undef,undef,undef,undef,undef,undef,undef,undef,undef,undef,undef,undef,Pt S.wb 0,.slice p (rdyIds S S.thr.length).length cap,Pt t.tb 0,Pt S.wb 0,Pt t.tb 0,Pt t.tb 0,Pt t.tb 1,I i,Pt S.wb 0,Pt S.wb 2]++Array.replicate 13 undef,defers:=[] }∧w'.heap=(v2.setCell ⟨S.wb,2,none⟩ (I i)).heap∧w'.os=v2.os∧w'.output=v2.output) (fun τ=>?_) ?_
 ·have c1':(onTape v2 τ 0).cell? ⟨t.tb,1,none⟩=some (I i):=c1
  have c2':(onTape v2 τ 0).cell? ⟨S.wb,2,none⟩=some (I (picked S).la):=c2
  have f2':(onTape v2 τ 0).frozen? ⟨S.wb,2,none⟩=false:=f2
  clear hr1 hr2 hr3 hn1 hn3 he1 hown hbl hm hH hstop hi hsc hsl h8 hrw1 hgl hrowp hidsp hbi hbs hos hou hsz hg hev2 hev3 hrep2 ht2 c1 c2 f2 hthr2 hwb2
  generalize (rdyIds S S.thr.length).length=nn at *
  show Code.wp Tryd.prog last16 _ _ _
  unfold last16 Tryd.f125 seq1 seq2
  simp only [Option.getD_some,Array.replicate_succ,Array.replicate_zero,List.push_toArray,List.append_toArray,List.nil_append,List.cons_append]
  go_wp2_with fail
  exact ⟨rfl,rfl,rfl⟩
 rintro a' v3 w4 ⟨rfl,q1,q2,q3⟩ hr4 hn4 -
 simp only [Array.replicate_succ,Array.replicate_zero,List.push_toArray,List.append_toArray,List.nil_append,List.cons_append]
 have hev3':Ev z (picked S) v2 { (picked S) with la:=i } v3:=hev3.same q1 q2 q3
 have hrep3:=hev3'.rep
 have ht3:({ (picked S) with la:=i }:TS).thr[i]? = some t:=ht2
 have d3:v3.cell? ⟨t.tb,3,none⟩=some (I t.st):=(hrep3.cell ht3).2.2.2.1
 have g3:v3.frozen? ⟨t.tb,3,none⟩=false:=fzT_off hrep3 ht3 3 (by omega)
 have hev4:Ev z { (picked S) with la:=i } v3 (going S i t) (v3.setCell ⟨t.tb,3,none⟩ (I 0)):=by
  refine thr_ev hrep3 ht3 { t with st:=0 } rfl (fun b hb=>Below.heap_setCell _ _ _ _ hb) ?_ (by simp [World.setCell]) rfl rfl
  have:=heap_setCell_same (o:=3) (hrep3.thr i t ht3) (I 0)
  simpa using this
 refine goesI_seq (dt_idle _ _) ?_
 refine goesI_plain (c:=state17) (z:=z) (wr:=true) (L:=LM) (I:=NoRow Ch) hE fineM noRow_keeps (fun v v' w w' es hi hr ho he=>dt_of_z v v' w w' es hi hr ho he) hr4 fine17M rfl (by simp [base]) hn4 (Q:=fun a w'=>a={ tmps:=#[Pt S.wb 0,undef,.bool false,.slice p (rdyIds S S.thr.length).length cap,.bool (waits2 S S.thr.length),undef,u6,Pt t.tb 0,u8,u9,u10,u11,u12,u13,u14,u15,u16,u17,u18,u19,u20,u21,u22,u23,u24,u25,u26,u27,u28,u29,u30,u31,.slice p (rdyIds S S.thr.length).length cap,I (rdyIds S S.thr.length).length,.bool false,undef,undef,undef,undef,undef,undef,undef,undef,undef,undef,undef,undef,undef,undef,undef,Pt S.wb 0,.slice p (rdyIds S S.thr.length).length cap,Pt t.tb 0,Pt S.wb 0,Pt t.tb 0,Pt t.tb 0,Pt t.tb 1,I i,Pt S.wb 0,Pt S.wb 2,Pt t.tb 0,Pt t.tb 0,Pt t.tb 3]++Array.replicate 10 undef,defers:=[] }∧w'.heap=(v3.setCell ⟨t.tb,3,none⟩ (I 0)).heap∧w'.os=v3.os∧w'.output=v3.output) (fun τ=>?_) ?_
 ·have d3':(onTape v3 τ 0).cell? ⟨t.tb,3,none⟩=some (I t.st):=d3
  have g3':(onTape v3 τ 0).frozen? ⟨t.tb,3,none⟩=false:=g3
  clear hr1 hr2 hr3 hr4 hn1 hn3 hn4 he1 hown hbl hm hH hstop hi hsc hsl h8 hrw1 hgl hrowp hidsp hbi hbs hos hou hsz hg hev2 hev3 hev3' hev4 hrep2 hrep3 ht2 ht3 c1 c2 f2 hthr2 hwb2 d3 g3 q1 q2 q3
  generalize (rdyIds S S.thr.length).length=nn at *
  show Code.wp Tryd.prog state17 _ _ _
  unfold state17 Tryd.f125 seq1 seq2
  simp only [Option.getD_some,Array.replicate_succ,Array.replicate_zero,List.push_toArray,List.append_toArray,List.nil_append,List.cons_append]
  go_wp2_with fail
  exact ⟨rfl,rfl,rfl⟩
 rintro a' v4 w5 ⟨rfl,q4,q5,q6⟩ hr5 hn5 -
 simp only [Array.replicate_succ,Array.replicate_zero,List.push_toArray,List.append_toArray,List.nil_append,List.cons_append]
 have hevo:Evo z S K v (going S i t) K v4:=by
  have e4:Ev z S v1 (going S i t) v4:=hev2.trans (hev3'.trans (hev4.same q4 q5 q6))
  refine he1.trans (Evo.of_ev he1.mem e4 ?_)
  unfold going picked
  split<;>rfl
 have c2g:w5.cell? ⟨t.tb,2,none⟩=some (.chan (some t.gc)):=by
  rw [hr5.cell?]
  have hti:(going S i t).thr[i]? = some { t with st:=0 }:=by
   unfold going
   have:i<(picked S).thr.length:=(List.getElem?_eq_some_iff.1 ht2).1
   simp [this]
  exact (hevo.mem.rep.cell hti).2.2.1
 have hwbl:S.wb<w5.heap.size:=by
  rw [hr5.size,←hwb2]
  exact (Array.getElem?_eq_some_iff.1 hevo.mem.rep.wor).1
 have HF:Hid (Then z Ch S K v (going S i t) K w5):=⟨⟨v4,hr5,hn5,hevo⟩⟩
 clear hr1 hr2 hr3 hr4 hr5 hn1 hn3 hn4 hn5 he1 hown hbl hm hi hsc hsl h8 hrw1 hgl hrowp hidsp hbi hbs hos hou hsz hg hev2 hev3 hev3' hev4 hrep2 hrep3 ht2 ht3 c1 c2 f2 hthr2 hwb2 d3 g3 q1 q2 q3 q4 q5 q6 hevo h0
 generalize (rdyIds S S.thr.length).length=nn
 show GoesI Tryd.prog true (DT (ScZ z) Ch) Stop (G ((base 125).at _ [.code (seq2 (seq2 (seq2 (seq2 (seq2 (seq2 (seq2 (seq2 (Tryd.f125.body.getD .skip)))))))))]) _) w5
 unfold Tryd.f125 seq2
 simp only [Option.getD_some]
 refine goesI_seq (dt_idle _ _) ?_
 refine goesI_region (dt_idle _ _) ?_
 simp only [List.size_toArray,List.length_cons,List.length_nil,Nat.reduceAdd,Nat.zero_add,List.range,List.range.loop]
 iterate 5
  (refine goesI_oper rfl rfl (by decide) (fun d K hK=>?_)
   go_simp
   refine hK _ _ ⟨dt_reads (fun e he=>?_),GoesI.at ?_ d⟩
   ·have hm:=mem_listed he
    simp [go_sem, *] at hm
    try exact ⟨_,_,hm⟩
   clear hK K)
 refine GoesI.stop fun d=>hstop _ _ (give_at (h:=0) (z':=.tuple #[]) 8 (S.wb+1) rfl rfl (by decide) (fun w=>by simp [execOp,scase,Act.eval]) (fun w=>by simp [go_sem,execOp,Act.eval]) ?_ (Nat.succ_le_of_lt hwbl) (fun B hB T hT=>?_))
 ·obtain ⟨v',k1,k2⟩:=HF.out
  exact ⟨v',k1.re rfl rfl rfl rfl rfl rfl,k2⟩
 ·clear HF hstop c2g
  refine .inl ⟨7,w5,rfl,?_⟩
  rw [served_fr,Frame.finish_at]
  k_c stepG_region_end
  k_c stepG_seq
  k_reg
  iterate 3
   (k_in
    refine goes_oper_k rfl rfl (by decide) (fun K hK=>?_)
    go_simp
    refine hK _ _ ⟨⟨rfl,fun e he=>by (have hm:=mem_listed he;simp [go_sem, *] at hm)⟩,?_⟩
    clear hK K)
  k_in
  have q2:=h₁ ⟨S.wb,8,none⟩ ⟨rfl,hz⟩
  rw [hcont] at q2
  refine goes_oper_k rfl rfl (by decide) (fun K hK=>?_)
  go_simp
  refine hK _ _ ⟨⟨rfl,fun e he=>by (have hm:=mem_listed he;simp [go_sem, *] at hm;subst hm;exact evC_read _ ⟨_,rfl,rfl,hz⟩ (by simp;omega))⟩,?_⟩
  clear hK K
  refine Goes.stop fun w₂ h₂=>⟨_,atIn_of (s:=Seat.one S.bk (.agg #[]) false Hm) rfl rfl (by decide) (fun w=>?_) (fun w=>?_) (hH _ (back50 _ rfl hoc))⟩
  ·simp [go_sem,execOp,rcase,Act.eval,Seat.one]
  ·simp [go_sem,execOp,Act.eval]
theorem ev_nil (w:World):(binOp .neq 20 .nilIface .nilIface).events Tryd.prog w #[]=#[]:=by
 show Sem.events Tryd.prog (do pure (Value.bool (!(←Op.equalIn (9999+1) 20 .nilIface .nilIface)))) w #[]=#[]
 unfold Op.equalIn
 simp [go_sem]
def ended (S:TS) (i:Nat) (t:Thr):TS:={ S with thr:=S.thr.set i { t with st:=3 } }
theorem end_ev {z:Nat→Option Nat} {S:TS} {v:World} (h:Rep z S v) {i:Nat} {t:Thr} (ht:S.thr[i]? = some t):Ev z S v (ended S i t) (v.setCell ⟨t.tb,3,none⟩ (I 3)):=by
 refine thr_ev h ht { t with st:=3 } rfl (fun b hb=>Below.heap_setCell _ _ _ _ hb) ?_ (by simp [World.setCell]) rfl rfl
 have:=heap_setCell_same (o:=3) (h.thr i t ht) (I 3)
 simpa using this
def GiveE (z:Nat→Option Nat) (cont:Addr→Value) (h bk:Nat) (F:World→Prop):Goroutine→World→Prop:=Lift.AtGive Tryd.prog (KC (ScZ z) cont) (StillC (ScZ z)) h bk (.agg #[]) none F
theorem ends_goes {z:Nat→Option Nat} {Ch:Nat→Prop} {Stop:Goroutine→World→Prop} {h:Nat} {cont:Addr→Value} {S:TS} {K:List (Nat×Int)} {v w:World} {i:Nat} {t:Thr} (bb:Nat) (T:Array Value) (todo:List Item) (hh:0<h)
 (hvw:Rel z v w) (hn:NoRow Ch v) (hm:Mem z S K v) (ht:S.thr[i]? = some t) (hbb:v.cell? ⟨bb,0,none⟩=some (Pt t.tb 0)) (hbo:¬ Own S K bb)
 (hstop:∀ g w',GiveE z cont h S.bk (Then z Ch S K v (ended S i t) K) g w'→Stop g w') :
 GoesI Tryd.prog (h==0) (DT (ScZ z) Ch) Stop (G { (baseD 124).at ⟨T,[dclo 154 #[Pt bb 0]]⟩ todo with mode:=.returning } [botP Tryd.prog]) w:=by
 have hi:i<S.thr.length:=(List.getElem?_eq_some_iff.1 ht).1
 have hne:t.tb≠bb:=fun e=>hbo (.inl ⟨i+5,by simp [blk,ht,e]⟩)
 have e0:w.cell? ⟨bb,0,none⟩=some (Pt t.tb 0):=by rw [hvw.cell?];exact hbb
 have c3:v.cell? ⟨t.tb,3,none⟩=some (I t.st):=(hm.rep.cell ht).2.2.2.1
 have f3:v.frozen? ⟨t.tb,3,none⟩=false:=fzT_off hm.rep ht 3 (by omega)
 have HM:Hid (Mem z S K v):=⟨hm⟩
 have HE:Hid (Evo z S K v (ended S i t) K (v.setCell ⟨t.tb,3,none⟩ (I 3))):=⟨Evo.of_ev hm (end_ev hm.rep ht) rfl⟩
 clear hm
 refine goesI_unwind_clo (dt_idle _ _) rfl Tryd.func154 (by kernel_rfl) rfl ?_
 simp only [Tryd.ntmps154,List.size_toArray,List.length_cons,List.length_nil,Nat.reduceAdd,Nat.reduceSub,Array.replicate_succ,Array.replicate_zero,List.push_toArray,List.append_toArray,List.nil_append,List.cons_append]
 refine goesI_seq (dt_idle _ _) ?_
 refine goesI_seq (dt_idle _ _) ?_
 refine goesI_region (dt_idle _ _) ?_
 simp only [List.size_toArray,List.length_cons,List.length_nil,Nat.reduceAdd,Nat.zero_add,List.range,List.range.loop]
 refine goesI_recover_none (dt_idle _ _) rfl rfl rfl rfl (fun w=>by go_simp) (fun w=>by simp [go_sem,execOp,resolve,invoke,builtin]) ?_
 (refine goesI_oper rfl rfl (by decide) (fun d K hK=>?_)
  go_simp
  refine hK _ _ ⟨dt_reads (fun e he=>?_),GoesI.at ?_ d⟩
  ·have hm:=mem_listed he
   simp [go_sem,ev_nil, *] at hm
  clear hK K)
 refine goesI_regionEnd (dt_idle _ _) ?_
 refine goesI_cond (dt_idle _ _) (t:=false) rfl ?_
 simp only [if_true,if_false,Bool.false_eq_true]
 refine goesI_skip (dt_idle _ _) ?_
 refine goesI_seq (dt_idle _ _) ?_
 refine goesI_region (dt_idle _ _) ?_
 simp only [List.size_toArray,List.length_cons,List.length_nil,Nat.reduceAdd,Nat.zero_add,List.range,List.range.loop]
 iterate 3
  (refine goesI_oper rfl rfl (by decide) (fun d K hK=>?_)
   go_simp
   refine hK _ _ ⟨dt_reads (fun e he=>?_),GoesI.at ?_ d⟩
   ·have hm:=mem_listed he
    simp [go_sem, *] at hm
    try exact ⟨_,_,hm⟩
   clear hK K)
 refine goesI_doZ (L:=LT) rfl rfl (by decide) (fineOp_ask callT extT (by kernel_rfl)) hvw hn (v':=v.setCell ⟨t.tb,3,none⟩ (I 3)) (by go_simp) rfl (fun w2 hr2 hn2=>?_)
 clear e0
 have ht2:(ended S i t).thr[i]? = some { t with st:=3 }:=by simp [ended,hi]
 have e0:w2.cell? ⟨bb,0,none⟩=some (Pt t.tb 0):=by rw [hr2.cell?,World.cell?_setCell_far _ _ _ _ hne];exact hbb
 have e1:w2.cell? ⟨t.tb,0,none⟩=some (Pt S.wb 0):=by rw [hr2.cell?];exact (HE.out.mem.rep.cell ht2).1
 have e8:w2.cell? ⟨S.wb,8,none⟩=some (.chan (some S.bk)):=by rw [hr2.cell?];exact HE.out.mem.rep.wcell.2.2.2.2.2.2.2.2
 clear ht2
 refine goesI_regionEnd (dt_idle _ _) ?_
 refine goesI_region (dt_idle _ _) ?_
 simp only [List.size_toArray,List.length_cons,List.length_nil,Nat.reduceAdd,Nat.zero_add,List.range,List.range.loop]
 iterate 8
  (refine goesI_oper rfl rfl (by decide) (fun d K hK=>?_)
   go_simp
   refine hK _ _ ⟨dt_reads (fun e he=>?_),GoesI.at ?_ d⟩
   ·have hm:=mem_listed he
    simp [go_sem, *] at hm
    try exact ⟨_,_,hm⟩
   clear hK K)
 refine GoesI.stop fun d=>hstop _ _ (give_at (z':=.tuple #[]) 5 0 rfl rfl (by decide) (fun w=>by simp [execOp,scase,Act.eval]) (fun w=>by simp [go_sem,execOp,Act.eval]) ?_ (Nat.zero_le _) (fun B hB T hT=>⟨hh,?_⟩))
 ·exact ⟨_,hr2.re rfl rfl rfl rfl rfl rfl,hn2,HE.out⟩
 ·rw [hT,served_fr,Frame.finish_at]
  refine QuitsD.ctl rfl (fun w=>stepG_region_end) ?_
  refine QuitsD.ctl rfl (fun w=>stepG_end) ?_
  refine QuitsD.leaveD rfl ?_ Tryd.func154 rfl rfl ?_
  ·show (Act.put _ _ _).defers=[]
   unfold Act.put
   split<;>rfl
  ·exact quits_last _ _ Tryd.func124 rfl
noncomputable def run0:Code:=seq1 (Tryd.f124.body.getD .skip)
theorem fineRun0:fineCode Tryd.prog true LT run0:=fineCode_ask callT extT (by kernel_rfl)
noncomputable def ops492:Array Oper:=opsOf (seq2 (seq2 (Tryd.f124.body.getD .skip)))
noncomputable def lifeAct (tb bb:Nat) (F:Value):Act:=⟨#[Pt tb 0,F,Pt bb 0,undef,.func (.func 154) #[] #[Pt bb 0],F,Pt tb 0,undef],[dclo 154 #[Pt bb 0]]⟩
noncomputable def lifeFr (tb bb:Nat) (F:Value):Frame:=(baseD 124).at (lifeAct tb bb F) [.inRegion ops492 [2]]
theorem run_goes {z : Nat → Option Nat} {Ch : Nat → Prop} {Stop : Goroutine → World → Prop} {main : Bool} {v w : World} (tb : Nat) (f : FuncId) (fn : Func) (cap : Array Value) (hf : Tryd.prog.funcs[f]? = some fn) (hname : (fn.name == "runtime.NumGoroutine") = false) (cf : Code) (hcf : fn.body = some cf)
 (hvw:Rel z v w) (hn:NoRow Ch v)
 (hk:∀ v' w',Rel z v' w'→NoRow Ch v'→Grows v v'→v'.heap[v.heap.size]? = some (.cells #[Pt tb 0] 48 (0,0))→v'.heap.size=v.heap.size+1 →
   GoesI Tryd.prog main (DT (ScZ z) Ch) Stop (G ((base f).at { tmps:=(#[Pt tb 0]++cap)++Array.replicate (fn.ntmps - (#[Pt tb 0]++cap).size) undef,defers:=[] } [.code cf]) [lifeFr tb v.heap.size (.func (.func f) #[] cap),botP Tryd.prog]) w')
 (code:Code) (hc:Tryd.f124.body=some code) :
 GoesI Tryd.prog main (DT (ScZ z) Ch) Stop (G ((baseD 124).at { tmps:=#[Pt tb 0,.func (.func f) #[] cap]++Array.replicate 6 undef,defers:=[] } [.code code]) [botP Tryd.prog]) w:=by
 have h1 : ¬ fn.name = "runtime.NumGoroutine" := by simpa using hname
 have hw0:code=.seq run0 (seq2 (Tryd.f124.body.getD .skip)):=by
  rw [hc];obtain rfl:=Option.some.inj hc;rfl
 subst hw0
 clear hc
 refine goesI_seq (dt_idle _ _) ?_
 refine goesI_plain (z:=z) (wr:=true) (L:=LT) (I:=NoRow Ch) hE fineT noRow_keeps (fun v v' w w' es hi hr ho he=>dt_of_z v v' w w' es hi hr ho he) hvw fineRun0 rfl (by simp [baseD]) hn
  (Q:=fun a w'=>a={ tmps:=#[Pt tb 0,.func (.func f) #[] cap,Pt v.heap.size 0]++Array.replicate 5 undef,defers:=[] } ∧
    w'.heap=v.heap.push (.cells #[Pt tb 0] 48)∧w'.os=v.os∧w'.output=v.output) (fun τ=>?_) ?_
 ·show Code.wp Tryd.prog (seq1 (Tryd.f124.body.getD .skip)) _ _ _
  unfold Tryd.f124 seq1
  simp only [Option.getD_some,Array.replicate_succ,Array.replicate_zero,List.push_toArray,List.append_toArray,List.nil_append,List.cons_append]
  go_wp2_with fail
  exact ⟨rfl,rfl,rfl,rfl⟩
 rintro a' v' w' ⟨rfl,hv1,hv2,hv3⟩ hr' hn' -
 have hsz:v'.heap.size=v.heap.size+1:=by rw [hv1];simp
 have hg:Grows v v':=⟨by omega,fun b hb=>by rw [hv1,Array.getElem?_push,if_neg (by omega)],hv2,hv3⟩
 have hbox:v'.heap[v.heap.size]? = some (.cells #[Pt tb 0] 48):=by rw [hv1];exact Array.getElem?_push_size
 have e0:w'.cell? ⟨v.heap.size,0,none⟩=some (Pt tb 0):=by rw [hr'.cell?];simp [World.cell?,hbox]
 have HK:Hid (GoesI Tryd.prog main (DT (ScZ z) Ch) Stop (G ((base f).at { tmps:=(#[Pt tb 0]++cap)++Array.replicate (fn.ntmps - (#[Pt tb 0]++cap).size) undef,defers:=[] } [.code cf]) [lifeFr tb v.heap.size (.func (.func f) #[] cap),botP Tryd.prog]) w'):=⟨hk v' w' hr' hn' hg hbox hsz⟩
 clear hk hv1 hv2 hv3 hsz hg hbox hn' hr' hvw hn
 generalize v.heap.size=N at e0 HK ⊢
 simp only [Array.replicate_succ,Array.replicate_zero,List.push_toArray,List.append_toArray,List.nil_append,List.cons_append]
 show GoesI Tryd.prog main (DT (ScZ z) Ch) Stop (G ((baseD 124).at _ [.code (seq2 (Tryd.f124.body.getD .skip))]) _) w'
 unfold Tryd.f124 seq2
 simp only [Option.getD_some]
 refine goesI_seq (dt_idle _ _) ?_
 refine goesI_region (dt_idle _ _) ?_
 simp only [List.size_toArray,List.length_cons,List.length_nil,Nat.reduceAdd,Nat.zero_add,List.range,List.range.loop]
 (refine goesI_oper rfl rfl (by decide) (fun d K hK=>?_)
  go_simp
  refine hK _ _ ⟨dt_reads (fun e he=>?_),GoesI.at ?_ d⟩
  ·have hm:=mem_listed he
   simp [go_sem, *] at hm
  clear hK K)
 refine goesI_deferV (d:=dclo 154 #[Pt N 0]) (dt_idle _ _) rfl rfl (by decide) (fun w=>by simp [execOp,resolve,Deferred.ofValue,Act.eval,dclo]) (fun w=>by simp [go_sem,execOp,resolve,Deferred.ofValue,Act.eval]) ?_
 refine goesI_regionEnd (dt_idle _ _) ?_
 refine goesI_region (dt_idle _ _) ?_
 simp only [List.size_toArray,List.length_cons,List.length_nil,Nat.reduceAdd,Nat.zero_add,List.range,List.range.loop]
 iterate 2
  (refine goesI_oper rfl rfl (by decide) (fun d K hK=>?_)
   go_simp
   refine hK _ _ ⟨dt_reads (fun e he=>?_),GoesI.at ?_ d⟩
   ·have hm:=mem_listed he
    simp [go_sem, *] at hm
    try exact ⟨_,_,hm⟩
   clear hK K)
 refine goesI_enter (f:=f) (args:=#[Pt tb 0]++cap) rfl rfl (by decide) (fun w=>?_) (fun w=>?_) (dt_idle _ _) hf hcf ?_
 ·simp [execOp,resolve,Deferred.ofValue,Act.eval,invoke,callFunc,hf,h1,hcf]
 ·refine listed_none ?_
  simp [go_sem,execOp,resolve,Deferred.ofValue,Act.eval,invoke,callFunc,hf,h1,hcf]
 exact HK.out
theorem dst492:ops492[2]? = some (ops492.getD 2 default):=by kernel_rfl
theorem life_tail {z:Nat→Option Nat} {Ch:Nat→Prop} {Stop:Goroutine→World→Prop} {h:Nat} {cont:Addr→Value} {S:TS} {K:List (Nat×Int)} {v w:World} {i:Nat} {t:Thr} (bb:Nat) (F:Value) (hh:0<h)
 (hvw:Rel z v w) (hn:NoRow Ch v) (hm:Mem z S K v) (ht:S.thr[i]? = some t) (hbb:v.cell? ⟨bb,0,none⟩=some (Pt t.tb 0)) (hbo:¬ Own S K bb)
 (hstop:∀ g w',GiveE z cont h S.bk (Then z Ch S K v (ended S i t) K) g w'→Stop g w') :
 GoesI Tryd.prog (h==0) (DT (ScZ z) Ch) Stop (G ((baseD 124).at ((lifeAct t.tb bb F).put (ops492.getD 2 default).dst (.tuple #[])) [.inRegion ops492 []]) [botP Tryd.prog]) w:=by
 refine goesI_regionEnd (dt_idle _ _) ?_
 refine goesI_end (dt_idle _ _) ?_
 have e:(ops492.getD 2 default).dst=some 7:=by kernel_rfl
 rw [e]
 exact ends_goes bb _ [] hh hvw hn hm ht hbb hbo hstop
noncomputable def ops33:Array Oper:=opsOf (Tryd.f93.body.getD .skip)
def val33 (csl F rsl asl:Value) (tb rb ix:Nat):Nat→Value
 |0=>Pt tb 0
 |1=>csl
 |2=>F
 |3=>rsl
 |4=>I ix
 |5=>Pt rb ix
 |6=>asl
 |_=>undef
theorem lead33:leadsOn .any ops33 7=true:=by kernel_rfl
theorem text33:inText .any ops33 7=true:=by kernel_rfl
theorem fineOps33 (i:Nat) (hi:i<7) (o:Oper) (ho:ops33[i]? = some o):fineOp Tryd.prog true LT o:=by
 have h:((ops33.extract 0 7).all fun o=>plainOp Tryd.prog true o.op||askCall plainFs plainXs o.op)=true:=by kernel_rfl
 refine fineOp_ask callT extT ((Array.all_eq_true_iff_forall_mem.1 h) o ?_)
 have:(ops33.extract 0 7)[i]? = some o:=by
  have hs:=(Array.getElem?_eq_some_iff.1 ho).1
  rw [Array.getElem?_extract,if_pos (by omega)]
  simpa using ho
 exact Array.mem_of_getElem? this
theorem rest33 (t:Nat):Region.linearise.go .any ops33 (ops33.size - 7) t (listedN ops33.size 7) []=[7]:=by
 have e1:((List.range ops33.size).filter fun i=>!(listedN ops33.size 7).getD i true&&((ops33[i]?).map (·.after.all fun e=>!Region.binds .any e||(listedN ops33.size 7).getD e.on false)).getD false)=[7]:=by kernel_rfl
 have e0:ops33.size - 7=1:=by kernel_rfl
 rw [e0]
 unfold Region.linearise.go
 simp only [e1,List.length_cons,List.length_nil,Nat.zero_add,Nat.mod_one,List.getElem?_cons_zero]
 rfl
theorem dst33 (i:Nat) (hi:i<7) (o:Oper) (ho:ops33[i]? = some o):o.dst=some (6+i):=by
 have h:((List.range 7).all fun i=>(ops33[i]?).map (·.dst)==some (some (6+i)))=true:=by kernel_rfl
 have:=(List.all_eq_true.1 h) i (by simpa using hi)
 rw [ho] at this
 simpa using this
theorem guard33 (i:Nat) (hi:i<8) (o:Oper) (ho:ops33[i]? = some o):o.guard=none:=by
 have h:((List.range 8).all fun i=>((ops33[i]?).map (·.guard.isNone))==some true)=true:=by kernel_rfl
 have:=(List.all_eq_true.1 h) i (by simpa using hi)
 rw [ho] at this
 simpa using this
theorem op33 {i:Nat} {o:Oper} {p:Op} (h:(ops33[i]?).map (·.op)=some p) (ho:ops33[i]? = some o):o.op=p:=by
 rw [ho] at h
 exact Option.some.inj h
theorem after33 {i j:Nat} {o:Oper} (h:((ops33[i]?).map (fun o=>o.after.toList.any fun e=>e.on==j&&Region.binds .any e))=some true) (ho:ops33[i]? = some o) {l:Array Bool} (hd:∀ e∈o.after.toList,Region.binds .any e=true→l.getD e.on false=true):l.getD j false=true:=by
 rw [ho] at h
 simp only [Option.map_some,Option.some.injEq,List.any_eq_true,Bool.and_eq_true,beq_iff_eq] at h
 obtain ⟨e,he,rfl,hb⟩:=h
 exact hd e he hb
theorem body33_goes {z:Nat→Option Nat} {Ch:Nat→Prop} {Stop:Goroutine→World→Prop} {main:Bool} {v w:World} {tb p1 p2 p3 p4:Nat} (csl F asl:Value) (rb m cap ix:Nat) (hix:ix<m)
 (h1:v.cell? ⟨p1,0,none⟩=some csl) (h2:v.cell? ⟨p2,0,none⟩=some F) (h3:v.cell? ⟨p3,0,none⟩=some (.slice (some ⟨rb,0,none⟩) m cap)) (h4:v.cell? ⟨p4,0,none⟩=some (I ix)) (h5:v.cell? ⟨rb,ix,none⟩=some asl) (cs:List Frame) {bc:Frame} {ac:Act} {ops:Array Oper} {q:Nat} {rest:List Nat} {oc:Oper} {k:List Item} (hoc:ops[q]? = some oc)
 (hvw:Rel z v w) (hn:NoRow Ch v)
 (hk:∀ w' (bd:Frame) (ad:Act) (od:Array Oper) (qd:Nat) (rd:List Nat) (oe:Oper) (kd:List Item),Rel z v w'→od[qd]? = some oe →
   (∀ (z:Nat→Option Nat) (Ch:Nat→Prop) (Stop:Goroutine→World→Prop) (w:World),GoesI Tryd.prog main (DT (ScZ z) Ch) Stop (G (bc.at (ac.put oc.dst (.tuple #[])) (.inRegion ops rest :: k)) cs) w→GoesI Tryd.prog main (DT (ScZ z) Ch) Stop (G (bd.at (ad.put oe.dst (.tuple #[])) (.inRegion od rd :: kd)) (bc.at ac (.inRegion ops (q :: rest) :: k) :: cs)) w)→∀ code,Tryd.f94.body=some code →
   GoesI Tryd.prog main (DT (ScZ z) Ch) Stop (G ((base 94).at { tmps:=#[Pt tb 0,csl,F,asl]++Array.replicate 44 undef,defers:=[] } [.code code]) (bd.at ad (.inRegion od (qd :: rd) :: kd) :: bc.at ac (.inRegion ops (q :: rest) :: k) :: cs)) w') (code:Code) (hc:Tryd.f93.body=some code) :
 GoesI Tryd.prog main (DT (ScZ z) Ch) Stop (G ((base 93).at { tmps:=#[Pt tb 0,Pt p1 0,Pt p2 0,Pt p3 0,Pt p4 0]++Array.replicate 9 undef,defers:=[] } [.code code]) (bc.at ac (.inRegion ops (q :: rest) :: k) :: cs)) w:=by
 have hc0:code=.region 0 ops33 true:=by
  have:Tryd.f93.body=some (.region 0 ops33 true):=rfl
  rw [this] at hc
  exact (Option.some.inj hc).symm
 subst hc0
 clear hc
 simp only [Array.replicate_succ,Array.replicate_zero,List.push_toArray,List.append_toArray,List.nil_append,List.cons_append]
 refine goesI_region_quiet (n:=7) (val:=val33 csl F (.slice (some ⟨rb,0,none⟩) m cap) asl tb rb ix) (J:=fun w=>Rel z v w) mix21 (fun w d hJ=>hJ.re rfl rfl rfl rfl rfl rfl) (fun w=>dt_draw _ _ w) lead33 text33 (on:=ops33[7]'(by decide)) rfl ?_ ?_ ?_
  { tmps:=#[Pt tb 0,Pt p1 0,Pt p2 0,Pt p3 0,Pt p4 0,undef,Pt tb 0,csl,F,.slice (some ⟨rb,0,none⟩) m cap,I ix,Pt rb ix,asl,undef],defers:=[] } ?_ ?_ hvw
 ·intro i1 j1 oi oj t1 h1 h2 h3 h4 h5 h6
  rw [dst33 i1 h1 oi h3] at h5
  rw [dst33 j1 h2 oj h4] at h6
  have:=Option.some.inj (h5.trans h6.symm)
  omega
 ·intro i1 o1 t1 h1 h2 h3
  rw [dst33 i1 h1 o1 h2] at h3
  have:=Option.some.inj h3
  subst this
  show (6+i1:Nat)<14
  omega
 ·intro i' o rest' listed a w1 hi ho hdep hagr hJ hgo
  have ev:∀ j,j<7→listed.getD j false=true→a.eval (.tmp (6+j))=val33 csl F (.slice (some ⟨rb,0,none⟩) m cap) asl tb rb ix j:=fun j hj hl =>
   hagr.eval hj (o:=ops33[j]'(by have:ops33.size=8:=rfl;omega)) (Array.getElem?_eq_getElem _) hl (dst33 j hj _ (Array.getElem?_eq_getElem _))
  have ev0:∀ t':Nat,t'<6→a.eval (.tmp t')=_:=fun t' ht'=>hagr.eval0 (t:=t') (fun j o hj ho e=>by
   rw [dst33 j hj o ho] at e
   have:(6+j:Nat)=t':=Option.some.inj e
   omega)
  have e0:a.eval (.tmp 0)=Pt tb 0:=ev0 0 (by omega)
  have e1:a.eval (.tmp 1)=Pt p1 0:=ev0 1 (by omega)
  have e2:a.eval (.tmp 2)=Pt p2 0:=ev0 2 (by omega)
  have e3:a.eval (.tmp 3)=Pt p3 0:=ev0 3 (by omega)
  have e4:a.eval (.tmp 4)=Pt p4 0:=ev0 4 (by omega)
  have hw:Region.wanted o (yielded ops33 a.tmps)=true:=by simp [Region.wanted,guard33 i' (by omega) o ho]
  have hrun:(execOp a.eval o).run Tryd.prog v=.ok (.value (val33 csl F (.slice (some ⟨rb,0,none⟩) m cap) asl tb rb ix i')) v:=by
   have hjl:(ix:Int)<(m:Int):=by omega
   match i',hi,ho with
   |0,_,ho=>have hop:=op33 (p:=.move (.tmp 0)) rfl ho;unfold execOp;rw [hop];simp only [e0];simp [go_sem,val33]
   |1,_,ho=>have hop:=op33 (p:=.load 33 (.tmp 1)) rfl ho;unfold execOp;rw [hop];simp only [e1];simp [go_sem,h1,val33]
   |2,_,ho=>have hop:=op33 (p:=.load 101 (.tmp 2)) rfl ho;unfold execOp;rw [hop];simp only [e2];simp [go_sem,h2,val33]
   |3,_,ho=>have hop:=op33 (p:=.load 27 (.tmp 3)) rfl ho;unfold execOp;rw [hop];simp only [e3];simp [go_sem,h3,val33]
   |4,_,ho=>have hop:=op33 (p:=.load 3 (.tmp 4)) rfl ho;unfold execOp;rw [hop];simp only [e4];simp [go_sem,h4,val33]
   |5,_,ho=>have hop:=op33 (p:=.indexAddr 27 (.tmp 9) (.tmp 10)) rfl ho;have l:a.eval (.tmp 9)=.slice (some ⟨rb,0,none⟩) m cap:=ev 3 (by omega) (after33 (by kernel_rfl) ho hdep);have l':a.eval (.tmp 10)=I ix:=ev 4 (by omega) (after33 (by kernel_rfl) ho hdep);unfold execOp;rw [hop];simp only [l,l'];simp [go_sem,val33,hjl]
   |6,_,ho=>have hop:=op33 (p:=.load 31 (.tmp 11)) rfl ho;have l:a.eval (.tmp 11)=Pt rb ix:=ev 5 (by omega) (after33 (by kernel_rfl) ho hdep);unfold execOp;rw [hop];simp only [l];simp [go_sem,h5,val33]
  exact goesI_opZ ho hw (by simp [base]) (fineOps33 i' hi o ho) hJ hn hrun rfl (fun w2 hr2 _=>hgo w2 hr2)
 ·refine ⟨rfl,rfl,fun j o t' hj ho _ hd=>?_,fun t' hne=>?_⟩
  ·rw [dst33 j hj o ho] at hd
   have:(6+j:Nat)=t':=Option.some.inj hd
   subst this
   match j,hj with
   |0,_=>rfl
   |1,_=>rfl
   |2,_=>rfl
   |3,_=>rfl
   |4,_=>rfl
   |5,_=>rfl
   |6,_=>rfl
  ·have hcase:∀ m:Nat,m<7→t'≠6+m:=fun m hm e=>by
    have hs:m<ops33.size:=by have:ops33.size=8:=rfl;omega
    refine hne m (ops33[m]'hs) hm (Array.getElem?_eq_getElem hs) ?_ ((dst33 m hm _ (Array.getElem?_eq_getElem hs)).trans (by rw [e]))
    rw [Array.getD_eq_getD_getElem?,listedN_get hs]
    simp [hm]
   match t',hcase with
   |0,_=>rfl
   |1,_=>rfl
   |2,_=>rfl
   |3,_=>rfl
   |4,_=>rfl
   |5,_=>rfl
   |6,h=>exact absurd rfl (h 0 (by omega))
   |7,h=>exact absurd rfl (h 1 (by omega))
   |8,h=>exact absurd rfl (h 2 (by omega))
   |9,h=>exact absurd rfl (h 3 (by omega))
   |10,h=>exact absurd rfl (h 4 (by omega))
   |11,h=>exact absurd rfl (h 5 (by omega))
   |12,h=>exact absurd rfl (h 6 (by omega))
   |13,_=>rfl
   |m+14,_=>rfl
 ·intro tt w1 hJ
  rw [rest33]
  refine goesI_into (f:=94) (fn:=Tryd.f94) (args:=#[Pt tb 0,csl,F,asl]) (dt_idle _ _) (o:=ops33[7]'(by decide)) rfl rfl (by decide) rfl (by simp [Act.eval]) Tryd.func94 (by decide) rfl ?_
  refine hk w1 _ _ _ _ _ _ _ hJ rfl (fun z Ch Stop w hg=>?_) _ rfl
  refine goesI_regionEnd (dt_idle _ _) ?_
  refine goesI_end (dt_idle _ _) ?_
  refine goesI_leave (b:=base 93) (fn:=Tryd.f93) rfl ?_ Tryd.func93 (fun w=>results_none rfl _ _ _) (fun w=>by simp [results,go_sem]) hoc (dt_idle _ _) hg
  show (Act.put _ _ _).defers=[]
  unfold Act.put
  split<;>rfl
end Go.Proofs.YtfjjoohflcchnaaDoor
