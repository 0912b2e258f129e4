/- Of the proof of OnceAlone. Part 25 of 30. (Joined, by program, and written short, of: OnG2, OnS, OnF.) -/
import Derived.Test.YtfjjoohflcchnaaDoorOnceAlone17
import Derived.Test.YtfjjoohflcchnaaDoorOnceAlone20
import Derived.Test.YtfjjoohflcchnaaDoorOnceAlone22
import Derived.Test.YtfjjoohflcchnaaDoorOnceAlone23
import Derived.Test.YtfjjoohflcchnaaDoorOnceAlone24
set_option linter.unusedSimpArgs false
set_option linter.unusedVariables false
set_option maxHeartbeats 4000000
set_option maxRecDepth 100000
namespace Go.Proofs.YtfjjoohflcchnaaDoor.Gen
open Go Go.Lift Go.Conc Go.RowKit
theorem get_val {z:Nat→Option Nat} {Ch:Nat→Prop} {Stop:Goroutine→World→Prop} {main:Bool} {v w:World} {kp tb rb:Nat} {F:Value} {c y:Int} {a:Act} (hA:Fl 62 [(37,I c),(0,Pt kp 0),(1,Pt tb 0),(2,F),(6,Pt rb 0)] a) (cs:List Frame) {bc:Frame} {ac:Act} {ops:Array Oper} {q:Nat} {rest:List Nat} {oc:Oper} {k0:List Item} (hoc:ops[q]? = some oc) (hpb:v.heap[rb]? = some (.cells #[I 0,I 0] 38 (0,0))) (hvw:Rel z v w) (hn:NoRow Ch v)
 (hk:∀ w',Rel z (ansW v rb c y) w'→NoRow Ch (ansW v rb c y)→GoesI Tryd.prog main (DT (ScZ z) Ch) Stop (G (bc.at (ac.put oc.dst (.agg #[I c,I y])) (.inRegion ops rest :: k0)) cs) w') :
 GoesI Tryd.prog main (DT (ScZ z) Ch) Stop (G (gVal a (I y)) (bc.at ac (.inRegion ops (q :: rest) :: k0) :: cs)) w:=by
 obtain ⟨hsz,hd,hpp⟩:=hA
 obtain ⟨u,rfl,hg⟩:=litN hsz hd
 have u37:=(hg 37).symm.trans (hpp (37,I c) (by simp))
 have u0:=(hg 0).symm.trans (hpp (0,Pt kp 0) (by simp))
 have u1:=(hg 1).symm.trans (hpp (1,Pt tb 0) (by simp))
 have u2:=(hg 2).symm.trans (hpp (2,F) (by simp))
 have u6:=(hg 6).symm.trans (hpp (6,Pt rb 0) (by simp))
 clear hg hpp hsz hd
 unfold gVal gO8 gS gI gL gB Tryd.f64 seq1 seq2 blockC loopC condA opsOf
 simp only [Option.getD_some,lits,Nat.reduceAdd,u37,u0,u1,u2,u6]
 clear u37 u0 u1 u2 u6
 walk_nrm
 iterate 1
  (refine goesI_oper rfl rfl (by decide) (fun d K hK=>?_)
   go_simp
   refine hK _ _ ⟨dt_reads (fun e he=>?_),GoesI.at ?_ d⟩
   ·have hm:=mem_listed he
    simp [go_sem, *] at hm
    try exact ⟨_,_,hm⟩
    try (rcases hm with rfl|rfl<;>exact ⟨_,_,rfl⟩)
   clear hK K)
 have q0:v.cell? ⟨rb,0,none⟩=some (I 0):=by simp [World.cell?,hpb]
 have q1:v.cell? ⟨rb,1,none⟩=some (I 0):=by simp [World.cell?,hpb]
 have p0:v.frozen? ⟨rb,0,none⟩=false:=by simp [World.frozen?,hpb]
 have p1:v.frozen? ⟨rb,1,none⟩=false:=by simp [World.frozen?,hpb]
 have hrow:=ans_row hpb (c) (y)
 refine goesI_doZ (L:=LT) rfl rfl (by decide) (fineOp_ask callT extT (by kernel_rfl)) hvw hn (v':=ansW v rb (c) (y)) (by unfold ansW;go_simp) rfl (fun w9 r9 n9=>?_)
 refine goesI_regionEnd (dt_idle _ _) ?_
 refine GoesI.ctl rfl (fun _=>stepG_ret') (dt_idle _ _) ?_
 refine goesI_leaveZ (f:=64) (fn:=Tryd.f64) (x:=.agg #[I (c),I (y)]) r9 n9 Tryd.func64 rfl hoc ?_ (fun w' r'=>hk w' r' n9)
 generalize ansW v rb (c) (y)=V at hrow
 have k0:V.cell? ⟨rb,0,none⟩=some (I (c)):=by simp [World.cell?,hrow]
 have k1:V.cell? ⟨rb,1,none⟩=some (I (y)):=by simp [World.cell?,hrow]
 simp [results,go_sem,Tryd.f64, *]
theorem get_lost {z:Nat→Option Nat} {Ch:Nat→Prop} {Stop:Goroutine→World→Prop} {main:Bool} {w:World} {kp tb rb:Nat} {F:Value} {a:Act} (hA:Fl 62 [(0,Pt kp 0),(1,Pt tb 0),(2,F),(6,Pt rb 0)] a) (cs:List Frame)
 (hk:∀ a,Fl 62 [(0,Pt kp 0),(1,Pt tb 0),(2,F),(6,Pt rb 0)] a→GoesI Tryd.prog main (DT (ScZ z) Ch) Stop (G (gFr a) cs) w) :
 GoesI Tryd.prog main (DT (ScZ z) Ch) Stop (G (gTry a (.bool false)) cs) w:=by
 have hA1:Fl 62 [(56,.bool false),(0,Pt kp 0),(1,Pt tb 0),(2,F),(6,Pt rb 0)] (a.put (some 56) (.bool false)):=(fl_put hA (by decide) (by simp)).sub (by simp)
 unfold gTry
 generalize a.put (some 56) (.bool false)=a1 at hA1
 have e:seq2 gN=.cond (.tmp 56) (.seq (.region 11 gO11 false) .ret) .skip:=by kernel_rfl
 rw [e]
 refine goesI_regionEnd (dt_idle _ _) ?_
 refine goesI_cond (dt_idle _ _) (t:=false) (hA1.at 56 _ (by simp)) ?_
 simp only [if_true,if_false,Bool.false_eq_true]
 refine goesI_skip (dt_idle _ _) ?_
 refine goesI_inBlock (dt_idle _ _) ?_
 refine goesI_inBlock (dt_idle _ _) ?_
 refine goesI_inLoop (dt_idle _ _) ?_
 exact hk a1 (hA1.sub (by simp))
theorem get_won {z:Nat→Option Nat} {Ch:Nat→Prop} {Stop:Goroutine→World→Prop} {main:Bool} {w:World} {kp tb rb b3 b4 b5:Nat} {a:Act} (hA:Fl 62 [(0,Pt kp 0),(1,Pt tb 0),(2,.func (.func 65) #[] #[Pt b3 0,Pt b4 0,Pt b5 0]),(6,Pt rb 0)] a) (cs:List Frame)
 (hk:∀ a o,Fl 62 [(0,Pt kp 0),(1,Pt tb 0),(2,.func (.func 65) #[] #[Pt b3 0,Pt b4 0,Pt b5 0]),(6,Pt rb 0),(57,Pt kp 0),(58,Pt tb 0)] a→gO11[3]? = some o→o.dst=some 60→∀ code,Tryd.f65.body=some code →
   GoesI Tryd.prog main (DT (ScZ z) Ch) Stop (G ((base 65).at { tmps:=#[Pt b3 0,Pt b4 0,Pt b5 0]++Array.replicate 5 undef,defers:=[] } [.code code]) ((base 64).at a (.inRegion gO11 [3,4,5] :: [.code .ret,.inBlock 2,.inBlock 1,.inLoop gL,.inBlock 0]) :: cs)) w) :
 GoesI Tryd.prog main (DT (ScZ z) Ch) Stop (G (gTry a (.bool true)) cs) w:=by
 unfold gO11 gN gE gS gI gL gB Tryd.f64 seq1 seq2 blockC loopC condA condB opsOf at hk
 simp only [Option.getD_some] at hk
 obtain ⟨hsz,hd,hpp⟩:=hA
 obtain ⟨u,rfl,hg⟩:=litN hsz hd
 have u0:=(hg 0).symm.trans (hpp (0,Pt kp 0) (by simp))
 have u1:=(hg 1).symm.trans (hpp (1,Pt tb 0) (by simp))
 have u2:=(hg 2).symm.trans (hpp (2,.func (.func 65) #[] #[Pt b3 0,Pt b4 0,Pt b5 0]) (by simp))
 have u6:=(hg 6).symm.trans (hpp (6,Pt rb 0) (by simp))
 clear hg hpp hsz hd
 unfold gTry gO10 gN gE gS gI gL gB Tryd.f64 seq1 seq2 blockC loopC condA condB opsOf
 simp only [Option.getD_some,lits,Nat.reduceAdd,u0,u1,u2,u6]
 clear u0 u1 u2 u6
 walk_nrm
 refine goesI_regionEnd (dt_idle _ _) ?_
 refine goesI_cond (dt_idle _ _) (t:=true) (by simp [Act.eval]) ?_
 simp only [if_true,if_false,Bool.false_eq_true]
 refine goesI_seq (dt_idle _ _) ?_
 refine goesI_region (dt_idle _ _) ?_
 simp only [List.size_toArray,List.length_cons,List.length_nil,Nat.reduceAdd,Nat.zero_add,List.range,List.range.loop]
 iterate 3
  (refine goesI_oper rfl rfl (by decide) (fun d K hK=>?_)
   go_simp
   refine hK _ _ ⟨dt_reads (fun e he=>?_),GoesI.at ?_ d⟩
   ·have hm:=mem_listed he
    simp [go_sem, *] at hm
    try exact ⟨_,_,hm⟩
    try (rcases hm with rfl|rfl<;>exact ⟨_,_,rfl⟩)
   clear hK K)
 refine goesI_clo (f:=65) (fn:=Tryd.f65) (cap:=#[Pt b3 0,Pt b4 0,Pt b5 0]) (dt_idle _ _) rfl rfl (by decide) rfl (by simp [Act.eval]) Tryd.func65 (by decide) rfl ?_
 exact hk _ _ ⟨rfl,rfl,by
  intro p hp
  simp only [List.mem_cons,List.not_mem_nil,or_false] at hp
  rcases hp with rfl|rfl|rfl|rfl|rfl|rfl<;>rfl⟩ rfl rfl _ rfl
theorem get_came {z:Nat→Option Nat} {Ch:Nat→Prop} {Stop:Goroutine→World→Prop} {main:Bool} {w:World} {kp tb rb:Nat} {F:Value} {e x:Int} {a:Act} (hA:Fl 62 [(0,Pt kp 0),(1,Pt tb 0),(2,F),(6,Pt rb 0),(57,Pt kp 0),(58,Pt tb 0)] a) (cs:List Frame)
 (hk:∀ a o,Fl 62 [(0,Pt kp 0),(1,Pt tb 0),(2,F),(6,Pt rb 0)] a→gO11[4]? = some o→o.dst=some 61→∀ code,Tryd.f97.body=some code→GoesI Tryd.prog main (DT (ScZ z) Ch) Stop (G ((base 97).at { tmps:=#[Pt kp 0,Pt tb 0,.agg #[I e,I x]]++Array.replicate 26 undef,defers:=[] } [.code code]) ((base 64).at a (.inRegion gO11 [4,5] :: [.code .ret,.inBlock 2,.inBlock 1,.inLoop gL,.inBlock 0]) :: cs)) w) :
 GoesI Tryd.prog main (DT (ScZ z) Ch) Stop (G (gDone a (.agg #[I e,I x])) cs) w:=by
 unfold gO11 gN gE gS gI gL gB Tryd.f64 seq1 seq2 blockC loopC condA condB opsOf at hk
 simp only [Option.getD_some] at hk
 obtain ⟨hsz,hd,hpp⟩:=hA
 obtain ⟨u,rfl,hg⟩:=litN hsz hd
 have u0:=(hg 0).symm.trans (hpp (0,Pt kp 0) (by simp))
 have u1:=(hg 1).symm.trans (hpp (1,Pt tb 0) (by simp))
 have u2:=(hg 2).symm.trans (hpp (2,F) (by simp))
 have u6:=(hg 6).symm.trans (hpp (6,Pt rb 0) (by simp))
 have u57:=(hg 57).symm.trans (hpp (57,Pt kp 0) (by simp))
 have u58:=(hg 58).symm.trans (hpp (58,Pt tb 0) (by simp))
 clear hg hpp hsz hd
 unfold gDone gO11 gN gE gS gI gL gB Tryd.f64 seq1 seq2 blockC loopC condA condB opsOf
 simp only [Option.getD_some,lits,Nat.reduceAdd,u0,u1,u2,u6,u57,u58]
 clear u0 u1 u2 u6 u57 u58
 walk_nrm
 refine goesI_into (f:=97) (fn:=Tryd.f97) (args:=#[Pt kp 0,Pt tb 0,.agg #[I e,I x]]) (dt_idle _ _) rfl rfl (by decide) rfl (by simp [Act.eval]) Tryd.func97 (by decide) rfl ?_
 exact hk _ _ ⟨rfl,rfl,by
  intro p hp
  simp only [List.mem_cons,List.not_mem_nil,or_false] at hp
  rcases hp with rfl|rfl|rfl|rfl<;>rfl⟩ rfl rfl _ rfl
theorem get_kept {z:Nat→Option Nat} {Ch:Nat→Prop} {Stop:Goroutine→World→Prop} {main:Bool} {v w:World} {kp tb rb:Nat} {F:Value} {e x:Int} {a:Act} (hA:Fl 62 [(0,Pt kp 0),(1,Pt tb 0),(2,F),(6,Pt rb 0)] a) (cs:List Frame) {bc:Frame} {ac:Act} {ops:Array Oper} {q:Nat} {rest:List Nat} {oc:Oper} {k0:List Item} (hoc:ops[q]? = some oc) (hpb:v.heap[rb]? = some (.cells #[I 0,I 0] 38 (0,0))) (hvw:Rel z v w) (hn:NoRow Ch v)
 (hk:∀ w',Rel z (ansW v rb e x) w'→NoRow Ch (ansW v rb e x)→GoesI Tryd.prog main (DT (ScZ z) Ch) Stop (G (bc.at (ac.put oc.dst (.agg #[I e,I x])) (.inRegion ops rest :: k0)) cs) w') :
 GoesI Tryd.prog main (DT (ScZ z) Ch) Stop (G (gKept a (.agg #[I e,I x])) (bc.at ac (.inRegion ops (q :: rest) :: k0) :: cs)) w:=by
 obtain ⟨hsz,hd,hpp⟩:=hA
 obtain ⟨u,rfl,hg⟩:=litN hsz hd
 have u0:=(hg 0).symm.trans (hpp (0,Pt kp 0) (by simp))
 have u1:=(hg 1).symm.trans (hpp (1,Pt tb 0) (by simp))
 have u2:=(hg 2).symm.trans (hpp (2,F) (by simp))
 have u6:=(hg 6).symm.trans (hpp (6,Pt rb 0) (by simp))
 clear hg hpp hsz hd
 unfold gKept gO11 gN gE gS gI gL gB Tryd.f64 seq1 seq2 blockC loopC condA condB opsOf
 simp only [Option.getD_some,lits,Nat.reduceAdd,u0,u1,u2,u6]
 clear u0 u1 u2 u6
 walk_nrm
 have q0:v.cell? ⟨rb,0,none⟩=some (I 0):=by simp [World.cell?,hpb]
 have q1:v.cell? ⟨rb,1,none⟩=some (I 0):=by simp [World.cell?,hpb]
 have p0:v.frozen? ⟨rb,0,none⟩=false:=by simp [World.frozen?,hpb]
 have p1:v.frozen? ⟨rb,1,none⟩=false:=by simp [World.frozen?,hpb]
 have hrow:=ans_row hpb (e) (x)
 refine goesI_doZ (L:=LT) rfl rfl (by decide) (fineOp_ask callT extT (by kernel_rfl)) hvw hn (v':=ansW v rb (e) (x)) (by unfold ansW;go_simp) rfl (fun w9 r9 n9=>?_)
 refine goesI_regionEnd (dt_idle _ _) ?_
 refine GoesI.ctl rfl (fun _=>stepG_ret') (dt_idle _ _) ?_
 refine goesI_leaveZ (f:=64) (fn:=Tryd.f64) (x:=.agg #[I (e),I (x)]) r9 n9 Tryd.func64 rfl hoc ?_ (fun w' r'=>hk w' r' n9)
 generalize ansW v rb (e) (x)=V at hrow
 have k0:V.cell? ⟨rb,0,none⟩=some (I (e)):=by simp [World.cell?,hrow]
 have k1:V.cell? ⟨rb,1,none⟩=some (I (x)):=by simp [World.cell?,hrow]
 simp [results,go_sem,Tryd.f64, *]
theorem g3_wp {v:World} {kp tb rb i:Nat} {F:Value} {x:Int} {b:Bool} {a:Act} (hA:Fl 62 [(0,Pt kp 0),(1,Pt tb 0),(2,F),(6,Pt rb 0),(7,I x),(16,I (R1.stI x))] a) (hF:R1.Flds v) (h1:v.cell? ⟨tb,1,none⟩=some (I i)) (hb:(R1.whoI x==(i:Int))=b):(seq1 (seq1 gW)).wp Tryd.prog (fun e a' w'=>e=.normal∧Fl 62 [(22,.bool b),(0,Pt kp 0),(1,Pt tb 0),(2,F),(6,Pt rb 0)] a'∧Grows v w') a v:=by
 subst hb
 have s0:=hF.w0
 have s1:=hF.w1
 have HK:Hid (v.cell? ⟨tb,1,none⟩=some (I i)):=⟨h1⟩
 clear hF h1
 obtain ⟨hsz,hd,hpp⟩:=hA
 obtain ⟨u,rfl,hg⟩:=litN hsz hd
 have u0:=(hg 0).symm.trans (hpp (0,Pt kp 0) (by simp))
 have u1:=(hg 1).symm.trans (hpp (1,Pt tb 0) (by simp))
 have u2:=(hg 2).symm.trans (hpp (2,F) (by simp))
 have u6:=(hg 6).symm.trans (hpp (6,Pt rb 0) (by simp))
 have u7:=(hg 7).symm.trans (hpp (7,I x) (by simp))
 have u16:=(hg 16).symm.trans (hpp (16,I (R1.stI x)) (by simp))
 clear hg hpp hsz hd
 unfold gW gE gS gI gL gB Tryd.f64 seq1 seq2 blockC loopC condB
 simp only [Option.getD_some,lits,Nat.reduceAdd,u0,u1,u2,u6,u7,u16]
 clear u0 u1 u2 u6 u7 u16
 go_wp2_with fail
 refine (R1.get_yes x 2 8 _ (by decide) (by decide) (by decide)).mono ?_
 rintro e w1 ⟨rfl,hb1⟩
 have h1:w1.cell? ⟨tb,1,none⟩=some (I i):=(blw_grows hb1).cell HK.out
 have HG:Hid (Grows v w1):=⟨blw_grows hb1⟩
 clear hb1 s0 s1
 go_wp2_with (go_at_call 68;refine (R1.id_any tb i _ h1).mono ?_;rintro e w2 ⟨rfl,rfl⟩)
 exact ⟨⟨rfl,rfl,by
  intro p hp
  simp only [List.mem_cons,List.not_mem_nil,or_false] at hp
  rcases hp with rfl|rfl|rfl|rfl|rfl<;>rfl⟩,HG.out⟩
theorem get_again {z:Nat→Option Nat} {Ch:Nat→Prop} {Stop:Goroutine→World→Prop} {main:Bool} {v w:World} {kp tb rb i:Nat} {F:Value} {x:Int} (hx2:R1.stI x≠2) (hx0:R1.stI x≠0) (hwho:R1.whoI x=i) (hF:R1.Flds v) (h1:v.cell? ⟨tb,1,none⟩=some (I i)) {a:Act} (hA:Fl 62 [(0,Pt kp 0),(1,Pt tb 0),(2,F),(6,Pt rb 0),(7,I x),(16,I (R1.stI x))] a) (cs:List Frame) {bc:Frame} {ac:Act} {ops:Array Oper} {q:Nat} {rest:List Nat} {oc:Oper} {k0:List Item} (hoc:ops[q]? = some oc) (hpb:v.heap[rb]? = some (.cells #[I 0,I 0] 38 (0,0))) (hvw:Rel z v w) (hn:NoRow Ch v)
 (hk:∀ v1 w1,Rel z v1 w1→NoRow Ch v1→Grows v v1→∀ w',Rel z (ansW v1 rb 72 0) w'→NoRow Ch (ansW v1 rb 72 0)→GoesI Tryd.prog main (DT (ScZ z) Ch) Stop (G (bc.at (ac.put oc.dst (.agg #[I 72,I 0])) (.inRegion ops rest :: k0)) cs) w') :
 GoesI Tryd.prog main (DT (ScZ z) Ch) Stop (G (gSw a) (bc.at ac (.inRegion ops (q :: rest) :: k0) :: cs)) w:=by
 rw [show gSw a=(base 64).at a [.code (.seq (seq1 gS) (.cond (.tmp 33) (.seq (.region 8 gO8 true) .ret) (.seq (seq1 gE) (.cond (.tmp 45) (.seq (.region 10 gO10 true) (seq2 gN)) gW)))),.inBlock 2,.inBlock 1,.inLoop gL,.inBlock 0] by unfold gSw;rw [←eGS]]
 refine goesI_seq (dt_idle _ _) ?_
 refine goesI_plain (z:=z) (wr:=true) (L:=LT) (I:=NoRow Ch) hE fineT noRow_keeps (fun v v' w w' es hi hr ho he=>dt_of_z v v' w w' es hi hr ho he) hvw fine_g7 hA.2.1 (by simp [base]) hn (Q:=fun a w'=>Fl 62 [(33,.bool false),(0,Pt kp 0),(1,Pt tb 0),(2,F),(6,Pt rb 0),(7,I x),(16,I (R1.stI x))] a∧w'.heap=v.heap∧w'.os=v.os∧w'.output=v.output) (fun τ=>g7_wp (v:=onTape v τ 0) hA (by simpa using hx2)) ?_
 rintro a v1 w1 ⟨hA,q1,q2,q3⟩ r1 n1 -
 have g1:Grows v v1:=⟨by rw [q1];exact Nat.le_refl _,fun b _=>by rw [q1],q2,q3⟩
 refine goesI_cond (dt_idle _ _) (t:=false) (hA.at 33 _ (by simp)) ?_
 simp only [if_true,if_false,Bool.false_eq_true]
 have hA:Fl 62 [(0,Pt kp 0),(1,Pt tb 0),(2,F),(6,Pt rb 0),(7,I x),(16,I (R1.stI x))] a:=hA.sub (by simp)
 refine goesI_seq (dt_idle _ _) ?_
 refine goesI_plain (z:=z) (wr:=true) (L:=LT) (I:=NoRow Ch) hE fineT noRow_keeps (fun v v' w w' es hi hr ho he=>dt_of_z v v' w w' es hi hr ho he) r1 fine_g9 hA.2.1 (by simp [base]) n1 (Q:=fun a w'=>Fl 62 [(45,.bool false),(0,Pt kp 0),(1,Pt tb 0),(2,F),(6,Pt rb 0),(7,I x),(16,I (R1.stI x))] a∧w'.heap=v1.heap∧w'.os=v1.os∧w'.output=v1.output) (fun τ=>g9_wp (v:=onTape v1 τ 0) hA (by simpa using hx0)) ?_
 rintro a v2 w2 ⟨hA,q4,q5,q6⟩ r2 n2 -
 have g2:Grows v v2:=gtrans g1 ⟨by rw [q4];exact Nat.le_refl _,fun b _=>by rw [q4],q5,q6⟩
 refine goesI_cond (dt_idle _ _) (t:=false) (hA.at 45 _ (by simp)) ?_
 simp only [if_true,if_false,Bool.false_eq_true]
 have hA:Fl 62 [(0,Pt kp 0),(1,Pt tb 0),(2,F),(6,Pt rb 0),(7,I x),(16,I (R1.stI x))] a:=hA.sub (by simp)
 rw [eGW]
 refine goesI_seq (dt_idle _ _) ?_
 refine goesI_seq (dt_idle _ _) ?_
 refine goesI_plain (z:=z) (wr:=true) (L:=LT) (I:=NoRow Ch) hE fineT noRow_keeps (fun v v' w w' es hi hr ho he=>dt_of_z v v' w w' es hi hr ho he) r2 fine_g3 hA.2.1 (by simp [base]) n2 (Q:=fun a w'=>Fl 62 [(22,.bool true),(0,Pt kp 0),(1,Pt tb 0),(2,F),(6,Pt rb 0)] a∧Grows v2 w') (fun τ=>wp_mono (g3_wp (v:=onTape v2 τ 0) hA ((flds_grows hF g2).of (fun a x h=>h)) (g2.cell h1) (by simpa using hwho)) (fun e a w h=>⟨h.1,h.2.1,gtape h.2.2⟩)) ?_
 rintro a v3 w3 ⟨hA,g3⟩ r3 n3 -
 have g4:=gtrans g2 g3
 have hpb:v3.heap[rb]? = some (.cells #[I 0,I 0] 38 (0,0)):=by rw [g4.old rb (Array.getElem?_eq_some_iff.1 hpb).1];exact hpb
 have hk:∀ w',Rel z (ansW v3 rb 72 0) w'→NoRow Ch (ansW v3 rb 72 0)→GoesI Tryd.prog main (DT (ScZ z) Ch) Stop (G (bc.at (ac.put oc.dst (.agg #[I 72,I 0])) (.inRegion ops rest :: k0)) cs) w':=fun w' r' n'=>hk v3 w3 r3 n3 g4 w' r' n'
 clear g1 g2 g3 g4 q1 q2 q3 q4 q5 q6 r1 r2 n1 n2 hvw hn hF h1 hx2 hx0 hwho
 clear w w1 w2
 obtain ⟨hsz,hd,hpp⟩:=hA
 obtain ⟨u,rfl,hg⟩:=litN hsz hd
 have u22:=(hg 22).symm.trans (hpp (22,.bool true) (by simp))
 have u0:=(hg 0).symm.trans (hpp (0,Pt kp 0) (by simp))
 have u1:=(hg 1).symm.trans (hpp (1,Pt tb 0) (by simp))
 have u2:=(hg 2).symm.trans (hpp (2,F) (by simp))
 have u6:=(hg 6).symm.trans (hpp (6,Pt rb 0) (by simp))
 clear hg hpp hsz hd
 unfold gW gE gS gI gL gB Tryd.f64 seq1 seq2 blockC loopC condB
 simp only [Option.getD_some,lits,Nat.reduceAdd,u22,u0,u1,u2,u6]
 clear u22 u0 u1 u2 u6
 refine goesI_cond (dt_idle _ _) (t:=true) (by simp [Act.eval]) ?_
 simp only [if_true,if_false,Bool.false_eq_true]
 refine goesI_seq (dt_idle _ _) ?_
 refine goesI_region (dt_idle _ _) ?_
 simp only [List.size_toArray,List.length_cons,List.length_nil,Nat.reduceAdd,Nat.zero_add,List.range,List.range.loop]
 iterate 1
  (refine goesI_oper rfl rfl (by decide) (fun d K hK=>?_)
   go_simp
   refine hK _ _ ⟨dt_reads (fun e he=>?_),GoesI.at ?_ d⟩
   ·have hm:=mem_listed he
    simp [go_sem, *] at hm
    try exact ⟨_,_,hm⟩
    try (rcases hm with rfl|rfl<;>exact ⟨_,_,rfl⟩)
   clear hK K)
 have q0:v3.cell? ⟨rb,0,none⟩=some (I 0):=by simp [World.cell?,hpb]
 have q1:v3.cell? ⟨rb,1,none⟩=some (I 0):=by simp [World.cell?,hpb]
 have p0:v3.frozen? ⟨rb,0,none⟩=false:=by simp [World.frozen?,hpb]
 have p1:v3.frozen? ⟨rb,1,none⟩=false:=by simp [World.frozen?,hpb]
 have hrow:=ans_row hpb (72) (0)
 refine goesI_doZ (L:=LT) rfl rfl (by decide) (fineOp_ask callT extT (by kernel_rfl)) r3 n3 (v':=ansW v3 rb (72) (0)) (by unfold ansW;go_simp) rfl (fun w9 r9 n9=>?_)
 refine goesI_regionEnd (dt_idle _ _) ?_
 refine GoesI.ctl rfl (fun _=>stepG_ret') (dt_idle _ _) ?_
 refine goesI_leaveZ (f:=64) (fn:=Tryd.f64) (x:=.agg #[I (72),I (0)]) r9 n9 Tryd.func64 rfl hoc ?_ (fun w' r'=>hk w' r' n9)
 generalize ansW v3 rb (72) (0)=V at hrow
 have k0:V.cell? ⟨rb,0,none⟩=some (I (72)):=by simp [World.cell?,hrow]
 have k1:V.cell? ⟨rb,1,none⟩=some (I (0)):=by simp [World.cell?,hrow]
 simp [results,go_sem,Tryd.f64, *]
theorem get_wait {z:Nat→Option Nat} {Ch:Nat→Prop} {Stop:Goroutine→World→Prop} {main:Bool} {v w:World} {kp tb rb i j cb:Nat} {F:Value} {x:Int} (hx2:R1.stI x≠2) (hx0:R1.stI x≠0) (hwho:R1.whoI x≠i) (hF:R1.Flds v) (h1:v.cell? ⟨tb,1,none⟩=some (I i)) (h0:v.cell? ⟨kp,0,none⟩=some (Pt cb 0)) (h2:v.cell? ⟨cb,0,none⟩=some (I j)) {a:Act} (hA:Fl 62 [(0,Pt kp 0),(1,Pt tb 0),(2,F),(6,Pt rb 0),(7,I x),(16,I (R1.stI x))] a) (cs:List Frame) (hvw:Rel z v w) (hn:NoRow Ch v)
 (hk:∀ v' w' a (bd:Frame) (ad:Act) (od:Array Oper) (qd:Nat) (rd:List Nat) (oe:Oper) (kd:List Item),Fl 62 [(0,Pt kp 0),(1,Pt tb 0),(2,F),(6,Pt rb 0)] a→Rel z v' w'→NoRow Ch v'→Grows v v'→od[qd]? = some oe→(∀ r,bd.at (ad.put oe.dst r) (.inRegion od rd :: kd)=gWoke a r)→∀ code,Tryd.f98.body=some code →
   GoesI Tryd.prog main (DT (ScZ z) Ch) Stop (G ((base 98).at { tmps:=#[Pt tb 0,I j]++Array.replicate 33 undef,defers:=[] } [.code code]) (bd.at ad (.inRegion od (qd :: rd) :: kd) :: cs)) w') :
 GoesI Tryd.prog main (DT (ScZ z) Ch) Stop (G (gSw a) cs) w:=by
 rw [show gSw a=(base 64).at a [.code (.seq (seq1 gS) (.cond (.tmp 33) (.seq (.region 8 gO8 true) .ret) (.seq (seq1 gE) (.cond (.tmp 45) (.seq (.region 10 gO10 true) (seq2 gN)) gW)))),.inBlock 2,.inBlock 1,.inLoop gL,.inBlock 0] by unfold gSw;rw [←eGS]]
 refine goesI_seq (dt_idle _ _) ?_
 refine goesI_plain (z:=z) (wr:=true) (L:=LT) (I:=NoRow Ch) hE fineT noRow_keeps (fun v v' w w' es hi hr ho he=>dt_of_z v v' w w' es hi hr ho he) hvw fine_g7 hA.2.1 (by simp [base]) hn (Q:=fun a w'=>Fl 62 [(33,.bool false),(0,Pt kp 0),(1,Pt tb 0),(2,F),(6,Pt rb 0),(7,I x),(16,I (R1.stI x))] a∧w'.heap=v.heap∧w'.os=v.os∧w'.output=v.output) (fun τ=>g7_wp (v:=onTape v τ 0) hA (by simpa using hx2)) ?_
 rintro a v1 w1 ⟨hA,q1,q2,q3⟩ r1 n1 -
 have g1:Grows v v1:=⟨by rw [q1];exact Nat.le_refl _,fun b _=>by rw [q1],q2,q3⟩
 refine goesI_cond (dt_idle _ _) (t:=false) (hA.at 33 _ (by simp)) ?_
 simp only [if_true,if_false,Bool.false_eq_true]
 have hA:Fl 62 [(0,Pt kp 0),(1,Pt tb 0),(2,F),(6,Pt rb 0),(7,I x),(16,I (R1.stI x))] a:=hA.sub (by simp)
 refine goesI_seq (dt_idle _ _) ?_
 refine goesI_plain (z:=z) (wr:=true) (L:=LT) (I:=NoRow Ch) hE fineT noRow_keeps (fun v v' w w' es hi hr ho he=>dt_of_z v v' w w' es hi hr ho he) r1 fine_g9 hA.2.1 (by simp [base]) n1 (Q:=fun a w'=>Fl 62 [(45,.bool false),(0,Pt kp 0),(1,Pt tb 0),(2,F),(6,Pt rb 0),(7,I x),(16,I (R1.stI x))] a∧w'.heap=v1.heap∧w'.os=v1.os∧w'.output=v1.output) (fun τ=>g9_wp (v:=onTape v1 τ 0) hA (by simpa using hx0)) ?_
 rintro a v2 w2 ⟨hA,q4,q5,q6⟩ r2 n2 -
 have g2:Grows v v2:=gtrans g1 ⟨by rw [q4];exact Nat.le_refl _,fun b _=>by rw [q4],q5,q6⟩
 refine goesI_cond (dt_idle _ _) (t:=false) (hA.at 45 _ (by simp)) ?_
 simp only [if_true,if_false,Bool.false_eq_true]
 have hA:Fl 62 [(0,Pt kp 0),(1,Pt tb 0),(2,F),(6,Pt rb 0),(7,I x),(16,I (R1.stI x))] a:=hA.sub (by simp)
 rw [eGW]
 refine goesI_seq (dt_idle _ _) ?_
 refine goesI_seq (dt_idle _ _) ?_
 refine goesI_plain (z:=z) (wr:=true) (L:=LT) (I:=NoRow Ch) hE fineT noRow_keeps (fun v v' w w' es hi hr ho he=>dt_of_z v v' w w' es hi hr ho he) r2 fine_g3 hA.2.1 (by simp [base]) n2 (Q:=fun a w'=>Fl 62 [(22,.bool false),(0,Pt kp 0),(1,Pt tb 0),(2,F),(6,Pt rb 0)] a∧Grows v2 w') (fun τ=>wp_mono (g3_wp (v:=onTape v2 τ 0) hA ((flds_grows hF g2).of (fun a x h=>h)) (g2.cell h1) (by simpa using hwho)) (fun e a w h=>⟨h.1,h.2.1,gtape h.2.2⟩)) ?_
 rintro a v3 w3 ⟨hA,g3⟩ r3 n3 -
 have g4:=gtrans g2 g3
 have e0:w3.cell? ⟨kp,0,none⟩=some (Pt cb 0):=by rw [r3.cell?];exact g4.cell h0
 have e2:v3.cell? ⟨cb,0,none⟩=some (I j):=g4.cell h2
 have HG:Hid (Grows v v3):=⟨g4⟩
 clear g1 g2 g3 g4 q1 q2 q3 q4 q5 q6 r1 r2 n1 n2 hvw hn hF h1 hx2 hx0 hwho h0 h2
 clear w w1 w2
 unfold gWoke gO5 gW gE gS gI gL gB Tryd.f64 seq1 seq2 blockC loopC condB opsOf at hk
 simp only [Option.getD_some] at hk
 obtain ⟨hsz,hd,hpp⟩:=hA
 obtain ⟨u,rfl,hg⟩:=litN hsz hd
 have u22:=(hg 22).symm.trans (hpp (22,.bool false) (by simp))
 have u0:=(hg 0).symm.trans (hpp (0,Pt kp 0) (by simp))
 have u1:=(hg 1).symm.trans (hpp (1,Pt tb 0) (by simp))
 have u2:=(hg 2).symm.trans (hpp (2,F) (by simp))
 have u6:=(hg 6).symm.trans (hpp (6,Pt rb 0) (by simp))
 clear hg hpp hsz hd
 unfold gO5 gW gE gS gI gL gB Tryd.f64 seq1 seq2 blockC loopC condB opsOf
 simp only [Option.getD_some,lits,Nat.reduceAdd,u22,u0,u1,u2,u6]
 clear u22 u0 u1 u2 u6
 refine goesI_cond (dt_idle _ _) (t:=false) (by simp [Act.eval]) ?_
 simp only [if_true,if_false,Bool.false_eq_true]
 refine goesI_skip (dt_idle _ _) ?_
 refine goesI_seq (dt_idle _ _) ?_
 refine goesI_region (dt_idle _ _) ?_
 simp only [List.size_toArray,List.length_cons,List.length_nil,Nat.reduceAdd,Nat.zero_add,List.range,List.range.loop]
 iterate 5
  (refine goesI_oper rfl rfl (by decide) (fun d K hK=>?_)
   go_simp
   refine hK _ _ ⟨dt_reads (fun e he=>?_),GoesI.at ?_ d⟩
   ·have hm:=mem_listed he
    simp [go_sem, *] at hm
    try exact ⟨_,_,hm⟩
    try (rcases hm with rfl|rfl<;>exact ⟨_,_,rfl⟩)
   clear hK K)
 refine goesI_call (f:=99) (fn:=Tryd.f99) (args:=#[Pt cb 0]) hE fineT rfl rfl (by decide) rfl (by simp [Act.eval]) Tryd.func99 (by kernel_rfl) rfl (fineFn_body fineT (by simp [LT,plainFs]) Tryd.func99 rfl) (fun tmps=>⟨_,fun w=>results_tmp rfl _ _ _,fun w=>by simp [results,go_sem]⟩) r3 n3
  (R:=fun r v4=>r=I j∧v4.heap=v3.heap∧v4.os=v3.os∧v4.output=v3.output) (fun τ=>wp_mono (cid_body cb j (onTape v3 τ 0) e2 _ rfl) (bp_mono fun r u hq=>⟨hq.1,by rw [hq.2];rfl,by rw [hq.2];rfl,by rw [hq.2];rfl⟩)) (fun r v4 w4 hR hvw4 hn4=>?_)
 obtain ⟨rfl,k1,k2,k3⟩:=hR
 have hg:Grows v v4:=gtrans HG.out ⟨by rw [k1];exact Nat.le_refl _,fun b _=>by rw [k1],k2,k3⟩
 walk_nrm
 refine goesI_into (f:=98) (fn:=Tryd.f98) (args:=#[Pt tb 0,I j]) (dt_idle _ _) rfl rfl (by decide) rfl (by simp [Act.eval]) Tryd.func98 (by decide) rfl ?_
 exact hk v4 w4 _ _ _ _ _ _ _ _ ⟨rfl,rfl,by
  intro p hp
  simp only [List.mem_cons,List.not_mem_nil,or_false] at hp
  rcases hp with rfl|rfl|rfl|rfl<;>rfl⟩ hvw4 hn4 hg rfl (fun r=>rfl) _ rfl
theorem get_woke {z:Nat→Option Nat} {Ch:Nat→Prop} {Stop:Goroutine→World→Prop} {main:Bool} {w:World} {kp tb rb:Nat} {F:Value} {a:Act} (hA:Fl 62 [(0,Pt kp 0),(1,Pt tb 0),(2,F),(6,Pt rb 0)] a) (cs:List Frame)
 (hk:∀ a,Fl 62 [(0,Pt kp 0),(1,Pt tb 0),(2,F),(6,Pt rb 0)] a→GoesI Tryd.prog main (DT (ScZ z) Ch) Stop (G (gFr a) cs) w) :
 GoesI Tryd.prog main (DT (ScZ z) Ch) Stop (G (gWoke a (.bool true)) cs) w:=by
 unfold gFr at hk
 generalize hL:gL=L at hk
 have hW:gWoke a (.bool true)=(base 64).at (a.put (some 30) (.bool true)) [.inRegion gO5 [7],.code (seq2 (seq2 gW)),.inBlock 2,.inBlock 1,.inLoop L,.inBlock 0]:=by rw [←hL];rfl
 rw [hW]
 clear hW hL
 obtain ⟨hsz,hd,hpp⟩:=hA
 obtain ⟨u,rfl,hg⟩:=litN hsz hd
 have u0:=(hg 0).symm.trans (hpp (0,Pt kp 0) (by simp))
 have u1:=(hg 1).symm.trans (hpp (1,Pt tb 0) (by simp))
 have u2:=(hg 2).symm.trans (hpp (2,F) (by simp))
 have u6:=(hg 6).symm.trans (hpp (6,Pt rb 0) (by simp))
 clear hg hpp hsz hd
 unfold gO5 gW gE gS gI gL gB Tryd.f64 seq1 seq2 blockC loopC condB opsOf
 simp only [Option.getD_some,lits,Nat.reduceAdd,u0,u1,u2,u6]
 clear u0 u1 u2 u6
 walk_nrm
 iterate 1
  (refine goesI_oper rfl rfl (by decide) (fun d K hK=>?_)
   go_simp
   refine hK _ _ ⟨dt_reads (fun e he=>?_),GoesI.at ?_ d⟩
   ·have hm:=mem_listed he
    simp [go_sem, *] at hm
    try exact ⟨_,_,hm⟩
    try (rcases hm with rfl|rfl<;>exact ⟨_,_,rfl⟩)
   clear hK K)
 refine goesI_regionEnd (dt_idle _ _) ?_
 refine goesI_cond (dt_idle _ _) (t:=false) (by simp [Act.eval]) ?_
 simp only [if_true,if_false,Bool.false_eq_true]
 refine goesI_skip (dt_idle _ _) ?_
 refine goesI_inBlock (dt_idle _ _) ?_
 refine goesI_inBlock (dt_idle _ _) ?_
 refine goesI_inLoop (dt_idle _ _) ?_
 exact hk _ ⟨rfl,rfl,by
  intro p hp
  simp only [List.mem_cons,List.not_mem_nil,or_false] at hp
  rcases hp with rfl|rfl|rfl|rfl<;>rfl⟩
theorem get_stuck {z:Nat→Option Nat} {Ch:Nat→Prop} {Stop:Goroutine→World→Prop} {main:Bool} {v w:World} {kp tb rb:Nat} {F:Value} {a:Act} (hA:Fl 62 [(0,Pt kp 0),(1,Pt tb 0),(2,F),(6,Pt rb 0)] a) (cs:List Frame) {bc:Frame} {ac:Act} {ops:Array Oper} {q:Nat} {rest:List Nat} {oc:Oper} {k0:List Item} (hoc:ops[q]? = some oc) (hpb:v.heap[rb]? = some (.cells #[I 0,I 0] 38 (0,0))) (hvw:Rel z v w) (hn:NoRow Ch v)
 (hk:∀ w',Rel z (ansW v rb 4 0) w'→NoRow Ch (ansW v rb 4 0)→GoesI Tryd.prog main (DT (ScZ z) Ch) Stop (G (bc.at (ac.put oc.dst (.agg #[I 4,I 0])) (.inRegion ops rest :: k0)) cs) w') :
 GoesI Tryd.prog main (DT (ScZ z) Ch) Stop (G (gWoke a (.bool false)) (bc.at ac (.inRegion ops (q :: rest) :: k0) :: cs)) w:=by
 obtain ⟨hsz,hd,hpp⟩:=hA
 obtain ⟨u,rfl,hg⟩:=litN hsz hd
 have u0:=(hg 0).symm.trans (hpp (0,Pt kp 0) (by simp))
 have u1:=(hg 1).symm.trans (hpp (1,Pt tb 0) (by simp))
 have u2:=(hg 2).symm.trans (hpp (2,F) (by simp))
 have u6:=(hg 6).symm.trans (hpp (6,Pt rb 0) (by simp))
 clear hg hpp hsz hd
 unfold gWoke gO5 gW gE gS gI gL gB Tryd.f64 seq1 seq2 blockC loopC condB opsOf
 simp only [Option.getD_some,lits,Nat.reduceAdd,u0,u1,u2,u6]
 clear u0 u1 u2 u6
 walk_nrm
 iterate 1
  (refine goesI_oper rfl rfl (by decide) (fun d K hK=>?_)
   go_simp
   refine hK _ _ ⟨dt_reads (fun e he=>?_),GoesI.at ?_ d⟩
   ·have hm:=mem_listed he
    simp [go_sem, *] at hm
    try exact ⟨_,_,hm⟩
    try (rcases hm with rfl|rfl<;>exact ⟨_,_,rfl⟩)
   clear hK K)
 refine goesI_regionEnd (dt_idle _ _) ?_
 refine goesI_cond (dt_idle _ _) (t:=true) (by simp [Act.eval]) ?_
 simp only [if_true,if_false,Bool.false_eq_true]
 refine goesI_seq (dt_idle _ _) ?_
 refine goesI_region (dt_idle _ _) ?_
 simp only [List.size_toArray,List.length_cons,List.length_nil,Nat.reduceAdd,Nat.zero_add,List.range,List.range.loop]
 iterate 1
  (refine goesI_oper rfl rfl (by decide) (fun d K hK=>?_)
   go_simp
   refine hK _ _ ⟨dt_reads (fun e he=>?_),GoesI.at ?_ d⟩
   ·have hm:=mem_listed he
    simp [go_sem, *] at hm
    try exact ⟨_,_,hm⟩
    try (rcases hm with rfl|rfl<;>exact ⟨_,_,rfl⟩)
   clear hK K)
 have q0:v.cell? ⟨rb,0,none⟩=some (I 0):=by simp [World.cell?,hpb]
 have q1:v.cell? ⟨rb,1,none⟩=some (I 0):=by simp [World.cell?,hpb]
 have p0:v.frozen? ⟨rb,0,none⟩=false:=by simp [World.frozen?,hpb]
 have p1:v.frozen? ⟨rb,1,none⟩=false:=by simp [World.frozen?,hpb]
 have hrow:=ans_row hpb (4) (0)
 refine goesI_doZ (L:=LT) rfl rfl (by decide) (fineOp_ask callT extT (by kernel_rfl)) hvw hn (v':=ansW v rb (4) (0)) (by unfold ansW;go_simp) rfl (fun w9 r9 n9=>?_)
 refine goesI_regionEnd (dt_idle _ _) ?_
 refine GoesI.ctl rfl (fun _=>stepG_ret') (dt_idle _ _) ?_
 refine goesI_leaveZ (f:=64) (fn:=Tryd.f64) (x:=.agg #[I (4),I (0)]) r9 n9 Tryd.func64 rfl hoc ?_ (fun w' r'=>hk w' r' n9)
 generalize ansW v rb (4) (0)=V at hrow
 have k0:V.cell? ⟨rb,0,none⟩=some (I (4)):=by simp [World.cell?,hrow]
 have k1:V.cell? ⟨rb,1,none⟩=some (I (0)):=by simp [World.cell?,hrow]
 simp [results,go_sem,Tryd.f64, *]
def zeroA:Obj:=.cells #[I 0,I 0] 38 (0,0)
section
variable {mc:Mc} {X:Fix mc} {z:Nat→Option Nat} {cont:Addr→Value} {Ch:Nat→Prop} {S0:TS} {K0:List (Nat×Int)} {v0:World} {Mo0 M M1 M2:Nat→Option Obj} {σ:TS} {κ:List (Nat×Int)} {S:TS} {v w v' w':World} {t:Thr}
structure NowP (X:Fix mc) (z:Nat→Option Nat) (cont:Addr→Value) (Ch:Nat→Prop) (S0:TS) (K0:List (Nat×Int)) (v0:World) (Mo0 M:Nat→Option Obj) (σ:TS) (κ:List (Nat×Int)) (S:TS) (v w:World) (t:Thr):Prop where
 now:Now X z cont Ch S0 K0 v0 Mo0 M σ κ S v w t
 hp:∀ b,M b≠none→X.pk b=none
theorem NowP.grows (N:NowP X z cont Ch S0 K0 v0 Mo0 M σ κ S v w t) (g:Grows v v') (r:Rel z v' w') (n:NoRow Ch v'):NowP X z cont Ch S0 K0 v0 Mo0 M σ κ S v' w' t :=
 ⟨N.now.on (N.now.at_.mem.grows g) r n N.now.nv N.now.at_.thr N.now.at_.tb N.now.at_.gc rfl N.now.at_.kb.2,N.hp⟩
theorem NowP.more (N:NowP X z cont Ch S0 K0 v0 Mo0 M σ κ S v w t) (g:Grows v v') (r:Rel z v' w') (n:NoRow Ch v') (hd:∀ b,M1 b≠none→v.heap.size≤b) (hm:Has M1 v') (hr:∀ b o,M1 b=some o→∃ c e f,o=.cells c e f):NowP X z cont Ch S0 K0 v0 Mo0 (uni M1 M) σ κ S v' w' t:=by
 have N1:=N.grows g r n
 refine ⟨⟨N1.now.at_,N1.now.evo,N1.now.nv,N1.now.bk,uni_has hm N1.now.mo,fun b hb=>?_,fun b hb=>?_,uni_rows hr N1.now.row⟩,fun b hb=>?_⟩
 ·rcases uni_ne.1 hb with h|h
  ·exact fun ho=>by have:=N.now.at_.mem.lt ho;have:=hd b h;omega
  ·exact N1.now.far b h
 ·rcases uni_ne.1 hb with h|h
  ·exact .inr (Nat.le_trans N.now.evo.fr.size (hd b h))
  ·exact N.now.new b h
 ·rcases uni_ne.1 hb with h|h
  ·cases hx:X.pk b with
   |none=>rfl
   |some o =>
    have:=(Array.getElem?_eq_some_iff.1 (N.now.at_.pk b o hx)).1
    have:=hd b h
    omega
  ·exact N.hp b h
theorem NowP.to (N:NowP X z cont Ch S0 K0 v0 Mo0 M σ κ S v w t) (g:Grows v v') (r:Rel z v' w') (n:NoRow Ch v') (hd:∀ b o,M1 b=some o→M b=some o∨(v.heap.size≤b∧v'.heap[b]? = some o∧∃ c e f,o=.cells c e f)):NowP X z cont Ch S0 K0 v0 Mo0 M1 σ κ S v' w' t:=by
 have N1:=N.grows g r n
 have hn:∀ b,M1 b≠none→M b≠none∨v.heap.size≤b:=fun b hb=>by
  obtain ⟨o,ho⟩:=Option.ne_none_iff_exists'.1 hb
  rcases hd b o ho with h|h
  ·exact .inl (by rw [h];simp)
  ·exact .inr h.1
 refine ⟨⟨N1.now.at_,N1.now.evo,N1.now.nv,N1.now.bk,fun b o hb=>(hd b o hb).elim (N1.now.mo b o) (fun h=>h.2.1),fun b hb=>?_,fun b hb=>?_,fun b o hb=>(hd b o hb).elim (N1.now.row b o) (fun h=>h.2.2)⟩,fun b hb=>?_⟩
 ·rcases hn b hb with h|h
  ·exact N1.now.far b h
  ·exact fun ho=>by have:=N.now.at_.mem.lt ho;omega
 ·rcases hn b hb with h|h
  ·exact N.now.new b h
  ·exact .inr (Nat.le_trans N.now.evo.fr.size h)
 ·rcases hn b hb with h|h
  ·exact N.hp b h
  ·cases hx:X.pk b with
   |none=>rfl
   |some o =>
    have:=(Array.getElem?_eq_some_iff.1 (N.now.at_.pk b o hx)).1
    omega
theorem NowP.lt (N:NowP X z cont Ch S0 K0 v0 Mo0 M σ κ S v w t) {b:Nat} (hb:M b≠none):b<v.heap.size:=by
 obtain ⟨o,ho⟩:=Option.ne_none_iff_exists'.1 hb
 exact (Array.getElem?_eq_some_iff.1 (N.now.mo b o ho)).1
theorem NowP.less (N:NowP X z cont Ch S0 K0 v0 Mo0 M σ κ S v w t) (hs:∀ b o,M1 b=some o→M b=some o):NowP X z cont Ch S0 K0 v0 Mo0 M1 σ κ S v w t:=by
 have hn:∀ b,M1 b≠none→M b≠none:=fun b hb=>by
  obtain ⟨o,ho⟩:=Option.ne_none_iff_exists'.1 hb
  rw [hs b o ho];simp
 exact ⟨⟨N.now.at_,N.now.evo,N.now.nv,N.now.bk,fun b o hb=>N.now.mo b o (hs b o hb),fun b hb=>N.now.far b (hn b hb),fun b hb=>N.now.new b (hn b hb),fun b o hb=>N.now.row b o (hs b o hb)⟩,fun b hb=>N.hp b (hn b hb)⟩
theorem NowP.wrote (N:NowP X z cont Ch S0 K0 v0 Mo0 (uni M1 M2) σ κ S v w t) (ha:apartM M1 M2) (e:EvoP (fun b=>M1 b≠none) z S κ v S κ v') (r:Rel z v' w') (n:NoRow Ch v'):NowP X z cont Ch S0 K0 v0 Mo0 M2 σ κ S v' w' t:=by
 obtain ⟨k1,k2⟩:=has_uni N.now.mo ha
 have h2:∀ b,M2 b≠none→uni M1 M2 b≠none:=fun b hb=>uni_ne.2 (.inr hb)
 have h2':∀ b o,M2 b=some o→uni M1 M2 b=some o:=fun b o hb=>by
  cases h1:M1 b with
  |none=>exact uni_right h1 hb
  |some o'=>rw [ha b (by rw [h1];simp)] at hb;cases hb
 refine ⟨⟨⟨r,n,e.mem,N.now.at_.thr,N.now.at_.tb,N.now.at_.gc,N.now.at_.kb,N.now.at_.z,N.now.at_.cont,fun b o hb=>?_,N.now.at_.far⟩,N.now.evo.join e (fun b hb=>?_),N.now.nv,N.now.bk,fun b o hb=>?_,fun b hb=>N.now.far b (h2 b hb),fun b hb=>N.now.new b (h2 b hb),fun b o hb=>N.now.row b o (h2' b o hb)⟩,fun b hb=>N.hp b (h2 b hb)⟩
 ·have hv:=N.now.at_.pk b o hb
  have:=e.keeps (Array.getElem?_eq_some_iff.1 hv).1 (N.now.at_.far b (by rw [hb];simp)) (fun h=>by
   have h:M1 b≠none:=h
   rw [N.hp b (uni_ne.2 (.inl h))] at hb;cases hb)
  rw [this.1];exact hv
 ·have hb:M1 b≠none:=hb
  exact N.now.new b (uni_ne.2 (.inl hb))
 ·have hv:=k2 b o hb
  have:=e.keeps (Array.getElem?_eq_some_iff.1 hv).1 (N.now.far b (h2 b (by rw [hb];simp))) (fun h=>by
   have h:M1 b≠none:=h
   rw [ha b h] at hb;cases hb)
  rw [this.1];exact hv
end
theorem uni_assoc (A B C:Nat→Option Obj):uni A (uni B C)=uni (uni A B) C:=by
 funext b
 unfold uni
 cases A b<;>rfl
theorem apart_lt {A B:Nat→Option Obj} {n:Nat} (ha:∀ b,A b≠none→n≤b) (hb:∀ b,B b≠none→b<n):apartM A B:=fun b h=>by
 cases hx:B b with
 |none=>rfl
 |some o =>
  have h1:=ha b h
  have h2:=hb b (by rw [hx];simp)
  omega
theorem one_apart {M:Nat→Option Obj} {rb:Nat} (h:M rb=none):apartM (oneM rb zeroA) M:=fun b hb=>by
 rw [oneM_ne hb];exact h
theorem kb_of {main:Bool} {rb:Nat} {c cu:Value→Goroutine} (h:∀ (z:Nat→Option Nat) (Ch:Nat→Prop) (Stop:Goroutine→World→Prop) (v w:World) (e x:Int),v.heap[rb]? = some zeroA→Rel z v w→NoRow Ch v→(∀ w',Rel z (ansW v rb e x) w'→NoRow Ch (ansW v rb e x)→GoesI Tryd.prog main (DT (ScZ z) Ch) Stop (cu (.agg #[I e,I x])) w')→GoesI Tryd.prog main (DT (ScZ z) Ch) Stop (c (.agg #[I e,I x])) w):KBack main (oneM rb zeroA) (fun a=>a) c cu:=by
 intro z Ch Stop w v S K a hvw hn hm hM hO hk
 refine h z Ch Stop v w a.1 a.2 (has_one.1 hM) hvw hn (fun w' r' n'=>hk _ w' r' n' ?_)
 exact (ans_evo hm (hO rb (by rw [oneM_at];simp)) a.1 a.2).wider (fun b _ hb=>by rw [show b=rb from hb,oneM_at];simp)
def Box3 (ob tb:Nat) (k b:Int) (b3 b4 b5:Nat) (M:Nat→Option Obj):Prop:=M b3=some (.cells #[Pt ob 0] 46 (0,0))∧M b4=some (.cells #[Pt tb 0] 48 (0,0))∧M b5=some (.cells #[I k,I b] 52 (0,0))
inductive OCtx (main:Bool) (tb kp ob:Nat) (k b:Int):Nat→(Nat→Option Obj)→(Value→Goroutine)→(Value→Goroutine)→Prop
 |base {M:Nat→Option Obj} {c cu:Value→Goroutine}:KBack main M (fun a=>a) c cu→OCtx main tb kp ob k b 0 M c cu
 |nest {d:Nat} {M0 M1:Nat→Option Obj} {c cu:Value→Goroutine} {f:Frs} {a:Act} {rb b3 b4 b5:Nat}:f.Ok→OCtx main tb kp ob k b d M0 f.ret cu→Fl 62 [(0,Pt kp 0),(1,Pt tb 0),(2,.func (.func 65) #[] #[Pt b3 0,Pt b4 0,Pt b5 0]),(6,Pt rb 0),(57,Pt kp 0),(58,Pt tb 0)] a →
   Box3 ob tb k b b3 b4 b5 M0→KBack main M1 (fun a=>(70,a.1)) c (fun r=>G (gDone a r) f.stack)→apartM M1 (uni (oneM rb zeroA) M0)→M0 rb=none→OCtx main tb kp ob k b (d+1) (uni M1 (uni (oneM rb zeroA) M0)) c cu
structure ODat {m:Nat} (X:Fix (mcO m)) (o ob kp cw cv:Nat):Prop where
 mem:∀ v,Has X.pk v→R1.Flds v∧v.cell? ⟨ob,0,none⟩=some (Pt kp 0)∧v.cell? ⟨kp,0,none⟩=some (Pt cw 0)∧v.cell? ⟨kp,1,none⟩=some (Pt cv 0)
 kw:X.kb[2*o]? = some cw
 kv:X.kb[2*o+1]? = some cv
abbrev GF (kp tb b3 b4 b5 rb:Nat) (a:Act):Prop:=Fl 62 [(0,Pt kp 0),(1,Pt tb 0),(2,.func (.func 65) #[] #[Pt b3 0,Pt b4 0,Pt b5 0]),(6,Pt rb 0)] a
abbrev KF (kp tb bx rb:Nat) (a:Act):Prop:=Fl 29 [(0,Pt kp 0),(1,Pt tb 0),(5,Pt bx 0),(6,Pt rb 0)] a
noncomputable def kStack (a:Act) (f:Frs):List Frame:=(base 64).at a (.inRegion gO11 [4,5] :: [.code .ret,.inBlock 2,.inBlock 1,.inLoop gL,.inBlock 0]) :: f.stack
def kMo (bx rb2 rb:Nat) (e y:Int) (M:Nat→Option Obj):Nat→Option Obj:=uni (oneM bx (.cells #[I e,I y] 38 (0,0))) (uni (oneM rb2 zeroA) (uni (oneM rb zeroA) M))
def oSit {m:Nat} (X:Fix (mcO m)) (x:Nx) (Mo:Nat→Option Obj) (cu:Value→Goroutine) (g:Goroutine):Prop :=
 (∀ b o,Mo b=some o→∃ c e f,o=.cells c e f)∧∃ (o ob kp cw cv:Nat) (k b:Int) (d:Nat) (f:Frs) (rb b3 b4 b5:Nat) (a:Act) (M:Nat→Option Obj),ODat X o ob kp cw cv∧(0≤k∧k≤3)∧f.Ok∧OCtx (X.h==0) X.tb kp ob k b d M f.ret cu∧Box3 ob X.tb k b b3 b4 b5 M∧M rb=none∧GF kp X.tb b3 b4 b5 rb a ∧
   ((Mo=uni (oneM rb zeroA) M ∧
     ((x=.turn 1 (2*o) (1,lO o k b d X.i)∧OpBack (X.h==0) X.i (2*o) cw X.tb 1 effLoad (fun r=>G (gSeen a r) f.stack) g) ∨
      (∃ c,x=.turn 1 (2*o+1) (2,lO o k b d X.i++[c])∧Fl 62 [(37,I c)] a∧OpBack (X.h==0) X.i (2*o+1) cv X.tb 1 effLoad (fun r=>G (gVal a r) f.stack) g) ∨
      (∃ c,x=.turn 4 (2*o) (3,lO o k b d X.i++[c])∧OpBack (X.h==0) X.i (2*o) cw X.tb 4 (effCas c (R1.wordI 1 X.i 0)) (fun r=>G (gTry a r) f.stack) g) ∨
      (x=.wait (2*o) (4,lO o k b d X.i)∧WakeBack (X.h==0) X.i X.tb ((2*o:Nat):Int) (fun r=>G (gWoke a r) f.stack) g))) ∨
    (∃ (e y:Int) (bx rb2:Nat) (a2:Act),Mo=kMo bx rb2 rb e y M∧KF kp X.tb bx rb2 a2∧(0≤e∧e<1048576)∧(bx≠rb2∧bx≠rb∧M bx=none∧rb2≠rb∧M rb2=none) ∧
     ((x=.turn 2 (2*o+1) (5,lO o k b d X.i++[e,y])∧OpBack (X.h==0) X.i (2*o+1) cv X.tb 2 (effStore y) (fun r=>G (kVal a2 r) (kStack a f)) g) ∨
      (x=.turn 2 (2*o) (6,lO o k b d X.i++[e,y])∧OpBack (X.h==0) X.i (2*o) cw X.tb 2 (effStore (R1.wordI 2 0 e)) (fun r=>G (kWord a2 r) (kStack a f)) g))))
theorem fget_look {Ch:Nat→Prop} {Stop:Goroutine→World→Prop} {main:Bool} {v w:World} {cb kp rb tb:Nat} {F:Value} {x:Int} (h0:v.cell? ⟨kp,0,none⟩=some (Pt cb 0)) {a:Act} (hA:Fl 62 [(0,Pt kp 0),(1,Pt tb 0),(2,F),(6,Pt rb 0)] a) (cs:List Frame) (hvw:Rel zn v w) (hn:NoRow Ch v) (hm:Fm tb cb x v)
 (hk:∀ a v' w',Fl 62 [(0,Pt kp 0),(1,Pt tb 0),(2,F),(6,Pt rb 0)] a→Rel zn v' w'→NoRow Ch v'→Fto tb cb x v v'→GoesI Tryd.prog main (DT (ScZ zn) Ch) Stop (G (gSeen a (I x)) cs) w') :
 GoesI Tryd.prog main (DT (ScZ zn) Ch) Stop (G (gFr a) cs) w:=by
 have e0:w.cell? ⟨kp,0,none⟩=some (Pt cb 0):=by rw [hvw.cell?];exact h0
 have HM:Hid (Fm tb cb x v):=⟨hm⟩
 clear hm
 unfold gSeen gO1 gI gL gB Tryd.f64 seq1 seq2 blockC loopC opsOf at hk
 simp only [Option.getD_some] at hk
 obtain ⟨hsz,hd,hpp⟩:=hA
 obtain ⟨u,rfl,hg⟩:=litN hsz hd
 have u0:=(hg 0).symm.trans (hpp (0,Pt kp 0) (by simp))
 have u1:=(hg 1).symm.trans (hpp (1,Pt tb 0) (by simp))
 have u2:=(hg 2).symm.trans (hpp (2,F) (by simp))
 have u6:=(hg 6).symm.trans (hpp (6,Pt rb 0) (by simp))
 clear hg hpp hsz hd
 unfold gFr gL gB Tryd.f64 seq2 blockC loopC
 simp only [Option.getD_some,lits,Nat.reduceAdd,u0,u1,u2,u6]
 clear u0 u1 u2 u6
 refine goesI_block (dt_idle _ _) ?_
 refine goesI_seq (dt_idle _ _) ?_
 refine goesI_region (dt_idle _ _) ?_
 simp only [List.size_toArray,List.length_cons,List.length_nil,Nat.reduceAdd,Nat.zero_add,List.range,List.range.loop]
 iterate 5
  (refine goesI_oper rfl rfl (by decide) (fun d K hK=>?_)
   go_simp
   refine hK _ _ ⟨dt_reads (fun e he=>?_),GoesI.at ?_ d⟩
   ·have hm:=mem_listed he
    simp [go_sem, *] at hm
    try exact ⟨_,_,hm⟩
    try (rcases hm with rfl|rfl<;>exact ⟨_,_,rfl⟩)
   clear hK K)
 refine goesI_into (f:=73) (fn:=Tryd.f73) (args:=#[Pt cb 0,Pt tb 0]) (dt_idle _ _) rfl rfl (by decide) rfl (by simp [Act.eval]) Tryd.func73 (by decide) rfl ?_
 exact free17 x _ rfl hvw hn HM.out (fun v' w' r' n' f'=>hk _ v' w' ⟨rfl,rfl,by
  intro p hp
  simp only [List.mem_cons,List.not_mem_nil,or_false] at hp
  rcases hp with rfl|rfl|rfl|rfl<;>rfl⟩ r' n' f') _ rfl
theorem Fm.grows {tb cb:Nat} {x:Int} {v v':World} (h:Fm tb cb x v) (g:Grows v v'):Fm tb cb x v':=⟨g.cell h.thr,h.ne,by rw [g.old cb (Array.getElem?_eq_some_iff.1 h.cel).1];exact h.cel⟩
theorem fget_done {Ch:Nat→Prop} {Stop:Goroutine→World→Prop} {main:Bool} {v w:World} {cb kp rb tb:Nat} {F:Value} {x y:Int} (hx:R1.stI x=2) (hF:R1.Flds v) (h1:v.cell? ⟨kp,1,none⟩=some (Pt cb 0)) {a:Act} (hA:Fl 62 [(0,Pt kp 0),(1,Pt tb 0),(2,F),(6,Pt rb 0),(7,I x),(16,I (R1.stI x))] a) (cs:List Frame) (hvw:Rel zn v w) (hn:NoRow Ch v) (hm:Fm tb cb y v)
 (hk:∀ a v2 v' w',Fl 62 [(37,I (R1.codI x)),(0,Pt kp 0),(1,Pt tb 0),(2,F),(6,Pt rb 0)] a→Rel zn v' w'→NoRow Ch v'→Grows v v2→Fto tb cb y v2 v'→GoesI Tryd.prog main (DT (ScZ zn) Ch) Stop (G (gVal a (I y)) cs) w') :
 GoesI Tryd.prog main (DT (ScZ zn) Ch) Stop (G (gSw a) cs) w:=by
 rw [show gSw a=(base 64).at a [.code (.seq (seq1 gS) (.cond (.tmp 33) (.seq (.region 8 gO8 true) .ret) (.seq (seq1 gE) (.cond (.tmp 45) (.seq (.region 10 gO10 true) (seq2 gN)) gW)))),.inBlock 2,.inBlock 1,.inLoop gL,.inBlock 0] by unfold gSw;rw [←eGS]]
 refine goesI_seq (dt_idle _ _) ?_
 refine goesI_plain (z:=zn) (wr:=true) (L:=LT) (I:=NoRow Ch) hE fineT noRow_keeps (fun v v' w w' es hi hr ho he=>dt_of_z v v' w w' es hi hr ho he) hvw fine_g7 hA.2.1 (by simp [base]) hn (Q:=fun a w'=>Fl 62 [(33,.bool true),(0,Pt kp 0),(1,Pt tb 0),(2,F),(6,Pt rb 0),(7,I x),(16,I (R1.stI x))] a∧w'.heap=v.heap∧w'.os=v.os∧w'.output=v.output) (fun τ=>g7_wp (v:=onTape v τ 0) hA (by rw [hx];rfl)) ?_
 rintro a v1 w1 ⟨hA,q1,q2,q3⟩ r1 n1 -
 have g1:Grows v v1:=⟨by rw [q1];exact Nat.le_refl _,fun b _=>by rw [q1],q2,q3⟩
 refine goesI_cond (dt_idle _ _) (t:=true) (hA.at 33 _ (by simp)) ?_
 simp only [if_true,if_false,Bool.false_eq_true]
 have hA:Fl 62 [(0,Pt kp 0),(1,Pt tb 0),(2,F),(6,Pt rb 0),(7,I x),(16,I (R1.stI x))] a:=hA.sub (by simp)
 refine goesI_seq (dt_idle _ _) ?_
 refine g8_pre (main:=main) (F:=F) (rb:=rb) kp tb cb x (hA.sub (l':=[(0,Pt kp 0),(1,Pt tb 0),(2,F),(6,Pt rb 0),(7,I x)]) (by simp)) _ cs (flds_grows hF g1) (g1.cell h1) r1 n1 (fun v2 w2 a2 o ho hw hA2 r2 n2 g2=>?_)
 have g3:=gtrans g1 g2
 refine goesI_into (f:=73) (fn:=Tryd.f73) (args:=#[Pt cb 0,Pt tb 0]) (dt_idle _ _) ho (hw _) (by simp [base]) (op_at (p:=.call { callee:=.value (.func 73),args:=#[.tmp 41,.tmp 42],argTypes:=#[116,48] }) (by kernel_rfl) ho) (by simp only [List.map_toArray,List.map_cons,List.map_nil];rw [hA2.at 41 (Pt cb 0) (by simp),hA2.at 42 (Pt tb 0) (by simp)]) Tryd.func73 (by kernel_rfl) rfl ?_
 refine free17 y _ ho r2 n2 (hm.grows g3) (fun v' w' r' n' f'=>?_) _ rfl
 rw [dst_at (p:=some 43) (by kernel_rfl) ho]
 exact hk _ v2 v' w' (hA2.sub (by simp)) r' n' g3 f'
theorem fget_new {Ch:Nat→Prop} {Stop:Goroutine→World→Prop} {main:Bool} {v w:World} {cb kp rb tb i:Nat} {F:Value} {x:Int} (hx:R1.stI x=0) (hF:R1.Flds v) (h0:v.cell? ⟨kp,0,none⟩=some (Pt cb 0)) (hid:v.cell? ⟨tb,1,none⟩=some (I i)) {a:Act} (hA:Fl 62 [(0,Pt kp 0),(1,Pt tb 0),(2,F),(6,Pt rb 0),(7,I x),(16,I (R1.stI x))] a) (cs:List Frame) (hvw:Rel zn v w) (hn:NoRow Ch v) (hm:Fm tb cb x v)
 (hk:∀ a v2 v' w',Fl 62 [(0,Pt kp 0),(1,Pt tb 0),(2,F),(6,Pt rb 0)] a→Rel zn v' w'→NoRow Ch v'→Grows v v2→Fto tb cb (R1.wordI 1 i 0) v2 v'→GoesI Tryd.prog main (DT (ScZ zn) Ch) Stop (G (gTry a (.bool true)) cs) w') :
 GoesI Tryd.prog main (DT (ScZ zn) Ch) Stop (G (gSw a) cs) w:=by
 rw [show gSw a=(base 64).at a [.code (.seq (seq1 gS) (.cond (.tmp 33) (.seq (.region 8 gO8 true) .ret) (.seq (seq1 gE) (.cond (.tmp 45) (.seq (.region 10 gO10 true) (seq2 gN)) gW)))),.inBlock 2,.inBlock 1,.inLoop gL,.inBlock 0] by unfold gSw;rw [←eGS]]
 refine goesI_seq (dt_idle _ _) ?_
 refine goesI_plain (z:=zn) (wr:=true) (L:=LT) (I:=NoRow Ch) hE fineT noRow_keeps (fun v v' w w' es hi hr ho he=>dt_of_z v v' w w' es hi hr ho he) hvw fine_g7 hA.2.1 (by simp [base]) hn (Q:=fun a w'=>Fl 62 [(33,.bool false),(0,Pt kp 0),(1,Pt tb 0),(2,F),(6,Pt rb 0),(7,I x),(16,I (R1.stI x))] a∧w'.heap=v.heap∧w'.os=v.os∧w'.output=v.output) (fun τ=>g7_wp (v:=onTape v τ 0) hA (by rw [hx];rfl)) ?_
 rintro a v1 w1 ⟨hA,q1,q2,q3⟩ r1 n1 -
 have g1:Grows v v1:=⟨by rw [q1];exact Nat.le_refl _,fun b _=>by rw [q1],q2,q3⟩
 refine goesI_cond (dt_idle _ _) (t:=false) (hA.at 33 _ (by simp)) ?_
 simp only [if_true,if_false,Bool.false_eq_true]
 have hA:Fl 62 [(0,Pt kp 0),(1,Pt tb 0),(2,F),(6,Pt rb 0),(7,I x),(16,I (R1.stI x))] a:=hA.sub (by simp)
 refine goesI_seq (dt_idle _ _) ?_
 refine goesI_plain (z:=zn) (wr:=true) (L:=LT) (I:=NoRow Ch) hE fineT noRow_keeps (fun v v' w w' es hi hr ho he=>dt_of_z v v' w w' es hi hr ho he) r1 fine_g9 hA.2.1 (by simp [base]) n1 (Q:=fun a w'=>Fl 62 [(45,.bool true),(0,Pt kp 0),(1,Pt tb 0),(2,F),(6,Pt rb 0),(7,I x),(16,I (R1.stI x))] a∧w'.heap=v1.heap∧w'.os=v1.os∧w'.output=v1.output) (fun τ=>g9_wp (v:=onTape v1 τ 0) hA (by rw [hx];rfl)) ?_
 rintro a v2 w2 ⟨hA,q4,q5,q6⟩ r2 n2 -
 have g2:Grows v v2:=gtrans g1 ⟨by rw [q4];exact Nat.le_refl _,fun b _=>by rw [q4],q5,q6⟩
 refine goesI_cond (dt_idle _ _) (t:=true) (hA.at 45 _ (by simp)) ?_
 simp only [if_true,if_false,Bool.false_eq_true]
 have hA:Fl 62 [(0,Pt kp 0),(1,Pt tb 0),(2,F),(6,Pt rb 0),(7,I x),(16,I (R1.stI x))] a:=hA.sub (by simp)
 refine goesI_seq (dt_idle _ _) ?_
 have c1:v2.cell? ⟨tb,1,none⟩=some (I i):=g2.cell hid
 refine g10_pre (main:=main) (F:=F) (rb:=rb) kp tb cb i x (hA.sub (l':=[(0,Pt kp 0),(1,Pt tb 0),(2,F),(6,Pt rb 0),(7,I x)]) (by simp)) _ cs (flds_grows hF g2) (g2.cell h0) c1 r2 n2 (fun v3 w3 a2 o ho hw hA2 r3 n3 g3=>?_)
 have g4:=gtrans g2 g3
 refine goesI_into (f:=77) (fn:=Tryd.f77) (args:=#[Pt cb 0,Pt tb 0,I x,I (R1.wordI 1 i 0)]) (dt_idle _ _) ho (hw _) (by simp [base]) (op_at (p:=.call { callee:=.value (.func 77),args:=#[.tmp 50,.tmp 51,.tmp 52,.tmp 55],argTypes:=#[116,48,3,3] }) (by kernel_rfl) ho) (by simp only [List.map_toArray,List.map_cons,List.map_nil];rw [hA2.at 50 (Pt cb 0) (by simp),hA2.at 51 (Pt tb 0) (by simp),hA2.at 52 (I x) (by simp),hA2.at 55 (I (R1.wordI 1 i 0)) (by simp)]) Tryd.func77 (by kernel_rfl) rfl ?_
 refine free14 x (R1.wordI 1 i 0) x _ ho r3 n3 (hm.grows g4) (fun v' w' r' n' f'=>?_) _ rfl
 rw [dst_at (p:=some 56) (by kernel_rfl) ho,show effCas x (R1.wordI 1 i 0) x=((x,R1.wordI 1 i 0),R1.wordI 1 i 0,.bool true) from if_pos rfl]
 rw [show effCas x (R1.wordI 1 i 0) x=((x,R1.wordI 1 i 0),R1.wordI 1 i 0,.bool true) from if_pos rfl] at f'
 exact hk _ v3 v' w' (hA2.sub (by simp)) r' n' g4 f'
theorem fkeep_store {Ch:Nat→Prop} {Stop:Goroutine→World→Prop} {main:Bool} {v w:World} {cb kp rb tb bx:Nat} {x y:Int} (h1:v.cell? ⟨kp,1,none⟩=some (Pt cb 0)) (hb:v.cell? ⟨bx,1,none⟩=some (I x)) {a:Act} (hA:Fl 29 [(0,Pt kp 0),(1,Pt tb 0),(5,Pt bx 0),(6,Pt rb 0)] a) (cs:List Frame) (hvw:Rel zn v w) (hn:NoRow Ch v) (hm:Fm tb cb y v)
 (hk:∀ a v2 v' w',Fl 29 [(0,Pt kp 0),(1,Pt tb 0),(5,Pt bx 0),(6,Pt rb 0)] a→Rel zn v' w'→NoRow Ch v'→Grows v v2→Fto tb cb x v2 v'→GoesI Tryd.prog main (DT (ScZ zn) Ch) Stop (G (kVal a (.tuple #[])) cs) w') :
 GoesI Tryd.prog main (DT (ScZ zn) Ch) Stop (G ((base 97).at a [.code (.seq (.region 3 kO3 true) k4)]) cs) w:=by
 refine goesI_seq (dt_idle _ _) ?_
 refine k3_pre (main:=main) (rb:=rb) kp tb bx cb x hA _ cs h1 hb hvw hn (fun v2 w2 a2 o ho hw hA2 r2 n2 g2=>?_)
 refine goesI_into (f:=76) (fn:=Tryd.f76) (args:=#[Pt cb 0,Pt tb 0,I x]) (dt_idle _ _) ho (hw _) (by simp [base]) (op_at (p:=.call { callee:=.value (.func 76),args:=#[.tmp 14,.tmp 15,.tmp 17],argTypes:=#[116,48,3] }) (by kernel_rfl) ho) (by simp only [List.map_toArray,List.map_cons,List.map_nil];rw [hA2.at 14 (Pt cb 0) (by simp),hA2.at 15 (Pt tb 0) (by simp),hA2.at 17 (I x) (by simp)]) Tryd.func76 (by kernel_rfl) rfl ?_
 refine free12 x y _ ho r2 n2 (hm.grows g2) (fun v' w' r' n' f'=>?_) _ rfl
 rw [dst_at (p:=some 18) (by kernel_rfl) ho]
 exact hk _ v2 v' w' (hA2.sub (by simp)) r' n' g2 f'
theorem fkeep_word {Ch:Nat→Prop} {Stop:Goroutine→World→Prop} {main:Bool} {v w:World} {cb kp rb tb bx:Nat} {e y:Int} (hF:R1.Flds v) (h0:v.cell? ⟨kp,0,none⟩=some (Pt cb 0)) (hb:v.cell? ⟨bx,0,none⟩=some (I e)) {a:Act} (hA:Fl 29 [(0,Pt kp 0),(1,Pt tb 0),(5,Pt bx 0),(6,Pt rb 0)] a) (r0:Value) (cs:List Frame) (hvw:Rel zn v w) (hn:NoRow Ch v) (hm:Fm tb cb y v)
 (hk:∀ a v2 v' w',Fl 29 [(0,Pt kp 0),(1,Pt tb 0),(5,Pt bx 0),(6,Pt rb 0)] a→Rel zn v' w'→NoRow Ch v'→Grows v v2→Fto tb cb (R1.wordI 2 0 e) v2 v'→GoesI Tryd.prog main (DT (ScZ zn) Ch) Stop (G (kWord a (.tuple #[])) cs) w') :
 GoesI Tryd.prog main (DT (ScZ zn) Ch) Stop (G (kVal a r0) cs) w:=by
 have hA1:Fl 29 [(0,Pt kp 0),(1,Pt tb 0),(5,Pt bx 0),(6,Pt rb 0)] (a.put (some 18) r0):=(fl_put hA (by decide) (by simp)).sub (by simp)
 unfold kVal
 generalize a.put (some 18) r0=a1 at hA1
 refine goesI_regionEnd (dt_idle _ _) ?_
 rw [eK4]
 refine goesI_seq (dt_idle _ _) ?_
 refine k4_pre (main:=main) (rb:=rb) kp tb bx cb e hA1 _ cs hF h0 hb hvw hn (fun v2 w2 a2 o ho hw hA2 r2 n2 g2=>?_)
 refine goesI_into (f:=76) (fn:=Tryd.f76) (args:=#[Pt cb 0,Pt tb 0,I (R1.wordI 2 0 e)]) (dt_idle _ _) ho (hw _) (by simp [base]) (op_at (p:=.call { callee:=.value (.func 76),args:=#[.tmp 22,.tmp 23,.tmp 26],argTypes:=#[116,48,3] }) (by kernel_rfl) ho) (by simp only [List.map_toArray,List.map_cons,List.map_nil];rw [hA2.at 22 (Pt cb 0) (by simp),hA2.at 23 (Pt tb 0) (by simp),hA2.at 26 (I (R1.wordI 2 0 e)) (by simp)]) Tryd.func76 (by kernel_rfl) rfl ?_
 refine free12 (R1.wordI 2 0 e) y _ ho r2 n2 (hm.grows g2) (fun v' w' r' n' f'=>?_) _ rfl
 rw [dst_at (p:=some 27) (by kernel_rfl) ho]
 exact hk _ v2 v' w' (hA2.sub (by simp)) r' n' g2 f'
end Go.Proofs.YtfjjoohflcchnaaDoor.Gen
