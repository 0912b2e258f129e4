/- Of the proof of StackVersions. Part 33 of 34. (Joined, by program, and written short, of: StAw2, GRow, StAw3.) -/
import Derived.Test.YtbbhahigofeacaaDoorStackVersions24
import Derived.Test.YtbbhahigofeacaaDoorStackVersions25
import Derived.Test.YtbbhahigofeacaaDoorStackVersions30
import Derived.Test.YtbbhahigofeacaaDoorStackVersions32
import Derived.BigQuiet
import Derived.Conc.LeavingOf
import Derived.ProofKit
import Derived.OpenShut
import Derived.ChangeOld
import Derived.Lib.SmallJoins
import Derived.Deep.SlicePairs
set_option linter.unusedSimpArgs false
set_option linter.unusedVariables false
set_option maxHeartbeats 4000000
set_option maxRecDepth 100000
namespace Go.Proofs.YtbbhahigofeacaaDoor.Gen
open Go Go.Lift Go.Conc Go.RowKit
open R1 (fstI verI hdI)
noncomputable def hwB:Code:=Tryd.f27.body.getD .skip
noncomputable def y0:Code:=seq1 hwB
noncomputable def y1:Code:=seq1 (seq2 hwB)
noncomputable def y2:Code:=seq1 (seq2 (seq2 hwB))
noncomputable def y3:Code:=seq1 (seq2 (seq2 (seq2 hwB)))
noncomputable def y4:Code:=seq1 (seq2 (seq2 (seq2 (seq2 hwB))))
noncomputable def y5:Code:=seq1 (seq2 (seq2 (seq2 (seq2 (seq2 hwB)))))
noncomputable def y6:Code:=seq1 (seq1 (seq2 (seq2 (seq2 (seq2 (seq2 (seq2 hwB)))))))
noncomputable def y7:Code:=condA (seq2 (seq1 (seq2 (seq2 (seq2 (seq2 (seq2 (seq2 hwB))))))))
noncomputable def y8:Code:=seq1 (seq2 (seq2 (seq2 (seq2 (seq2 (seq2 (seq2 hwB)))))))
noncomputable def y9:Code:=seq1 (seq2 (seq2 (seq2 (seq2 (seq2 (seq2 (seq2 (seq2 hwB))))))))
noncomputable def y10:Code:=seq1 (seq2 (seq2 (seq2 (seq2 (seq2 (seq2 (seq2 (seq2 (seq2 hwB)))))))))
noncomputable def y11:Code:=seq1 (seq2 (seq2 (seq2 (seq2 (seq2 (seq2 (seq2 (seq2 (seq2 (seq2 hwB))))))))))
noncomputable def y12:Code:=seq1 (seq2 (seq2 (seq2 (seq2 (seq2 (seq2 (seq2 (seq2 (seq2 (seq2 (seq2 hwB)))))))))))
noncomputable def y13:Code:=(seq2 (seq2 (seq2 (seq2 (seq2 (seq2 (seq2 (seq2 (seq2 (seq2 (seq2 (seq2 hwB))))))))))))
noncomputable def Y12:Code:=.seq y12 y13
noncomputable def Y11:Code:=.seq y11 Y12
noncomputable def Y10:Code:=.seq y10 Y11
noncomputable def Y9:Code:=.seq y9 Y10
noncomputable def Y8:Code:=.seq y8 Y9
noncomputable def Y4:Code:=.seq y4 (.seq y5 (.seq (.seq y6 (.cond (.tmp 51) y7 .skip)) Y8))
noncomputable def Y3:Code:=.seq y3 Y4
theorem eHwB:hwB=.seq y0 (.seq y1 (.seq y2 Y3)):=by kernel_rfl
theorem fine_y0:fineCode Tryd.prog true LV y0:=fineCode_askS callV extT (by kernel_rfl)
theorem fine_y1:fineCode Tryd.prog true LV y1:=fineCode_askS callV extT (by kernel_rfl)
theorem fine_y4:fineCode Tryd.prog true LV y4:=fineCode_askS callV extT (by kernel_rfl)
theorem fine_y5:fineCode Tryd.prog true LV y5:=fineCode_askS callV extT (by kernel_rfl)
theorem fine_y6:fineCode Tryd.prog true LV y6:=fineCode_askS callV extT (by kernel_rfl)
theorem fine_y12:fineCode Tryd.prog true LV y12:=fineCode_askS callV extT (by kernel_rfl)
theorem fine_y13:fineCode Tryd.prog true LV y13:=fineCode_askS callV extT (by kernel_rfl)
theorem y0_wp {v:World} {a:Act}   (hA:Fl 137 [] a):y0.wp Tryd.prog (fun e a' w'=>e=.normal∧Fl 137 [(0,.bool false)] a'∧w'.heap=v.heap∧w'.os=v.os∧w'.output=v.output) a v:=by
 obtain ⟨hsz,hd,hp⟩:=hA
 obtain ⟨u,rfl,hg⟩:=litN hsz hd
 clear hg hp hsz hd
 unfold y0 hwB Tryd.f27 seq1
 simp only [Option.getD_some,lits,Nat.reduceAdd]
 go_wp2_with fail
 first|refine ⟨?_,rfl,rfl,rfl⟩|refine ⟨?_,rfl,rfl⟩|refine ⟨?_,rfl⟩|skip
 exact ⟨rfl,rfl,by
  intro p hp
  simp only [List.mem_cons,List.not_mem_nil,or_false] at hp
  rcases hp with rfl<;>first|rfl|exact congrArg I (by omega)|exact congrArg Value.bool (by simp)⟩
theorem y1_wp {v:World} {a:Act} (hA:Fl 137 [(0,.bool false)] a) :
 y1.wp Tryd.prog (fun e a w'=>e=.normal∧∃ wb bk sc,Fl 137 [(0,.bool false),(1,Pt wb 0)] a∧IsNew v [] wb bk sc w') a v:=by
 have H7:Hid (Calls Tryd.prog 14 #[.slice none 0 0] v _):=⟨(body70 (v:=v) none 0).calls Tryd.func14 rfl⟩
 obtain ⟨hsz,hd,hp⟩:=hA
 obtain ⟨u,rfl,hg⟩:=litN hsz hd
 have u0:=(hg 0).symm.trans (hp (0,.bool false) (by simp))
 clear hg hp hsz hd
 unfold y1 hwB Tryd.f27 seq2 seq1
 simp only [Option.getD_some,lits,Nat.reduceAdd,u0]
 clear u0
 go_wp2_with (first
  |(go_at_call 14;refine H7.out.mono ?_;rintro e w1 ⟨_,rfl,wb,bk,sc,rfl,hnew⟩))
 exact ⟨wb,⟨rfl,rfl,by
  intro p hp
  simp only [List.mem_cons,List.not_mem_nil,or_false] at hp
  rcases hp with rfl|rfl<;>first|rfl|exact congrArg I (by omega)|exact congrArg Value.bool (by simp)⟩,bk,sc,hnew⟩
theorem y4_wp {v:World} {a:Act} {M:Nat} (hA:Fl 137 [(0,.bool false),(2,.slice (some ⟨M,0,none⟩) 1 1),(3,I 0),(5,I 1)] a) :
 y4.wp Tryd.prog (fun e a w'=>e=.normal∧Fl 137 [(0,.bool false),(2,.slice (some ⟨M,0,none⟩) 1 1),(3,I 0),(5,I 1),(6,Pt v.heap.size 0)] a∧w'.heap=v.heap.push (.cells #[.pointer none,I 0,.chan none,I 0,I 0,I 0,I 0] 87)∧w'.os=v.os∧w'.output=v.output) a v:=by
 have H7:Hid (Calls Tryd.prog 23 #[I 0] v _):=⟨(body11 v 0).calls Tryd.func23 rfl⟩
 obtain ⟨hsz,hd,hp⟩:=hA
 obtain ⟨u,rfl,hg⟩:=litN hsz hd
 have u0:=(hg 0).symm.trans (hp (0,.bool false) (by simp))
 have u2:=(hg 2).symm.trans (hp (2,.slice (some ⟨M,0,none⟩) 1 1) (by simp))
 have u3:=(hg 3).symm.trans (hp (3,I 0) (by simp))
 have u5:=(hg 5).symm.trans (hp (5,I 1) (by simp))
 clear hg hp hsz hd
 unfold y4 hwB Tryd.f27 seq2 seq1
 simp only [Option.getD_some,lits,Nat.reduceAdd,u0,u2,u3,u5]
 clear u0 u2 u3 u5
 go_wp2_with (first
  |(go_at_call 23;refine H7.out.mono ?_;rintro e w1 ⟨_,rfl,rfl,k1,k2,k3⟩))
 first|exact ⟨⟨rfl,rfl,by
  intro p hp
  simp only [List.mem_cons,List.not_mem_nil,or_false] at hp
  rcases hp with rfl|rfl|rfl|rfl|rfl<;>first|rfl|exact congrArg I (by omega)|exact congrArg Value.bool (by simp)⟩,k1,k2,k3⟩|exact ⟨rfl,rfl,by
  intro p hp
  simp only [List.mem_cons,List.not_mem_nil,or_false] at hp
  rcases hp with rfl|rfl|rfl|rfl|rfl<;>first|rfl|exact congrArg I (by omega)|exact congrArg Value.bool (by simp)⟩
theorem y5_wp {v:World} {a:Act} {M tb:Nat} (S:TS) {pk0:Nat→Option Obj} (hpk:Has pk0 v) (hG:GF pk0) (hA:Fl 137 [(0,.bool false),(2,.slice (some ⟨M,0,none⟩) 1 1),(3,I 0),(5,I 1),(6,Pt tb 0)] a) :
 y5.wp Tryd.prog (fun e a w'=>e=.normal∧Fl 137 [(0,.bool false),(2,.slice (some ⟨M,0,none⟩) 1 1),(3,I 0),(5,I 1),(6,Pt tb 0),(7,Pt (v.heap.size+1) 0)] a∧∃ S2 K pk',ObjN v S (sts 1 1) pk' S2 K w'∧StkN pk0 pk' 1 (v.heap.size+1) (v.heap.size+3) (v.heap.size+2) v.heap.size K) a v:=by
 have H7:Hid (Calls Tryd.prog 49 #[.pointer none,I ((1:Nat):Int)] v _):=⟨(stackNewN (S:=S) (ObjN.start hpk) (hG.flds hpk) 1 (by decide)).calls Tryd.func49 rfl⟩
 obtain ⟨hsz,hd,hp⟩:=hA
 obtain ⟨u,rfl,hg⟩:=litN hsz hd
 have u0:=(hg 0).symm.trans (hp (0,.bool false) (by simp))
 have u2:=(hg 2).symm.trans (hp (2,.slice (some ⟨M,0,none⟩) 1 1) (by simp))
 have u3:=(hg 3).symm.trans (hp (3,I 0) (by simp))
 have u5:=(hg 5).symm.trans (hp (5,I 1) (by simp))
 have u6:=(hg 6).symm.trans (hp (6,Pt tb 0) (by simp))
 clear hg hp hsz hd
 unfold y5 hwB Tryd.f27 seq2 seq1
 simp only [Option.getD_some,lits,Nat.reduceAdd,u0,u2,u3,u5,u6]
 clear u0 u2 u3 u5 u6
 go_wp2_with (first
  |(go_at_call 49;refine H7.out.mono ?_;rintro e w1 ⟨_,rfl,rfl,k1⟩))
 first|exact ⟨⟨rfl,rfl,by
  intro p hp
  simp only [List.mem_cons,List.not_mem_nil,or_false] at hp
  rcases hp with rfl|rfl|rfl|rfl|rfl|rfl<;>first|rfl|exact congrArg I (by omega)|exact congrArg Value.bool (by simp)⟩,k1⟩|exact ⟨rfl,rfl,by
  intro p hp
  simp only [List.mem_cons,List.not_mem_nil,or_false] at hp
  rcases hp with rfl|rfl|rfl|rfl|rfl|rfl<;>first|rfl|exact congrArg I (by omega)|exact congrArg Value.bool (by simp)⟩
theorem y6_wp {v:World} {a:Act} {M tb c A0:Nat} (c0:v.cell? ⟨M,0,none⟩=some (.slice (some ⟨A0,0,none⟩) 6 6)) (hA:Fl 137 [(0,.bool false),(2,.slice (some ⟨M,0,none⟩) 1 1),(3,I 0),(5,I 1),(6,Pt tb 0),(7,Pt c 0)] a):y6.wp Tryd.prog (fun e a' w'=>e=.normal∧Fl 137 [(0,.bool false),(2,.slice (some ⟨M,0,none⟩) 1 1),(3,I 0),(5,I 1),(6,Pt tb 0),(7,Pt c 0),(51,.bool false)] a'∧w'.heap=v.heap∧w'.os=v.os∧w'.output=v.output) a v:=by
 obtain ⟨hsz,hd,hp⟩:=hA
 obtain ⟨u,rfl,hg⟩:=litN hsz hd
 have u0:=(hg 0).symm.trans (hp (0,.bool false) (by simp))
 have u2:=(hg 2).symm.trans (hp (2,.slice (some ⟨M,0,none⟩) 1 1) (by simp))
 have u3:=(hg 3).symm.trans (hp (3,I 0) (by simp))
 have u5:=(hg 5).symm.trans (hp (5,I 1) (by simp))
 have u6:=(hg 6).symm.trans (hp (6,Pt tb 0) (by simp))
 have u7:=(hg 7).symm.trans (hp (7,Pt c 0) (by simp))
 clear hg hp hsz hd
 unfold y6 hwB Tryd.f27 seq2 seq1
 simp only [Option.getD_some,lits,Nat.reduceAdd,u0,u2,u3,u5,u6,u7]
 clear u0 u2 u3 u5 u6 u7
 go_wp2_with fail
 first|refine ⟨?_,rfl,rfl,rfl⟩|refine ⟨?_,rfl,rfl⟩|refine ⟨?_,rfl⟩|skip
 exact ⟨rfl,rfl,by
  intro p hp
  simp only [List.mem_cons,List.not_mem_nil,or_false] at hp
  rcases hp with rfl|rfl|rfl|rfl|rfl|rfl|rfl<;>first|rfl|exact congrArg I (by omega)|exact congrArg Value.bool (by simp)⟩
theorem y12_wp {v:World} {a:Act} {M tb c:Nat}  (hA:Fl 137 [(0,.bool false),(2,.slice (some ⟨M,0,none⟩) 1 1),(3,I 0),(5,I 1),(6,Pt tb 0),(7,Pt c 0),(8,I 0),(9,I 80),(10,I 5),(11,I 0),(12,I 0),(13,I 90)] a):y12.wp Tryd.prog (fun e a' w'=>e=.normal∧Fl 137 [(0,.bool false),(2,.slice (some ⟨M,0,none⟩) 1 1),(3,I 0),(5,I 1),(6,Pt tb 0),(7,Pt c 0),(8,I 0),(9,I 80),(10,I 5),(11,I 0),(12,I 0),(13,I 90),(14,.bool true)] a'∧w'.heap=v.heap∧w'.os=v.os∧w'.output=v.output) a v:=by
 obtain ⟨hsz,hd,hp⟩:=hA
 obtain ⟨u,rfl,hg⟩:=litN hsz hd
 have u0:=(hg 0).symm.trans (hp (0,.bool false) (by simp))
 have u2:=(hg 2).symm.trans (hp (2,.slice (some ⟨M,0,none⟩) 1 1) (by simp))
 have u3:=(hg 3).symm.trans (hp (3,I 0) (by simp))
 have u5:=(hg 5).symm.trans (hp (5,I 1) (by simp))
 have u6:=(hg 6).symm.trans (hp (6,Pt tb 0) (by simp))
 have u7:=(hg 7).symm.trans (hp (7,Pt c 0) (by simp))
 have u8:=(hg 8).symm.trans (hp (8,I 0) (by simp))
 have u9:=(hg 9).symm.trans (hp (9,I 80) (by simp))
 have u10:=(hg 10).symm.trans (hp (10,I 5) (by simp))
 have u11:=(hg 11).symm.trans (hp (11,I 0) (by simp))
 have u12:=(hg 12).symm.trans (hp (12,I 0) (by simp))
 have u13:=(hg 13).symm.trans (hp (13,I 90) (by simp))
 clear hg hp hsz hd
 unfold y12 hwB Tryd.f27 seq2 seq1
 simp only [Option.getD_some,lits,Nat.reduceAdd,u0,u2,u3,u5,u6,u7,u8,u9,u10,u11,u12,u13]
 clear u0 u2 u3 u5 u6 u7 u8 u9 u10 u11 u12 u13
 go_wp2_with fail
 first|refine ⟨?_,rfl,rfl,rfl⟩|refine ⟨?_,rfl,rfl⟩|refine ⟨?_,rfl⟩|skip
 exact ⟨rfl,rfl,by
  intro p hp
  simp only [List.mem_cons,List.not_mem_nil,or_false] at hp
  rcases hp with rfl|rfl|rfl|rfl|rfl|rfl|rfl|rfl|rfl|rfl|rfl|rfl|rfl<;>first|rfl|exact congrArg I (by omega)|exact congrArg Value.bool (by simp)⟩
theorem y13_wp {v:World} {a:Act} {M tb c A0:Nat} (c0:v.cell? ⟨M,0,none⟩=some (.slice (some ⟨A0,0,none⟩) 6 6)) (c4:v.cell? ⟨A0,4,none⟩=some (I 80)) (c7:v.cell? ⟨A0,7,none⟩=some (I 8)) (c9:v.cell? ⟨A0,9,none⟩=some (I 7)) (c10:v.cell? ⟨A0,10,none⟩=some (I 90)) (hA:Fl 137 [(0,.bool false),(2,.slice (some ⟨M,0,none⟩) 1 1),(3,I 0),(5,I 1),(6,Pt tb 0),(7,Pt c 0),(8,I 0),(9,I 80),(10,I 5),(11,I 0),(12,I 0),(13,I 90),(14,.bool true)] a):y13.wp Tryd.prog (fun e a' w'=>e=.ret∧Fl 137 [(0,.bool true)] a'∧w'.heap=v.heap∧w'.os=v.os∧w'.output=v.output) a v:=by
 obtain ⟨hsz,hd,hp⟩:=hA
 obtain ⟨u,rfl,hg⟩:=litN hsz hd
 have u0:=(hg 0).symm.trans (hp (0,.bool false) (by simp))
 have u2:=(hg 2).symm.trans (hp (2,.slice (some ⟨M,0,none⟩) 1 1) (by simp))
 have u3:=(hg 3).symm.trans (hp (3,I 0) (by simp))
 have u5:=(hg 5).symm.trans (hp (5,I 1) (by simp))
 have u6:=(hg 6).symm.trans (hp (6,Pt tb 0) (by simp))
 have u7:=(hg 7).symm.trans (hp (7,Pt c 0) (by simp))
 have u8:=(hg 8).symm.trans (hp (8,I 0) (by simp))
 have u9:=(hg 9).symm.trans (hp (9,I 80) (by simp))
 have u10:=(hg 10).symm.trans (hp (10,I 5) (by simp))
 have u11:=(hg 11).symm.trans (hp (11,I 0) (by simp))
 have u12:=(hg 12).symm.trans (hp (12,I 0) (by simp))
 have u13:=(hg 13).symm.trans (hp (13,I 90) (by simp))
 have u14:=(hg 14).symm.trans (hp (14,.bool true) (by simp))
 clear hg hp hsz hd
 unfold y13 hwB Tryd.f27 seq2
 simp only [Option.getD_some,lits,Nat.reduceAdd,u0,u2,u3,u5,u6,u7,u8,u9,u10,u11,u12,u13,u14]
 clear u0 u2 u3 u5 u6 u7 u8 u9 u10 u11 u12 u13 u14
 go_wp2_with fail
 first|refine ⟨?_,rfl,rfl,rfl⟩|refine ⟨?_,rfl,rfl⟩|refine ⟨?_,rfl⟩|skip
 exact ⟨rfl,rfl,by
  intro p hp
  simp only [List.mem_cons,List.not_mem_nil,or_false] at hp
  rcases hp with rfl<;>first|rfl|exact congrArg I (by omega)|exact congrArg Value.bool (by simp)⟩
theorem body36n {v:World} (b:Nat) {p:Option Addr} (c0:v.cell? ⟨b,0,none⟩=some (.slice p 1 1)):Body Tryd.f36 #[.pointer none,.slice (some ⟨b,0,none⟩) 1 1] v (fun r v'=>r=I 1∧v'.heap=v.heap∧v'.os=v.os∧v'.output=v.output):=by
 intro code hb
 obtain rfl:=Option.some.inj hb
 clear hb
 have h57:=(body57 (v:=v) (some ⟨b,0,none⟩) 1 1 (by decide) (fun _=>p) (fun _=>1) (fun _=>1) (fun k hk=>⟨b,0,rfl,by
  obtain rfl:k=0:=by omega
  exact c0⟩)).calls Tryd.func57 rfl
 have H57:Hid (Calls Tryd.prog 57 #[.slice (some ⟨b,0,none⟩) 1 1] v (fun e w'=>e=.returned (I 0)∧w'=v)):=⟨h57.mono (by
  rintro e w' ⟨r,rfl,rfl,⟨⟨k,hk,h⟩,_⟩|⟨_,rfl⟩⟩
  ·exact absurd h (by decide)
  ·exact ⟨rfl,rfl⟩)⟩
 clear h57 c0
 simp only [Tryd.ntmps36,List.size_toArray,List.length_cons,List.length_nil,Nat.reduceAdd,Nat.reduceSub,Array.replicate_succ,Array.replicate_zero,List.push_toArray,List.append_toArray,List.nil_append,List.cons_append]
 go_wp2_with (first
  |(go_at_call 57;refine H57.out.mono ?_;rintro e w1 ⟨rfl,rfl⟩))
 go_ret
 exact ⟨_,rfl,rfl,rfl,rfl,rfl⟩
theorem k280n_wp {v:World} {a:Act} {m:Int} {b:Nat} (hA:Fl 30 [(0,.pointer none),(1,I m),(2,.slice (some ⟨b,0,none⟩) 1 1)] a):k280.wp Tryd.prog (fun e a w'=>e=.normal∧Fl 30 [(0,.pointer none),(1,I m),(2,.slice (some ⟨b,0,none⟩) 1 1),(6,.slice none 0 0),(7,I 0)] a∧w'.heap=v.heap∧w'.os=v.os∧w'.output=v.output) a v:=by
 obtain ⟨hsz,hd,hp⟩:=hA
 obtain ⟨u,rfl,hg⟩:=litN hsz hd
 have u0:=(hg 0).symm.trans (hp (0,.pointer none) (by simp))
 have u1:=(hg 1).symm.trans (hp (1,I m) (by simp))
 have u2:=(hg 2).symm.trans (hp (2,.slice (some ⟨b,0,none⟩) 1 1) (by simp))
 clear hg hp hsz hd
 unfold k280 B28 Tryd.f28 seq1
 simp only [Option.getD_some,lits,Nat.reduceAdd,u0,u1,u2]
 clear u0 u1 u2
 go_wp2_with fail
 first|refine ⟨?_,rfl,rfl,rfl⟩|refine ⟨?_,rfl,rfl⟩|refine ⟨?_,rfl⟩|skip
 exact ⟨rfl,rfl,by
  intro p hp
  simp only [List.mem_cons,List.not_mem_nil,or_false] at hp
  rcases hp with rfl|rfl|rfl|rfl|rfl<;>first|rfl|exact congrArg I (by omega)|exact congrArg Value.bool (by simp)⟩
theorem k281_nil {v:World} {a:Act} {m:Int} {b:Nat} {p:Option Addr} (c0:v.cell? ⟨b,0,none⟩=some (.slice p 1 1)) (hA:Fl 30 [(0,.pointer none),(1,I m),(2,.slice (some ⟨b,0,none⟩) 1 1),(6,.slice none 0 0),(7,I 0)] a) :
 k281.wp Tryd.prog (fun e a w'=>e=.ret∧∃ x,(results Tryd.f28 a.tmps).run Tryd.prog w'=.ok x w'∧x=.tuple #[.slice none 0 0,I 1]∧w'.heap=v.heap∧w'.os=v.os∧w'.output=v.output) a v:=by
 have H19:Hid (Calls Tryd.prog 36 #[.pointer none,.slice (some ⟨b,0,none⟩) 1 1] v _):=⟨(body36n b c0).calls Tryd.func36 rfl⟩
 obtain ⟨hsz,hd,hp⟩:=hA
 obtain ⟨u,rfl,hg⟩:=litN hsz hd
 have u0:=(hg 0).symm.trans (hp (0,.pointer none) (by simp))
 have u1:=(hg 1).symm.trans (hp (1,I m) (by simp))
 have u2:=(hg 2).symm.trans (hp (2,.slice (some ⟨b,0,none⟩) 1 1) (by simp))
 have u6:=(hg 6).symm.trans (hp (6,.slice none 0 0) (by simp))
 have u7:=(hg 7).symm.trans (hp (7,I 0) (by simp))
 clear hg hp hsz hd
 unfold k281 B28 Tryd.f28 seq1 seq2
 simp only [Option.getD_some,lits,Nat.reduceAdd,u0,u1,u2,u6,u7]
 clear u0 u1 u2 u6 u7
 go_wp2_with (first
  |(go_at_call 36;refine H19.out.mono ?_;rintro e w1 ⟨_,rfl,rfl,k1,k2,k3⟩))
 first
  |exact ⟨_,results_tmp2 (t:=6) (u:=7) rfl _ _ _,rfl,k1,k2,k3⟩
  |exact results_tmp2 (t:=6) (u:=7) rfl _ _ _
theorem tplay_nil {Ch:Nat→Prop} {Stop:Goroutine→World→Prop} {main:Bool} {v w:World} (m:Int) (b:Nat) {p:Option Addr} (c0:v.cell? ⟨b,0,none⟩=some (.slice p 1 1)) (cs:List Frame) {bc:Frame} {ac:Act} {ops:Array Oper} {q:Nat} {rest:List Nat} {oc:Oper} {k0:List Item} (hoc:ops[q]? = some oc)
 (hvw:Rel zn v w) (hn:NoRow Ch v)
 (hk:∀ v' w',Rel zn v' w'→NoRow Ch v'→v'.heap=v.heap→v'.os=v.os→v'.output=v.output→GoesI Tryd.prog main (DT (ScZ zn) Ch) Stop (G (bc.at (ac.put oc.dst (.tuple #[.slice none 0 0,I 1])) (.inRegion ops rest :: k0)) cs) w') :
 GoesI Tryd.prog main (DT (ScZ zn) Ch) Stop (G ((base 28).at { tmps:=#[.pointer none,I m,.slice (some ⟨b,0,none⟩) 1 1]++Array.replicate 27 undef,defers:=[] } [.code B28]) (bc.at ac (.inRegion ops (q :: rest) :: k0) :: cs)) w:=by
 rw [eB28]
 have hA0:Fl 30 [(0,.pointer none),(1,I m),(2,.slice (some ⟨b,0,none⟩) 1 1)] { tmps:=#[.pointer none,I m,.slice (some ⟨b,0,none⟩) 1 1]++Array.replicate 27 undef,defers:=[] }:=by
  simp only [Array.replicate_succ,Array.replicate_zero,List.push_toArray,List.append_toArray,List.nil_append,List.cons_append]
  exact ⟨rfl,rfl,by
   intro p hp
   simp only [List.mem_cons,List.not_mem_nil,or_false] at hp
   rcases hp with rfl|rfl|rfl<;>rfl⟩
 refine goesI_seq (dt_idle _ _) ?_
 refine goesI_plain (z:=zn) (wr:=true) (L:=LV) (I:=NoRow Ch) hE fineV noRow_keeps (fun v v' w w' es hi hr ho he=>dt_of_z v v' w w' es hi hr ho he) hvw fine_k280 hA0.2.1 (by simp [base]) hn (Q:=fun a w'=>Fl 30 [(0,.pointer none),(1,I m),(2,.slice (some ⟨b,0,none⟩) 1 1),(6,.slice none 0 0),(7,I 0)] a∧w'.heap=v.heap∧w'.os=v.os∧w'.output=v.output) (fun τ=>k280n_wp (v:=onTape v τ 0) hA0) ?_
 rintro a0 v0 w0 ⟨hB0,e0,o0,u0⟩ hr0 hn0 -
 refine goesI_seq (dt_idle _ _) ?_
 refine goesI_outZ (c:=k281) (f:=28) (fn:=Tryd.f28) (L:=LV) hE fineV hr0 hn0 Tryd.func28 fine_k281 hB0.2.1 hoc (R:=fun r w'=>r=.tuple #[.slice none 0 0,I 1]∧w'.heap=v0.heap∧w'.os=v0.os∧w'.output=v0.output) (fun τ=>k281_nil (v:=onTape v0 τ 0) (p:=p) (by
  rw [World.cell?_of_block (w:=v) (w':=onTape v0 τ 0) (by show v0.heap[_]? = _;rw [e0])];exact c0) hB0) (fun r v' w' hR hr' hn'=>?_)
 obtain ⟨rfl,h1,h2,h3⟩:=hR
 exact hk v' w' hr' hn' (h1.trans e0) (h2.trans o0) (h3.trans u0)
theorem taw_y8 {Ch:Nat→Prop} {Stop:Goroutine→World→Prop} {main:Bool} {v w:World} {M c s sb rb tb B:Nat} {kb:List Nat} {h0 nx us hd vl lk:Int} {a:Act} {cs:List Frame} (hx:fstI h0=((0:Nat):Int)+1) (hvw:Rel zn v w) (hn:NoRow Ch v) (h:Fst 1 c s sb rb tb kb B [h0,nx,us,hd,vl,lk] v) (hB:B≤v.heap.size) (hA:Fl 137 [(0,.bool false),(2,.slice (some ⟨M,0,none⟩) 1 1),(3,I 0),(5,I 1),(6,Pt tb 0),(7,Pt c 0)] a)
 (hk:∀ a' v' w',Rel zn v' w'→NoRow Ch v'→Fst 1 c s sb rb tb kb B [hdI nx (verI h0+1),nx,1,hdI 1 (verI hd+1),5,fstI hd] v'→Fk B v v'→Fl 137 [(0,.bool false),(2,.slice (some ⟨M,0,none⟩) 1 1),(3,I 0),(5,I 1),(6,Pt tb 0),(7,Pt c 0),(8,I 0)] a'→GoesI Tryd.prog main (DT (ScZ zn) Ch) Stop (G ((base 27).at a' [.code Y9]) cs) w') :
 GoesI Tryd.prog main (DT (ScZ zn) Ch) Stop (G ((base 27).at a [.code (.seq y8 Y9)]) cs) w:=by
 obtain ⟨hsz,hdf,hpp⟩:=hA
 obtain ⟨u,rfl,hg⟩:=litN hsz hdf
 have u0:=(hg 0).symm.trans (hpp (0,.bool false) (by simp))
 have u2:=(hg 2).symm.trans (hpp (2,.slice (some ⟨M,0,none⟩) 1 1) (by simp))
 have u3:=(hg 3).symm.trans (hpp (3,I 0) (by simp))
 have u5:=(hg 5).symm.trans (hpp (5,I 1) (by simp))
 have u6:=(hg 6).symm.trans (hpp (6,Pt tb 0) (by simp))
 have u7:=(hg 7).symm.trans (hpp (7,Pt c 0) (by simp))
 clear hg hpp hsz hdf
 have HA:Hid (Rel zn v w∧NoRow Ch v):=⟨hvw,hn⟩
 clear hvw hn
 refine goesI_seq (dt_idle _ _) ?_
 generalize hT:Y9=TT at hk ⊢
 unfold y8 hwB Tryd.f27 seq2 seq1
 simp only [Option.getD_some,lits,Nat.reduceAdd,u0,u2,u3,u5,u6,u7]
 clear u0 u2 u3 u5 u6 u7 hT
 refine goesI_region (dt_idle _ _) ?_
 simp only [List.size_toArray,List.length_cons,List.length_nil,Nat.reduceAdd,Nat.zero_add,List.range,List.range.loop]
 iterate 2
  (refine goesI_oper rfl rfl (by decide) (fun d K hK=>?_)
   go_simp
   refine hK _ _ ⟨dt_reads (fun e he=>?_),GoesI.at ?_ d⟩
   ·have hm:=mem_listed he
    simp [go_sem, *] at hm
    try exact ⟨_,_,hm⟩
    try (rcases hm with rfl|rfl<;>exact ⟨_,_,rfl⟩)
   clear hK K)
 refine goesI_into (f:=50) (fn:=Tryd.f50) (args:=#[Pt c 0,Pt tb 0,I 5]) (dt_idle _ _) rfl rfl (by decide) rfl (by simp [Act.eval]) Tryd.func50 (by decide) rfl ?_
 refine fpush 5 hx h hB cs rfl HA.out.1 HA.out.2 (fun v2 w2 r2 n2 h2 k2=>?_) _ rfl
 have HK:Hid (∀ a',Fl 137 [(0,.bool false),(2,.slice (some ⟨M,0,none⟩) 1 1),(3,I 0),(5,I 1),(6,Pt tb 0),(7,Pt c 0),(8,I 0)] a'→GoesI Tryd.prog main (DT (ScZ zn) Ch) Stop (G ((base 27).at a' [.code TT]) cs) w2):=⟨fun a' h=>hk a' v2 w2 r2 n2 h2 k2 h⟩
 clear hk h r2 n2 HA h2 k2 hB
 iterate 1
  (refine goesI_oper rfl rfl (by decide) (fun d K hK=>?_)
   go_simp
   refine hK _ _ ⟨dt_reads (fun e he=>?_),GoesI.at ?_ d⟩
   ·have hm:=mem_listed he
    simp [go_sem, *] at hm
    try exact ⟨_,_,hm⟩
    try (rcases hm with rfl|rfl<;>exact ⟨_,_,rfl⟩)
   clear hK K)
 refine goesI_regionEnd (dt_idle _ _) ?_
 exact HK.out _ ⟨rfl,rfl,by
  intro p hp
  simp only [List.mem_cons,List.not_mem_nil,or_false] at hp
  rcases hp with rfl|rfl|rfl|rfl|rfl|rfl|rfl<;>rfl⟩
theorem taw_y9 {Ch:Nat→Prop} {Stop:Goroutine→World→Prop} {main:Bool} {v w:World} {M c s sb rb tb B:Nat} {kb:List Nat} {h0 nx us hd vl lk:Int} {a:Act} {cs:List Frame} (hx:fstI h0=0) (hvw:Rel zn v w) (hn:NoRow Ch v) (h:Fst 1 c s sb rb tb kb B [h0,nx,us,hd,vl,lk] v) (hB:B≤v.heap.size) (hA:Fl 137 [(0,.bool false),(2,.slice (some ⟨M,0,none⟩) 1 1),(3,I 0),(5,I 1),(6,Pt tb 0),(7,Pt c 0),(8,I 0)] a)
 (hk:∀ a' v' w',Rel zn v' w'→NoRow Ch v'→Fst 1 c s sb rb tb kb B [h0,nx,us,hd,vl,lk] v'→Fk B v v'→Fl 137 [(0,.bool false),(2,.slice (some ⟨M,0,none⟩) 1 1),(3,I 0),(5,I 1),(6,Pt tb 0),(7,Pt c 0),(8,I 0),(9,I 80)] a'→GoesI Tryd.prog main (DT (ScZ zn) Ch) Stop (G ((base 27).at a' [.code Y10]) cs) w') :
 GoesI Tryd.prog main (DT (ScZ zn) Ch) Stop (G ((base 27).at a [.code (.seq y9 Y10)]) cs) w:=by
 obtain ⟨hsz,hdf,hpp⟩:=hA
 obtain ⟨u,rfl,hg⟩:=litN hsz hdf
 have u0:=(hg 0).symm.trans (hpp (0,.bool false) (by simp))
 have u2:=(hg 2).symm.trans (hpp (2,.slice (some ⟨M,0,none⟩) 1 1) (by simp))
 have u3:=(hg 3).symm.trans (hpp (3,I 0) (by simp))
 have u5:=(hg 5).symm.trans (hpp (5,I 1) (by simp))
 have u6:=(hg 6).symm.trans (hpp (6,Pt tb 0) (by simp))
 have u7:=(hg 7).symm.trans (hpp (7,Pt c 0) (by simp))
 have u8:=(hg 8).symm.trans (hpp (8,I 0) (by simp))
 clear hg hpp hsz hdf
 have HA:Hid (Rel zn v w∧NoRow Ch v):=⟨hvw,hn⟩
 clear hvw hn
 refine goesI_seq (dt_idle _ _) ?_
 generalize hT:Y10=TT at hk ⊢
 unfold y9 hwB Tryd.f27 seq2 seq1
 simp only [Option.getD_some,lits,Nat.reduceAdd,u0,u2,u3,u5,u6,u7,u8]
 clear u0 u2 u3 u5 u6 u7 u8 hT
 refine goesI_region (dt_idle _ _) ?_
 simp only [List.size_toArray,List.length_cons,List.length_nil,Nat.reduceAdd,Nat.zero_add,List.range,List.range.loop]
 iterate 2
  (refine goesI_oper rfl rfl (by decide) (fun d K hK=>?_)
   go_simp
   refine hK _ _ ⟨dt_reads (fun e he=>?_),GoesI.at ?_ d⟩
   ·have hm:=mem_listed he
    simp [go_sem, *] at hm
    try exact ⟨_,_,hm⟩
    try (rcases hm with rfl|rfl<;>exact ⟨_,_,rfl⟩)
   clear hK K)
 refine goesI_into (f:=50) (fn:=Tryd.f50) (args:=#[Pt c 0,Pt tb 0,I 6]) (dt_idle _ _) rfl rfl (by decide) rfl (by simp [Act.eval]) Tryd.func50 (by decide) rfl ?_
 refine fpush_full 6 hx h hB cs rfl HA.out.1 HA.out.2 (fun v2 w2 r2 n2 h2 k2=>?_) _ rfl
 have HK:Hid (∀ a',Fl 137 [(0,.bool false),(2,.slice (some ⟨M,0,none⟩) 1 1),(3,I 0),(5,I 1),(6,Pt tb 0),(7,Pt c 0),(8,I 0),(9,I 80)] a'→GoesI Tryd.prog main (DT (ScZ zn) Ch) Stop (G ((base 27).at a' [.code TT]) cs) w2):=⟨fun a' h=>hk a' v2 w2 r2 n2 h2 k2 h⟩
 clear hk h r2 n2 HA h2 k2 hB
 iterate 1
  (refine goesI_oper rfl rfl (by decide) (fun d K hK=>?_)
   go_simp
   refine hK _ _ ⟨dt_reads (fun e he=>?_),GoesI.at ?_ d⟩
   ·have hm:=mem_listed he
    simp [go_sem, *] at hm
    try exact ⟨_,_,hm⟩
    try (rcases hm with rfl|rfl<;>exact ⟨_,_,rfl⟩)
   clear hK K)
 refine goesI_regionEnd (dt_idle _ _) ?_
 exact HK.out _ ⟨rfl,rfl,by
  intro p hp
  simp only [List.mem_cons,List.not_mem_nil,or_false] at hp
  rcases hp with rfl|rfl|rfl|rfl|rfl|rfl|rfl|rfl<;>rfl⟩
theorem taw_y10 {Ch:Nat→Prop} {Stop:Goroutine→World→Prop} {main:Bool} {v w:World} {M c s sb rb tb B:Nat} {kb:List Nat} {h0 nx us hd vl lk:Int} {a:Act} {cs:List Frame} (hx:fstI hd=((0:Nat):Int)+1) (hus:us=1) (hvw:Rel zn v w) (hn:NoRow Ch v) (h:Fst 1 c s sb rb tb kb B [h0,nx,us,hd,vl,lk] v) (hB:B≤v.heap.size) (hA:Fl 137 [(0,.bool false),(2,.slice (some ⟨M,0,none⟩) 1 1),(3,I 0),(5,I 1),(6,Pt tb 0),(7,Pt c 0),(8,I 0),(9,I 80)] a)
 (hk:∀ a' v' w',Rel zn v' w'→NoRow Ch v'→Fst 1 c s sb rb tb kb B [hdI 1 (verI h0+1),fstI h0,0,hdI lk (verI hd+1),vl,lk] v'→Fk B v v'→Fl 137 [(0,.bool false),(2,.slice (some ⟨M,0,none⟩) 1 1),(3,I 0),(5,I 1),(6,Pt tb 0),(7,Pt c 0),(8,I 0),(9,I 80),(10,I vl),(11,I 0)] a'→GoesI Tryd.prog main (DT (ScZ zn) Ch) Stop (G ((base 27).at a' [.code Y11]) cs) w') :
 GoesI Tryd.prog main (DT (ScZ zn) Ch) Stop (G ((base 27).at a [.code (.seq y10 Y11)]) cs) w:=by
 obtain ⟨hsz,hdf,hpp⟩:=hA
 obtain ⟨u,rfl,hg⟩:=litN hsz hdf
 have u0:=(hg 0).symm.trans (hpp (0,.bool false) (by simp))
 have u2:=(hg 2).symm.trans (hpp (2,.slice (some ⟨M,0,none⟩) 1 1) (by simp))
 have u3:=(hg 3).symm.trans (hpp (3,I 0) (by simp))
 have u5:=(hg 5).symm.trans (hpp (5,I 1) (by simp))
 have u6:=(hg 6).symm.trans (hpp (6,Pt tb 0) (by simp))
 have u7:=(hg 7).symm.trans (hpp (7,Pt c 0) (by simp))
 have u8:=(hg 8).symm.trans (hpp (8,I 0) (by simp))
 have u9:=(hg 9).symm.trans (hpp (9,I 80) (by simp))
 clear hg hpp hsz hdf
 have HA:Hid (Rel zn v w∧NoRow Ch v):=⟨hvw,hn⟩
 clear hvw hn
 refine goesI_seq (dt_idle _ _) ?_
 generalize hT:Y11=TT at hk ⊢
 unfold y10 hwB Tryd.f27 seq2 seq1
 simp only [Option.getD_some,lits,Nat.reduceAdd,u0,u2,u3,u5,u6,u7,u8,u9]
 clear u0 u2 u3 u5 u6 u7 u8 u9 hT
 refine goesI_region (dt_idle _ _) ?_
 simp only [List.size_toArray,List.length_cons,List.length_nil,Nat.reduceAdd,Nat.zero_add,List.range,List.range.loop]
 iterate 2
  (refine goesI_oper rfl rfl (by decide) (fun d K hK=>?_)
   go_simp
   refine hK _ _ ⟨dt_reads (fun e he=>?_),GoesI.at ?_ d⟩
   ·have hm:=mem_listed he
    simp [go_sem, *] at hm
    try exact ⟨_,_,hm⟩
    try (rcases hm with rfl|rfl<;>exact ⟨_,_,rfl⟩)
   clear hK K)
 refine goesI_into (f:=51) (fn:=Tryd.f51) (args:=#[Pt c 0,Pt tb 0]) (dt_idle _ _) rfl rfl (by decide) rfl (by simp [Act.eval]) Tryd.func51 (by decide) rfl ?_
 refine fpop hx hus h hB cs rfl HA.out.1 HA.out.2 (fun v2 w2 r2 n2 h2 k2=>?_) _ rfl
 have HK:Hid (∀ a',Fl 137 [(0,.bool false),(2,.slice (some ⟨M,0,none⟩) 1 1),(3,I 0),(5,I 1),(6,Pt tb 0),(7,Pt c 0),(8,I 0),(9,I 80),(10,I vl),(11,I 0)] a'→GoesI Tryd.prog main (DT (ScZ zn) Ch) Stop (G ((base 27).at a' [.code TT]) cs) w2):=⟨fun a' h=>hk a' v2 w2 r2 n2 h2 k2 h⟩
 clear hk h r2 n2 HA h2 k2 hB
 iterate 5
  (refine goesI_oper rfl rfl (by decide) (fun d K hK=>?_)
   go_simp
   refine hK _ _ ⟨dt_reads (fun e he=>?_),GoesI.at ?_ d⟩
   ·have hm:=mem_listed he
    simp [go_sem, *] at hm
    try exact ⟨_,_,hm⟩
    try (rcases hm with rfl|rfl<;>exact ⟨_,_,rfl⟩)
   clear hK K)
 refine goesI_regionEnd (dt_idle _ _) ?_
 exact HK.out _ ⟨rfl,rfl,by
  intro p hp
  simp only [List.mem_cons,List.not_mem_nil,or_false] at hp
  rcases hp with rfl|rfl|rfl|rfl|rfl|rfl|rfl|rfl|rfl|rfl<;>rfl⟩
theorem taw_y11 {Ch:Nat→Prop} {Stop:Goroutine→World→Prop} {main:Bool} {v w:World} {M c s sb rb tb B:Nat} {kb:List Nat} {h0 nx us hd vl lk:Int} {a:Act} {cs:List Frame} (hx:fstI hd=0) (hvw:Rel zn v w) (hn:NoRow Ch v) (h:Fst 1 c s sb rb tb kb B [h0,nx,us,hd,vl,lk] v) (hB:B≤v.heap.size) (hA:Fl 137 [(0,.bool false),(2,.slice (some ⟨M,0,none⟩) 1 1),(3,I 0),(5,I 1),(6,Pt tb 0),(7,Pt c 0),(8,I 0),(9,I 80),(10,I 5),(11,I 0)] a)
 (hk:∀ a' v' w',Rel zn v' w'→NoRow Ch v'→Fst 1 c s sb rb tb kb B [h0,nx,us,hd,vl,lk] v'→Fk B v v'→Fl 137 [(0,.bool false),(2,.slice (some ⟨M,0,none⟩) 1 1),(3,I 0),(5,I 1),(6,Pt tb 0),(7,Pt c 0),(8,I 0),(9,I 80),(10,I 5),(11,I 0),(12,I 0),(13,I 90)] a'→GoesI Tryd.prog main (DT (ScZ zn) Ch) Stop (G ((base 27).at a' [.code Y12]) cs) w') :
 GoesI Tryd.prog main (DT (ScZ zn) Ch) Stop (G ((base 27).at a [.code (.seq y11 Y12)]) cs) w:=by
 obtain ⟨hsz,hdf,hpp⟩:=hA
 obtain ⟨u,rfl,hg⟩:=litN hsz hdf
 have u0:=(hg 0).symm.trans (hpp (0,.bool false) (by simp))
 have u2:=(hg 2).symm.trans (hpp (2,.slice (some ⟨M,0,none⟩) 1 1) (by simp))
 have u3:=(hg 3).symm.trans (hpp (3,I 0) (by simp))
 have u5:=(hg 5).symm.trans (hpp (5,I 1) (by simp))
 have u6:=(hg 6).symm.trans (hpp (6,Pt tb 0) (by simp))
 have u7:=(hg 7).symm.trans (hpp (7,Pt c 0) (by simp))
 have u8:=(hg 8).symm.trans (hpp (8,I 0) (by simp))
 have u9:=(hg 9).symm.trans (hpp (9,I 80) (by simp))
 have u10:=(hg 10).symm.trans (hpp (10,I 5) (by simp))
 have u11:=(hg 11).symm.trans (hpp (11,I 0) (by simp))
 clear hg hpp hsz hdf
 have HA:Hid (Rel zn v w∧NoRow Ch v):=⟨hvw,hn⟩
 clear hvw hn
 refine goesI_seq (dt_idle _ _) ?_
 generalize hT:Y12=TT at hk ⊢
 unfold y11 hwB Tryd.f27 seq2 seq1
 simp only [Option.getD_some,lits,Nat.reduceAdd,u0,u2,u3,u5,u6,u7,u8,u9,u10,u11]
 clear u0 u2 u3 u5 u6 u7 u8 u9 u10 u11 hT
 refine goesI_region (dt_idle _ _) ?_
 simp only [List.size_toArray,List.length_cons,List.length_nil,Nat.reduceAdd,Nat.zero_add,List.range,List.range.loop]
 iterate 2
  (refine goesI_oper rfl rfl (by decide) (fun d K hK=>?_)
   go_simp
   refine hK _ _ ⟨dt_reads (fun e he=>?_),GoesI.at ?_ d⟩
   ·have hm:=mem_listed he
    simp [go_sem, *] at hm
    try exact ⟨_,_,hm⟩
    try (rcases hm with rfl|rfl<;>exact ⟨_,_,rfl⟩)
   clear hK K)
 refine goesI_into (f:=51) (fn:=Tryd.f51) (args:=#[Pt c 0,Pt tb 0]) (dt_idle _ _) rfl rfl (by decide) rfl (by simp [Act.eval]) Tryd.func51 (by decide) rfl ?_
 refine fpop_empty hx h hB cs rfl HA.out.1 HA.out.2 (fun v2 w2 r2 n2 h2 k2=>?_) _ rfl
 have HK:Hid (∀ a',Fl 137 [(0,.bool false),(2,.slice (some ⟨M,0,none⟩) 1 1),(3,I 0),(5,I 1),(6,Pt tb 0),(7,Pt c 0),(8,I 0),(9,I 80),(10,I 5),(11,I 0),(12,I 0),(13,I 90)] a'→GoesI Tryd.prog main (DT (ScZ zn) Ch) Stop (G ((base 27).at a' [.code TT]) cs) w2):=⟨fun a' h=>hk a' v2 w2 r2 n2 h2 k2 h⟩
 clear hk h r2 n2 HA h2 k2 hB
 iterate 5
  (refine goesI_oper rfl rfl (by decide) (fun d K hK=>?_)
   go_simp
   refine hK _ _ ⟨dt_reads (fun e he=>?_),GoesI.at ?_ d⟩
   ·have hm:=mem_listed he
    simp [go_sem, *] at hm
    try exact ⟨_,_,hm⟩
    try (rcases hm with rfl|rfl<;>exact ⟨_,_,rfl⟩)
   clear hK K)
 refine goesI_regionEnd (dt_idle _ _) ?_
 exact HK.out _ ⟨rfl,rfl,by
  intro p hp
  simp only [List.mem_cons,List.not_mem_nil,or_false] at hp
  rcases hp with rfl|rfl|rfl|rfl|rfl|rfl|rfl|rfl|rfl|rfl|rfl|rfl<;>rfl⟩
end Go.Proofs.YtbbhahigofeacaaDoor.Gen
namespace Go.Proofs.YtbbhahigofeacaaDoor.Gen
open Go Go.Lift Go.Conc
open Go.ChangeShapes Go.WideShapes Go.ChangeAt Go.RowKit Go.Joins Go.Deep
section
variable {H:Type} {enc:TypeId×Value→H} {w:World} {held:Bool}
end
theorem _root_.Go.Proofs.YtbbhahigofeacaaDoor.Grows.frame {W w':World} (h:Grows W w') (may:MemPlace→Prop):W.keptBut w' may:=by
 refine ⟨h.os,h.output,fun i hi=>?_⟩
 rw [h.old i hi]
 split<;>simp_all
theorem _root_.Go.Proofs.YtbbhahigofeacaaDoor.Grows.sameP {W w':World} (h:Grows W w') {p:MemPlace} (hp:p.block<W.heap.size):W.sameAt w' p:=by
 cases p with
 |cell b o=>exact World.cell?_of_block (w:=W) (h.old b hp)
 |map b=>exact h.old b hp
theorem laidOut5:laidOutB Tryd.prog=true:=by kernel_rfl
theorem _root_.Go.Proofs.YtbbhahigofeacaaDoor.Grows.trod {H:Type} {enc:TypeId×Value→H} {t:TypeId} (hr:Tryd.prog.readableRec t=true) (hrow:t<Tryd.prog.types.size) {W W':World} {v:Value} {d:DataW H} {ps:List MemPlace}
 (h:DataW.Trod enc Tryd.prog W 0 (fun _=>true) true t v d ps) (hb:Grows W W') (hlt:∀ x∈ps,x.block<W.heap.size) :
 DataW.Trod enc Tryd.prog W' 0 (fun b=>decide (b<W.heap.size)) true t v d ps :=
 WideElems.Trod_stays laidOut5 hr hrow h (fun x hx=>hb.sameP (hlt x hx)) (fun x hx=>by simpa using hlt x hx)
end Go.Proofs.YtbbhahigofeacaaDoor.Gen
namespace Go.Proofs.YtbbhahigofeacaaDoor.Gen
open Go Go.Lift Go.Conc Go.RowKit
open Go.ConcN (upd upd_same upd_ne)
open R1 (fstI verI hdI)
structure Gl (w:World):Prop where
 a:∃ c t f,w.heap[0]? = some (.cells c t f)∧c[0]? = some (I 0)∧c[1]? = some (I 32)
 b:∃ c t f,w.heap[1]? = some (.cells c t f)∧c[0]? = some (I 32)∧c[1]? = some (I 30)
 c:∃ c t f,w.heap[2]? = some (.cells c t f)∧c[0]? = some (I 0)∧c[1]? = some (I 32)
 d:∃ c t f,w.heap[3]? = some (.cells c t f)∧c[0]? = some (I 32)∧c[1]? = some (I 30)
def glP (w:World) (b:Nat):Option Obj:=if b<4 then w.heap[b]? else none
theorem glP_lt {w:World} {b:Nat} (h:glP w b≠none):b<4:=by
 unfold glP at h
 split at h
 ·assumption
 ·exact absurd rfl h
theorem glP_has (w:World):Has (glP w) w:=fun b o h=>by
 unfold glP at h
 split at h
 ·exact h
 ·cases h
theorem Gl.gf {w:World} (h:Gl w):GF (glP w):=⟨h.a,h.b,h.c,h.d⟩
theorem Gl.row {w:World} (h:Gl w):∀ b o,glP w b=some o→∃ c e f,o=.cells c e f:=fun b o hb=>by
 have hlt:=glP_lt (w:=w) (b:=b) (by rw [hb];simp)
 have hh:=glP_has w b o hb
 match b,hlt with
 |0,_=>obtain ⟨c,t,f,g,_⟩:=h.a;rw [g] at hh;cases hh;exact ⟨_,_,_,rfl⟩
 |1,_=>obtain ⟨c,t,f,g,_⟩:=h.b;rw [g] at hh;cases hh;exact ⟨_,_,_,rfl⟩
 |2,_=>obtain ⟨c,t,f,g,_⟩:=h.c;rw [g] at hh;cases hh;exact ⟨_,_,_,rfl⟩
 |3,_=>obtain ⟨c,t,f,g,_⟩:=h.d;rw [g] at hh;cases hh;exact ⟨_,_,_,rfl⟩
theorem Gl.size {w:World} (h:Gl w):4≤w.heap.size:=by
 obtain ⟨c,t,f,g,_⟩:=h.d
 have:=(Array.getElem?_eq_some_iff.1 g).1
 omega
theorem Gl.grow {w w':World} (h:Gl w) (g:∀ b,b<w.heap.size→w'.heap[b]? = w.heap[b]?):Gl w':=by
 have hs:=h.size
 have e:=fun b (hb:b<4)=>g b (by omega)
 exact ⟨by rw [e 0 (by omega)];exact h.a,by rw [e 1 (by omega)];exact h.b,by rw [e 2 (by omega)];exact h.c,by rw [e 3 (by omega)];exact h.d⟩
theorem taw_y3 {Ch:Nat→Prop} {Stop:Goroutine→World→Prop} {main:Bool} {v w:World} {M:Nat} {a:Act} {cs:List Frame} (hvw:Rel zn v w) (hn:NoRow Ch v) (hA:Fl 137 [(0,.bool false),(2,.slice (some ⟨M,0,none⟩) 1 1),(3,I 0)] a)
 (hk:∀ a' v' w',Rel zn v' w'→NoRow Ch v'→Grows v v'→Fl 137 [(0,.bool false),(2,.slice (some ⟨M,0,none⟩) 1 1),(3,I 0),(5,I 1)] a'→GoesI Tryd.prog main (DT (ScZ zn) Ch) Stop (G ((base 27).at a' [.code Y4]) cs) w') :
 GoesI Tryd.prog main (DT (ScZ zn) Ch) Stop (G ((base 27).at a [.code Y3]) cs) w:=by
 unfold Y3
 obtain ⟨hsz,hd,hpp⟩:=hA
 obtain ⟨u,rfl,hg⟩:=litN hsz hd
 have u0:=(hg 0).symm.trans (hpp (0,.bool false) (by simp))
 have u2:=(hg 2).symm.trans (hpp (2,.slice (some ⟨M,0,none⟩) 1 1) (by simp))
 have u3:=(hg 3).symm.trans (hpp (3,I 0) (by simp))
 clear hg hpp hsz hd
 refine goesI_seq (dt_idle _ _) ?_
 generalize hT:Y4=TT at hk ⊢
 unfold y3 hwB Tryd.f27 seq2 seq1
 simp only [Option.getD_some,lits,Nat.reduceAdd,u0,u2,u3]
 clear u0 u2 u3 hT
 refine goesI_region (dt_idle _ _) ?_
 simp only [List.size_toArray,List.length_cons,List.length_nil,Nat.reduceAdd,Nat.zero_add,List.range,List.range.loop]
 refine goesI_opZ (L:=LV) rfl rfl (by decide) (fineOp_ask callV extT (by kernel_rfl)) hvw hn (v':=v) (x:=.agg #[I 1,I 0,I 0,I 0]) (by go_simp) rfl (fun w2 hr2 hn2=>?_)
 refine goesI_opZ (L:=LV) rfl rfl (by decide) (fineOp_ask callV extT (by kernel_rfl)) hr2 hn2 (v':=v.alloc (.cells #[I 1,I 0,I 0,I 0] 50)) (x:=.slice (some ⟨v.heap.size,0,none⟩) 1 1) (by go_simp) rfl (fun w3 hr3 hn3=>?_)
 refine goesI_opZ (L:=LV) rfl rfl (by decide) (fineOp_ask callV extT (by kernel_rfl)) hr3 hn3 (v':=(v.alloc (.cells #[I 1,I 0,I 0,I 0] 50)).alloc (.cells #[.slice (some ⟨v.heap.size,0,none⟩) 1 1] 45)) (x:=.slice (some ⟨v.heap.size+1,0,none⟩) 1 1) (by go_simp) rfl (fun w4 hr4 hn4=>?_)
 refine goesI_into (f:=28) (fn:=Tryd.f28) (args:=#[.pointer none,I 2,.slice (some ⟨v.heap.size+1,0,none⟩) 1 1]) (dt_idle _ _) rfl rfl (by decide) rfl (by simp [Act.eval,Act.put]) Tryd.func28 (by decide) rfl ?_
 have hb:((v.alloc (.cells #[I 1,I 0,I 0,I 0] 50)).alloc (.cells #[.slice (some ⟨v.heap.size,0,none⟩) 1 1] 45)).heap[v.heap.size+1]? = some (.cells #[.slice (some ⟨v.heap.size,0,none⟩) 1 1] 45):=by
  show ((v.heap.push _).push _)[v.heap.size+1]? = _
  rw [Array.getElem?_push,if_pos (by simp)]
 have gg:Grows v ((v.alloc (.cells #[I 1,I 0,I 0,I 0] 50)).alloc (.cells #[.slice (some ⟨v.heap.size,0,none⟩) 1 1] 45)):=⟨by show _≤((v.heap.push _).push _).size;simp;omega,fun b hb=>by show ((v.heap.push _).push _)[b]? = _;rw [Array.getElem?_push,if_neg (by simp;omega),Array.getElem?_push,if_neg (by omega)],rfl,rfl⟩
 refine tplay_nil 2 (v.heap.size+1) (cell_of hb rfl) cs rfl hr4 hn4 (fun v5 w5 r5 n5 e5 o5 u5=>?_)
 have HK:Hid (∀ a',Fl 137 [(0,.bool false),(2,.slice (some ⟨M,0,none⟩) 1 1),(3,I 0),(5,I 1)] a'→GoesI Tryd.prog main (DT (ScZ zn) Ch) Stop (G ((base 27).at a' [.code TT]) cs) w5):=⟨fun a' h=>hk a' v5 w5 r5 n5 (grow_trans gg (grow_same e5 o5 u5)) h⟩
 clear hk hb gg r5 n5 e5 o5 u5 hr2 hr3 hr4 hn2 hn3 hn4 hvw hn
 iterate 5
  (refine goesI_oper rfl rfl (by decide) (fun d K hK=>?_)
   go_simp
   refine hK _ _ ⟨dt_reads (fun e he=>?_),GoesI.at ?_ d⟩
   ·have hm:=mem_listed he
    simp [go_sem, *] at hm
    try exact ⟨_,_,hm⟩
    try (rcases hm with rfl|rfl<;>exact ⟨_,_,rfl⟩)
   clear hK K)
 refine goesI_regionEnd (dt_idle _ _) ?_
 exact HK.out _ ⟨rfl,rfl,by
  intro p hp
  simp only [List.mem_cons,List.not_mem_nil,or_false] at hp
  rcases hp with rfl|rfl|rfl|rfl<;>rfl⟩
structure Done9 (M A0:Nat) (u:World):Prop where
 m0:u.cell? ⟨M,0,none⟩=some (.slice (some ⟨A0,0,none⟩) 6 6)
 x4:u.cell? ⟨A0,4,none⟩=some (I 80)
 x7:u.cell? ⟨A0,7,none⟩=some (I 8)
 x9:u.cell? ⟨A0,9,none⟩=some (I 7)
 x10:u.cell? ⟨A0,10,none⟩=some (I 90)
theorem Done9.go {M A0:Nat} {u u':World} (h:Done9 M A0 u) (g:∀ b,b<u.heap.size→u'.heap[b]? = u.heap[b]?):Done9 M A0 u':=by
 have hc:∀ (a:Addr) (x:Value),u.cell? a=some x→u'.cell? a=some x:=fun a x ha=>by rw [World.cell?_of_block (w:=u) (w':=u') (g _ (World.block_lt_of_cell? _ _ ha))];exact ha
 exact ⟨hc _ _ h.m0,hc _ _ h.x4,hc _ _ h.x7,hc _ _ h.x9,hc _ _ h.x10⟩
theorem fst_new {v1 v2:World} {S S2:TS} {K:List (Nat×Int)} {pk':Nat→Option Obj} {tb:Nat} (hG:Gl v1) (ht:v1.heap[tb]? = some (.cells #[.pointer none,I 0,.chan none,I 0,I 0,I 0,I 0] 87)) (ho:ObjN v1 S (sts 1 1) pk' S2 K v2) (hs:StkN (glP v1) pk' 1 (v1.heap.size+1) (v1.heap.size+3) (v1.heap.size+2) v1.heap.size K):Fst 1 (v1.heap.size+1) (v1.heap.size+3) (v1.heap.size+2) v1.heap.size tb (K.map (·.1)) v1.heap.size [hdI 1 0,0,0,0,0,0] v2:=by
 have htb:=(Array.getElem?_eq_some_iff.1 ht).1
 have hM:=mineStk 1 #[Pt (v1.heap.size+1) 0] pk' K ⟨by decide,glP v1,_,_,_,_,hG.gf,rfl,hs,ho.vals⟩ ⟨0,0,0,0,0,[],none,0,0,undef,0,0,0,52,#[Pt (v1.heap.size+1) 0],pk',K.map (·.1)⟩ rfl rfl rfl rfl
 have e0:=ho.vals
 have hl:K.length=6:=by have:=congrArg List.length e0;rw [List.length_map,sts_len] at this;exact this
 obtain ⟨c0,q1,q2⟩:=hs.sbox
 obtain ⟨c1,q3,q4⟩:=hs.box
 refine ⟨?_,hG.gf.flds (fun b o hb=>ho.has b o (hs.old b o hb)),cell_of (by rw [ho.old _ htb];exact ht) rfl,fun j cb x hj hx=>?_,ho.nd,fun cb hcb=>?_⟩
 ·have f0:=ho.has _ _ q2
  have f1:=ho.has _ _ q4
  have f2:=ho.has _ _ hs.srow
  have f3:=ho.has _ _ hs.row
  have hkj:∀ j,j<K.length→∃ c,K[j]? = some c∧(K.map (·.1))[j]? = some c.1:=fun j hj=>⟨_,List.getElem?_eq_getElem hj,by rw [List.getElem?_map,List.getElem?_eq_getElem hj];rfl⟩
  refine ⟨⟨⟨c0.1,by rw [List.getElem?_map,q1];rfl,cell_of f0 rfl⟩,cell_of f0 rfl,fun k hk=>?_,fun k hk=>?_⟩,cell_of f1 rfl,⟨c1.1,by unfold hdJ;rw [List.getElem?_map,q3];rfl,cell_of f1 rfl⟩,cell_of f1 rfl,fun k hk=>?_,fun k hk=>?_,by decide⟩
  ·obtain ⟨c,g1,g2⟩:=hkj (1+k*2) (by omega)
   exact ⟨c.1,by unfold nxJ;rw [Nat.mul_comm];exact g2,objC_get f2 (by omega) g1⟩
  ·obtain ⟨c,g1,g2⟩:=hkj (1+(k*2+1)) (by omega)
   exact ⟨c.1,by unfold usJ;rw [show 2+2*k=1+(k*2+1) by omega];exact g2,objC_get f2 (by omega) g1⟩
  ·obtain ⟨c,g1,g2⟩:=hkj (2*1+2+k*2) (by omega)
   exact ⟨c.1,by unfold vlJ;rw [Nat.mul_comm 2 k];exact g2,objC_get f3 (by omega) g1⟩
  ·obtain ⟨c,g1,g2⟩:=hkj (2*1+2+(k*2+1)) (by omega)
   exact ⟨c.1,by unfold lkJ;rw [show 2*1+3+2*k=2*1+2+(k*2+1) by omega];exact g2,objC_get f3 (by omega) g1⟩
 ·rw [List.getElem?_map,Option.map_eq_some_iff] at hj
  obtain ⟨p,h1,rfl⟩:=hj
  have h2:=(ho.cels j p h1).1
  have h3:(sts 1 1)[j]? = some p.2:=by rw [←e0,List.getElem?_map,h1];rfl
  have h4:(sts 1 1)=[hdI 1 0,0,0,0,0,0]:=rfl
  rw [h4] at h3
  rw [hx] at h3
  cases h3
  exact h2
 ·obtain ⟨p,hp,rfl⟩:=List.mem_map.1 hcb
  obtain ⟨j,hj⟩:=List.mem_iff_getElem?.1 hp
  have h2:=ho.cels j p hj
  have h4:=hG.size
  have ne:∀ b o,pk' b=some o→p.1≠b:=fun b o hb e=>by rw [e,hb] at h2;cases h2.2.2
  exact ⟨by omega,ne _ _ q4,ne _ _ q2,ne _ _ hs.srow,ne _ _ hs.row,by omega,h2.2.1⟩
theorem fst_hdV {f x:Int} (h0:0≤f) (h1:f<4294967296):fstI (hdI f (verI x+1))=f:=R1.fst_hd h0 h1 (by have:=R1.verI_in x;omega)
theorem v_hd (f v:Int) (h:0≤f∧f<4294967296) (hv:0≤v∧v<1073741824):verI (hdI f v)=v:=by rw [R1.ver_hd h.1 h.2 hv.1,Int.tmod_eq_emod_of_nonneg hv.1,Int.emod_eq_of_lt hv.1 hv.2]
theorem taw_tail {Ch:Nat→Prop} {Stop:Goroutine→World→Prop} {main:Bool} {v w:World} {M A0:Nat} {a:Act} {cs:List Frame} {bc:Frame} {ac:Act} {ops:Array Oper} {q:Nat} {rest:List Nat} {oc:Oper} {k0:List Item} (hoc:ops[q]? = some oc) (S:TS) (hGl:Gl v) (hvw:Rel zn v w) (hn:NoRow Ch v) (hD:Done9 M A0 v) (hA:Fl 137 [(0,.bool false),(2,.slice (some ⟨M,0,none⟩) 1 1),(3,I 0)] a)
 (hk:∀ v' w',Rel zn v' w'→NoRow Ch v'→Grows v v'→GoesI Tryd.prog main (DT (ScZ zn) Ch) Stop (G (bc.at (ac.put oc.dst (.bool true)) (.inRegion ops rest :: k0)) cs) w') :
 GoesI Tryd.prog main (DT (ScZ zn) Ch) Stop (G ((base 27).at a [.code Y3]) (bc.at ac (.inRegion ops (q :: rest) :: k0) :: cs)) w:=by
 refine taw_y3 hvw hn hA (fun a1 v1 w1 r1 n1 g1 hA1=>?_)
 unfold Y4
 refine goesI_seq (dt_idle _ _) ?_
 refine goesI_plain (z:=zn) (wr:=true) (L:=LV) (I:=NoRow Ch) hE fineV noRow_keeps (fun v v' w w' es hi hr ho he=>dt_of_z v v' w w' es hi hr ho he) r1 fine_y4 hA1.2.1 (by simp [base]) n1 (Q:=fun a w'=>Fl 137 [(0,.bool false),(2,.slice (some ⟨M,0,none⟩) 1 1),(3,I 0),(5,I 1),(6,Pt v1.heap.size 0)] a∧w'.heap=v1.heap.push (.cells #[.pointer none,I 0,.chan none,I 0,I 0,I 0,I 0] 87)∧w'.os=v1.os∧w'.output=v1.output) (fun τ=>y4_wp (v:=onTape v1 τ 0) hA1) ?_
 rintro a2 v2 w2 ⟨hA2,e2,o2,u2⟩ r2 n2 -
 have g2:Grows v1 v2:=grow_push e2 o2 u2
 have G2:Gl v2:=(hGl.grow g1.old).grow g2.old
 have ht2:v2.heap[v1.heap.size]? = some (.cells #[.pointer none,I 0,.chan none,I 0,I 0,I 0,I 0] 87):=by rw [e2];exact Array.getElem?_push_size
 refine goesI_seq (dt_idle _ _) ?_
 refine goesI_plain (z:=zn) (wr:=true) (L:=LV) (I:=NoRow Ch) hE fineV noRow_keeps (fun v v' w w' es hi hr ho he=>dt_of_z v v' w w' es hi hr ho he) r2 fine_y5 hA2.2.1 (by simp [base]) n2 (Q:=fun a w'=>Fl 137 [(0,.bool false),(2,.slice (some ⟨M,0,none⟩) 1 1),(3,I 0),(5,I 1),(6,Pt v1.heap.size 0),(7,Pt (v2.heap.size+1) 0)] a∧∃ S2 K pk',ObjN v2 S (sts 1 1) pk' S2 K w'∧StkN (glP v2) pk' 1 (v2.heap.size+1) (v2.heap.size+3) (v2.heap.size+2) v2.heap.size K) (fun τ=>wp_mono (y5_wp (v:=onTape v2 τ 0) S (glP_has v2) G2.gf hA2) (fun e a w' hq=>⟨hq.1,hq.2.1,by
  obtain ⟨S2,K,pk',ho,hs⟩:=hq.2.2
  exact ⟨S2,K,pk',⟨ho.size,ho.has,ho.vals,ho.cels,ho.nd,ho.old,ho.os,ho.out⟩,hs⟩⟩)) ?_
 rintro a3 v3 w3 ⟨hA3,S2,K,pk',ho,hs⟩ r3 n3 -
 have hF:=fst_new G2 ht2 ho hs
 have g23:Grows v2 v3:=⟨ho.size,ho.old,ho.os,ho.out⟩
 have gv3:Grows v v3:=grow_trans g1 (grow_trans g2 g23)
 have hD3:=hD.go gv3.old
 refine goesI_seq (dt_idle _ _) ?_
 refine goesI_seq (dt_idle _ _) ?_
 refine goesI_plain (z:=zn) (wr:=true) (L:=LV) (I:=NoRow Ch) hE fineV noRow_keeps (fun v v' w w' es hi hr ho he=>dt_of_z v v' w w' es hi hr ho he) r3 fine_y6 hA3.2.1 (by simp [base]) n3 (Q:=fun a w'=>Fl 137 [(0,.bool false),(2,.slice (some ⟨M,0,none⟩) 1 1),(3,I 0),(5,I 1),(6,Pt v1.heap.size 0),(7,Pt (v2.heap.size+1) 0),(51,.bool false)] a∧w'.heap=v3.heap∧w'.os=v3.os∧w'.output=v3.output) (fun τ=>y6_wp (v:=onTape v3 τ 0) hD3.m0 hA3) ?_
 rintro a4 v4 w4 ⟨hA4,e4,o4,u4⟩ r4 n4 -
 refine goesI_cond (dt_idle _ _) (t:=false) (hA4.at 51 (.bool false) (by simp)) ?_
 simp only [if_false,Bool.false_eq_true]
 refine goesI_skip (dt_idle _ _) ?_
 have hA4':Fl 137 [(0,.bool false),(2,.slice (some ⟨M,0,none⟩) 1 1),(3,I 0),(5,I 1),(6,Pt v1.heap.size 0),(7,Pt (v2.heap.size+1) 0)] a4:=hA4.sub (by simp)
 have g34:Grows v3 v4:=grow_same e4 o4 u4
 have hF4:=hF.grow g34
 have hB4:v2.heap.size≤v4.heap.size:=Nat.le_trans g23.size g34.size
 have f1:fstI (hdI 1 0)=((0:Nat):Int)+1:=R1.fst_hd (by decide) (by decide) (by decide)
 unfold Y8
 refine taw_y8 f1 r4 n4 hF4 hB4 hA4' (fun a5 v5 w5 r5 n5 h5 k5 hA5=>?_)
 rw [v_hd 1 0 (by decide) (by decide),R1.verI_zero,R1.fstI_zero] at h5
 have b5:=Nat.le_trans hB4 k5.size
 unfold Y9
 refine taw_y9 (R1.fst_hd (by decide) (by decide) (by decide)) r5 n5 h5 b5 hA5 (fun a6 v6 w6 r6 n6 h6 k6 hA6=>?_)
 have b6:=Nat.le_trans b5 k6.size
 unfold Y10
 refine taw_y10 (R1.fst_hd (by decide) (by decide) (by decide)) rfl r6 n6 h6 b6 hA6 (fun a7 v7 w7 r7 n7 h7 k7 hA7=>?_)
 have b7:=Nat.le_trans b6 k7.size
 unfold Y11
 refine taw_y11 (fst_hdV (by decide) (by decide)) r7 n7 h7 b7 hA7 (fun a8 v8 w8 r8 n8 h8 k8 hA8=>?_)
 have k9:=((k5.trans k6).trans k7).trans k8
 have g8:Grows v v8:=by
  have s2:=g2.size
  have s1:=g1.size
  refine ⟨by have:=gv3.size;have:=g34.size;have:=k9.size;omega,fun b hb=>?_,?_,?_⟩
  ·rw [k9.old b (by omega),e4];exact gv3.old b hb
  ·rw [k9.os,o4];exact gv3.os
  ·rw [k9.out,u4];exact gv3.output
 have hD8:=hD.go g8.old
 unfold Y12
 refine goesI_seq (dt_idle _ _) ?_
 refine goesI_plain (z:=zn) (wr:=true) (L:=LV) (I:=NoRow Ch) hE fineV noRow_keeps (fun v v' w w' es hi hr ho he=>dt_of_z v v' w w' es hi hr ho he) r8 fine_y12 hA8.2.1 (by simp [base]) n8 (Q:=fun a w'=>Fl 137 [(0,.bool false),(2,.slice (some ⟨M,0,none⟩) 1 1),(3,I 0),(5,I 1),(6,Pt v1.heap.size 0),(7,Pt (v2.heap.size+1) 0),(8,I 0),(9,I 80),(10,I 5),(11,I 0),(12,I 0),(13,I 90),(14,.bool true)] a∧w'.heap=v8.heap∧w'.os=v8.os∧w'.output=v8.output) (fun τ=>y12_wp (v:=onTape v8 τ 0) hA8) ?_
 rintro a9 v9 w9 ⟨hA9,e9,o9,u9⟩ r9 n9 -
 have g9:Grows v v9:=grow_trans g8 (grow_same e9 o9 u9)
 have hD9:=hD.go g9.old
 refine goesI_outZ (c:=y13) (f:=27) (fn:=Tryd.f27) (L:=LV) hE fineV r9 n9 Tryd.func27 fine_y13 hA9.2.1 hoc (R:=fun r w'=>r=.bool true∧w'.heap=v9.heap∧w'.os=v9.os∧w'.output=v9.output) (fun τ=>wp_mono (y13_wp (v:=onTape v9 τ 0) hD9.m0 hD9.x4 hD9.x7 hD9.x9 hD9.x10 hA9) (fun e a' w' hq=>⟨hq.1,.bool true,by
  rw [results_tmp (t:=0) rfl]
  have:=hq.2.1.at 0 (.bool true) (by simp)
  rw [show a'.tmps.getD 0 undef=.bool true from this],rfl,hq.2.2⟩)) (fun r v' w' hR hr' hn'=>?_)
 obtain ⟨rfl,h1,h2,h3⟩:=hR
 exact hk v' w' hr' hn' (grow_trans g9 (grow_same h1 h2 h3))
end Go.Proofs.YtbbhahigofeacaaDoor.Gen
