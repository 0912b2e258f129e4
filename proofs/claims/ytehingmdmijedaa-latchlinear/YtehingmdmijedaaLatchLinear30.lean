/- LatchLinear: whatever the schedule, the number and the scripts, what a latch's calls are told could have been one call behind the other, as chapter 3's own functions say; no conditions. Part 30 of 39. (Joined, by program, of: GLoneX, Until2, LatW, LatW2, LatD.) -/
import Derived.Test.YtehingmdmijedaaLatchLinear15
import Derived.Test.YtehingmdmijedaaLatchLinear19
import Derived.Test.YtehingmdmijedaaLatchLinear25
import Derived.Test.YtehingmdmijedaaLatchLinear28
import Derived.Test.YtehingmdmijedaaLatchLinear29
set_option linter.unusedSimpArgs false
set_option linter.unusedVariables false
namespace Go.Proofs.Ytehingmdmijedaa
open Go Go.Lift Go.Conc Go.RowKit
def plainX3 : List FuncId := [51, 54, 56, 57, 58, 59, 80, 95, 103, 16, 18, 19, 20, 27, 48, 53, 74, 29, 30, 32, 33, 34, 35, 42, 63, 68, 47, 41, 66, 67, 86, 87, 88, 89, 104, 105, 106, 107, 108, 130, 131, 132, 138, 139]
def LX3 (f : FuncId) : Prop := f ∈ plainX3
theorem callX3 : ∀ f ∈ plainX3, Callable Try.prog LX3 f := by
  intro f hf
  have hf' := hf
  simp only [plainX3, List.mem_cons, List.not_mem_nil, or_false] at hf
  rcases hf with rfl | rfl | rfl | rfl | rfl | rfl | rfl | rfl | rfl | rfl | rfl | rfl | rfl | rfl | rfl | rfl | rfl | rfl | rfl | rfl | rfl | rfl | rfl | rfl | rfl | rfl | rfl | rfl | rfl | rfl | rfl | rfl | rfl | rfl | rfl | rfl | rfl | rfl | rfl | rfl | rfl | rfl | rfl | rfl
  · exact ⟨hf', Try.f51, Try.func51, by kernel_rfl, by kernel_rfl⟩
  · exact ⟨hf', Try.f54, Try.func54, by kernel_rfl, by kernel_rfl⟩
  · exact ⟨hf', Try.f56, Try.func56, by kernel_rfl, by kernel_rfl⟩
  · exact ⟨hf', Try.f57, Try.func57, by kernel_rfl, by kernel_rfl⟩
  · exact ⟨hf', Try.f58, Try.func58, by kernel_rfl, by kernel_rfl⟩
  · exact ⟨hf', Try.f59, Try.func59, by kernel_rfl, by kernel_rfl⟩
  · exact ⟨hf', Try.f80, Try.func80, by kernel_rfl, by kernel_rfl⟩
  · exact ⟨hf', Try.f95, Try.func95, by kernel_rfl, by kernel_rfl⟩
  · exact ⟨hf', Try.f103, Try.func103, by kernel_rfl, by kernel_rfl⟩
  · exact ⟨hf', Try.f16, Try.func16, by kernel_rfl, by kernel_rfl⟩
  · exact ⟨hf', Try.f18, Try.func18, by kernel_rfl, by kernel_rfl⟩
  · exact ⟨hf', Try.f19, Try.func19, by kernel_rfl, by kernel_rfl⟩
  · exact ⟨hf', Try.f20, Try.func20, by kernel_rfl, by kernel_rfl⟩
  · exact ⟨hf', Try.f27, Try.func27, by kernel_rfl, by kernel_rfl⟩
  · exact ⟨hf', Try.f48, Try.func48, by kernel_rfl, by kernel_rfl⟩
  · exact ⟨hf', Try.f53, Try.func53, by kernel_rfl, by kernel_rfl⟩
  · exact ⟨hf', Try.f74, Try.func74, by kernel_rfl, by kernel_rfl⟩
  · exact ⟨hf', Try.f29, Try.func29, by kernel_rfl, by kernel_rfl⟩
  · exact ⟨hf', Try.f30, Try.func30, by kernel_rfl, by kernel_rfl⟩
  · exact ⟨hf', Try.f32, Try.func32, by kernel_rfl, by kernel_rfl⟩
  · exact ⟨hf', Try.f33, Try.func33, by kernel_rfl, by kernel_rfl⟩
  · exact ⟨hf', Try.f34, Try.func34, by kernel_rfl, by kernel_rfl⟩
  · exact ⟨hf', Try.f35, Try.func35, by kernel_rfl, by kernel_rfl⟩
  · exact ⟨hf', Try.f42, Try.func42, by kernel_rfl, by kernel_rfl⟩
  · exact ⟨hf', Try.f63, Try.func63, by kernel_rfl, by kernel_rfl⟩
  · exact ⟨hf', Try.f68, Try.func68, by kernel_rfl, by kernel_rfl⟩
  · exact ⟨hf', Try.f47, Try.func47, by kernel_rfl, by kernel_rfl⟩
  · exact ⟨hf', Try.f41, Try.func41, by kernel_rfl, by kernel_rfl⟩
  · exact ⟨hf', Try.f66, Try.func66, by kernel_rfl, by kernel_rfl⟩
  · exact ⟨hf', Try.f67, Try.func67, by kernel_rfl, by kernel_rfl⟩
  · exact ⟨hf', Try.f86, Try.func86, by kernel_rfl, by kernel_rfl⟩
  · exact ⟨hf', Try.f87, Try.func87, by kernel_rfl, by kernel_rfl⟩
  · exact ⟨hf', Try.f88, Try.func88, by kernel_rfl, by kernel_rfl⟩
  · exact ⟨hf', Try.f89, Try.func89, by kernel_rfl, by kernel_rfl⟩
  · exact ⟨hf', Try.f104, Try.func104, by kernel_rfl, by kernel_rfl⟩
  · exact ⟨hf', Try.f105, Try.func105, by kernel_rfl, by kernel_rfl⟩
  · exact ⟨hf', Try.f106, Try.func106, by kernel_rfl, by kernel_rfl⟩
  · exact ⟨hf', Try.f107, Try.func107, by kernel_rfl, by kernel_rfl⟩
  · exact ⟨hf', Try.f108, Try.func108, by kernel_rfl, by kernel_rfl⟩
  · exact ⟨hf', Try.f130, Try.func130, by kernel_rfl, by kernel_rfl⟩
  · exact ⟨hf', Try.f131, Try.func131, by kernel_rfl, by kernel_rfl⟩
  · exact ⟨hf', Try.f132, Try.func132, by kernel_rfl, by kernel_rfl⟩
  · exact ⟨hf', Try.f138, Try.func138, by kernel_rfl, by kernel_rfl⟩
  · exact ⟨hf', Try.f139, Try.func139, by kernel_rfl, by kernel_rfl⟩
theorem fineX3 : ∀ f, LX3 f → fineFn Try.prog true LX3 f := by
  intro f hf
  simp only [LX3, plainX3, List.mem_cons, List.not_mem_nil, or_false] at hf
  rcases hf with rfl | rfl | rfl | rfl | rfl | rfl | rfl | rfl | rfl | rfl | rfl | rfl | rfl | rfl | rfl | rfl | rfl | rfl | rfl | rfl | rfl | rfl | rfl | rfl | rfl | rfl | rfl | rfl | rfl | rfl | rfl | rfl | rfl | rfl | rfl | rfl | rfl | rfl | rfl | rfl | rfl | rfl | rfl | rfl
  · exact fineFn_askS callX3 extT Try.func51 (c := Try.f51.body.getD .skip) (by rfl) (by kernel_rfl)
  · exact fineFn_askS callX3 extT Try.func54 (c := Try.f54.body.getD .skip) (by rfl) (by kernel_rfl)
  · exact fineFn_askS callX3 extT Try.func56 (c := Try.f56.body.getD .skip) (by rfl) (by kernel_rfl)
  · exact fineFn_askS callX3 extT Try.func57 (c := Try.f57.body.getD .skip) (by rfl) (by kernel_rfl)
  · exact fineFn_askS callX3 extT Try.func58 (c := Try.f58.body.getD .skip) (by rfl) (by kernel_rfl)
  · exact fineFn_askS callX3 extT Try.func59 (c := Try.f59.body.getD .skip) (by rfl) (by kernel_rfl)
  · exact fineFn_askS callX3 extT Try.func80 (c := Try.f80.body.getD .skip) (by rfl) (by kernel_rfl)
  · exact fineFn_askS callX3 extT Try.func95 (c := Try.f95.body.getD .skip) (by rfl) (by kernel_rfl)
  · exact fineFn_askS callX3 extT Try.func103 (c := Try.f103.body.getD .skip) (by rfl) (by kernel_rfl)
  · exact fineFn_askS callX3 extT Try.func16 (c := Try.f16.body.getD .skip) (by rfl) (by kernel_rfl)
  · exact fineFn_askS callX3 extT Try.func18 (c := Try.f18.body.getD .skip) (by rfl) (by kernel_rfl)
  · exact fineFn_askS callX3 extT Try.func19 (c := Try.f19.body.getD .skip) (by rfl) (by kernel_rfl)
  · exact fineFn_askS callX3 extT Try.func20 (c := Try.f20.body.getD .skip) (by rfl) (by kernel_rfl)
  · exact fineFn_askS callX3 extT Try.func27 (c := Try.f27.body.getD .skip) (by rfl) (by kernel_rfl)
  · exact fineFn_askS callX3 extT Try.func48 (c := Try.f48.body.getD .skip) (by rfl) (by kernel_rfl)
  · exact fineFn_askS callX3 extT Try.func53 (c := Try.f53.body.getD .skip) (by rfl) (by kernel_rfl)
  · exact fineFn_askS callX3 extT Try.func74 (c := Try.f74.body.getD .skip) (by rfl) (by kernel_rfl)
  · exact fineFn_askS callX3 extT Try.func29 (c := Try.f29.body.getD .skip) (by rfl) (by kernel_rfl)
  · exact fineFn_askS callX3 extT Try.func30 (c := Try.f30.body.getD .skip) (by rfl) (by kernel_rfl)
  · exact fineFn_askS callX3 extT Try.func32 (c := Try.f32.body.getD .skip) (by rfl) (by kernel_rfl)
  · exact fineFn_askS callX3 extT Try.func33 (c := Try.f33.body.getD .skip) (by rfl) (by kernel_rfl)
  · exact fineFn_askS callX3 extT Try.func34 (c := Try.f34.body.getD .skip) (by rfl) (by kernel_rfl)
  · exact fineFn_askS callX3 extT Try.func35 (c := Try.f35.body.getD .skip) (by rfl) (by kernel_rfl)
  · exact fineFn_askS callX3 extT Try.func42 (c := Try.f42.body.getD .skip) (by rfl) (by kernel_rfl)
  · exact fineFn_askS callX3 extT Try.func63 (c := Try.f63.body.getD .skip) (by rfl) (by kernel_rfl)
  · exact fineFn_askS callX3 extT Try.func68 (c := Try.f68.body.getD .skip) (by rfl) (by kernel_rfl)
  · exact fineFn_askS callX3 extT Try.func47 (c := Try.f47.body.getD .skip) (by rfl) (by kernel_rfl)
  · exact fineFn_askS callX3 extT Try.func41 (c := Try.f41.body.getD .skip) (by rfl) (by kernel_rfl)
  · exact fineFn_askS callX3 extT Try.func66 (c := Try.f66.body.getD .skip) (by rfl) (by kernel_rfl)
  · exact fineFn_askS callX3 extT Try.func67 (c := Try.f67.body.getD .skip) (by rfl) (by kernel_rfl)
  · exact fineFn_askS callX3 extT Try.func86 (c := Try.f86.body.getD .skip) (by rfl) (by kernel_rfl)
  · exact fineFn_askS callX3 extT Try.func87 (c := Try.f87.body.getD .skip) (by rfl) (by kernel_rfl)
  · exact fineFn_askS callX3 extT Try.func88 (c := Try.f88.body.getD .skip) (by rfl) (by kernel_rfl)
  · exact fineFn_askS callX3 extT Try.func89 (c := Try.f89.body.getD .skip) (by rfl) (by kernel_rfl)
  · exact fineFn_askS callX3 extT Try.func104 (c := Try.f104.body.getD .skip) (by rfl) (by kernel_rfl)
  · exact fineFn_askS callX3 extT Try.func105 (c := Try.f105.body.getD .skip) (by rfl) (by kernel_rfl)
  · exact fineFn_askS callX3 extT Try.func106 (c := Try.f106.body.getD .skip) (by rfl) (by kernel_rfl)
  · exact fineFn_askS callX3 extT Try.func107 (c := Try.f107.body.getD .skip) (by rfl) (by kernel_rfl)
  · exact fineFn_askS callX3 extT Try.func108 (c := Try.f108.body.getD .skip) (by rfl) (by kernel_rfl)
  · exact fineFn_askS callX3 extT Try.func130 (c := Try.f130.body.getD .skip) (by rfl) (by kernel_rfl)
  · exact fineFn_askS callX3 extT Try.func131 (c := Try.f131.body.getD .skip) (by rfl) (by kernel_rfl)
  · exact fineFn_askS callX3 extT Try.func132 (c := Try.f132.body.getD .skip) (by rfl) (by kernel_rfl)
  · exact fineFn_askS callX3 extT Try.func138 (c := Try.f138.body.getD .skip) (by rfl) (by kernel_rfl)
  · exact fineFn_askS callX3 extT Try.func139 (c := Try.f139.body.getD .skip) (by rfl) (by kernel_rfl)
end Go.Proofs.Ytehingmdmijedaa
namespace Go.Proofs.Ytehingmdmijedaa.Gen
open Go Go.Lift Go.Conc Go.RowKit
theorem goesI_retX {Ch : Nat → Prop} {Stop : Goroutine → World → Prop} {main : Bool} {f : FuncId} {c : Code} {act : Act} {more : List Item} {cs : List Frame} {v w : World} {Q : Act → World → Prop} (hvw : Rel zn v w) (hn : NoRow Ch v) (hc : fineCode Try.prog true LX3 c) (ha : act.defers = [])
    (hwp : ∀ τ, c.wp Try.prog (fun e a w' => e = .ret ∧ Q a w') act (onTape v τ 0))
    (h : ∀ a' v' w' todo, Q a' v' → a'.defers = [] → Rel zn v' w' → NoRow Ch v' → GoesI Try.prog main (DT (ScZ zn) Ch) Stop (G { (base f).at a' todo with mode := .returning } cs) w') :
    GoesI Try.prog main (DT (ScZ zn) Ch) Stop (G ((base f).at act (.code c :: more)) cs) w := by
  have hfin := lift_code (P := Try.prog) (z := zn) (wr := true) (L := LX3) (D := DT (ScZ zn) Ch) (I := NoRow Ch) (main := main) (b := base f) (k := more) (cs := cs) hE fineX3 noRow_keeps (fun v v' w w' es hi hr ho he => dt_of_z v v' w w' es hi hr ho he) hvw hc ha (by simp [base]) hn
    (Q := fun e a w' => e = .ret ∧ Q a w') hwp (fun e a w hq => .inr hq.1)
  refine hfin.then ?_
  rintro g w' ⟨a', v', hr, hiv, hd, ⟨⟨hq, _⟩, _⟩ | ⟨⟨_, hQ⟩, todo, rfl⟩⟩
  · cases hq
  · exact h a' v' w' todo hQ hd hr hiv
end Go.Proofs.Ytehingmdmijedaa.Gen

namespace Go.Proofs.Ytehingmdmijedaa
open Go Go.Lift Go.Conc Go.RowKit
end Go.Proofs.Ytehingmdmijedaa

namespace Go.Proofs.Ytehingmdmijedaa.Gen
open Go Go.Lift Go.Conc Go.RowKit
def plainG : List FuncId := [51, 54, 56, 57, 58, 59, 80, 95, 103, 27]
def LG (f : FuncId) : Prop := f ∈ plainG
theorem callG : ∀ f ∈ plainG, Callable Try.prog LG f := by
  intro f hf
  have hf' := hf
  simp only [plainG, List.mem_cons, List.not_mem_nil, or_false] at hf
  rcases hf with rfl | rfl | rfl | rfl | rfl | rfl | rfl | rfl | rfl | rfl
  · exact ⟨hf', Try.f51, Try.func51, by kernel_rfl, by kernel_rfl⟩
  · exact ⟨hf', Try.f54, Try.func54, by kernel_rfl, by kernel_rfl⟩
  · exact ⟨hf', Try.f56, Try.func56, by kernel_rfl, by kernel_rfl⟩
  · exact ⟨hf', Try.f57, Try.func57, by kernel_rfl, by kernel_rfl⟩
  · exact ⟨hf', Try.f58, Try.func58, by kernel_rfl, by kernel_rfl⟩
  · exact ⟨hf', Try.f59, Try.func59, by kernel_rfl, by kernel_rfl⟩
  · exact ⟨hf', Try.f80, Try.func80, by kernel_rfl, by kernel_rfl⟩
  · exact ⟨hf', Try.f95, Try.func95, by kernel_rfl, by kernel_rfl⟩
  · exact ⟨hf', Try.f103, Try.func103, by kernel_rfl, by kernel_rfl⟩
  · exact ⟨hf', Try.f27, Try.func27, by kernel_rfl, by kernel_rfl⟩
theorem fineG : ∀ f, LG f → fineFn Try.prog true LG f := by
  intro f hf
  simp only [LG, plainG, List.mem_cons, List.not_mem_nil, or_false] at hf
  rcases hf with rfl | rfl | rfl | rfl | rfl | rfl | rfl | rfl | rfl | rfl
  · exact fineFn_ask callG extT Try.func51 (c := Try.f51.body.getD .skip) (by rfl) (by kernel_rfl)
  · exact fineFn_ask callG extT Try.func54 (c := Try.f54.body.getD .skip) (by rfl) (by kernel_rfl)
  · exact fineFn_ask callG extT Try.func56 (c := Try.f56.body.getD .skip) (by rfl) (by kernel_rfl)
  · exact fineFn_ask callG extT Try.func57 (c := Try.f57.body.getD .skip) (by rfl) (by kernel_rfl)
  · exact fineFn_ask callG extT Try.func58 (c := Try.f58.body.getD .skip) (by rfl) (by kernel_rfl)
  · exact fineFn_ask callG extT Try.func59 (c := Try.f59.body.getD .skip) (by rfl) (by kernel_rfl)
  · exact fineFn_ask callG extT Try.func80 (c := Try.f80.body.getD .skip) (by rfl) (by kernel_rfl)
  · exact fineFn_ask callG extT Try.func95 (c := Try.f95.body.getD .skip) (by rfl) (by kernel_rfl)
  · exact fineFn_ask callG extT Try.func103 (c := Try.f103.body.getD .skip) (by rfl) (by kernel_rfl)
  · exact fineFn_ask callG extT Try.func27 (c := Try.f27.body.getD .skip) (by rfl) (by kernel_rfl)
noncomputable def L43 : Code := loopC (blockC (seq1 (seq2 (Try.f43.body.getD .skip))))
noncomputable def T43 : Code := seq2 (seq2 (Try.f43.body.getD .skip))
noncomputable def ops431 : Array Oper := opsOf (seq1 (seq1 L43))
noncomputable def ops432 : Array Oper := opsOf (seq1 (blockC (seq2 L43)))
theorem fineT43 : fineCode Try.prog true LT T43 := fineCode_ask callT extT (by kernel_rfl)
noncomputable def wFr (lb tb : Nat) (u : Nat → Value) : Frame :=
  (base 43).at ⟨#[Pt lb 0, Pt tb 0, undef, undef, .bool false, u 5, u 6, u 7, u 8, u 9, u 10, u 11, u 12, u 13, u 14, u 15, u 16, u 17, u 18, u 19], []⟩ [.code L43, .inLoop L43, .inBlock 0, .code T43]
noncomputable def wSeen (lb cb tb : Nat) (u : Nat → Value) (r : Value) : Frame :=
  (base 43).at ((⟨#[Pt lb 0, Pt tb 0, undef, undef, .bool false, Pt lb 0, Pt lb 0, Pt lb 0, Pt cb 0, Pt tb 0, u 10, u 11, u 12, u 13, u 14, u 15, u 16, u 17, u 18, u 19], []⟩ : Act).put (some 10) r) [.inRegion ops431 [6], .code (seq2 (seq1 L43)), .code (seq2 L43), .inLoop L43, .inBlock 0, .code T43]
noncomputable def wWoke (lb tb : Nat) (u : Nat → Value) (r : Value) : Frame :=
  (base 43).at ((⟨#[Pt lb 0, Pt tb 0, undef, undef, .bool false, u 5, u 6, u 7, u 8, u 9, u 10, u 11, u 12, u 13, u 14, u 15, u 16, u 17, u 18, u 19], []⟩ : Act).put (some 18) r) [.inRegion ops432 [7], .code (seq2 (blockC (seq2 L43))), .inBlock 1, .inLoop L43, .inBlock 0, .code T43]
set_option maxHeartbeats 1000000 in
set_option maxRecDepth 100000 in
theorem wait_loop {z : Nat → Option Nat} {Ch : Nat → Prop} {Stop : Goroutine → World → Prop} {h : Nat} {cont : Addr → Value} {S : TS} {K : List (Nat × Int)} {v w : World} {i j cb lb : Nat} {t : Thr} (x : Int) (u : Nat → Value) (cs : List Frame) (Hm : Goroutine → Prop)
    (hH : ∀ g, OpBack (h == 0) i j cb t.tb 1 effLoad (fun r => G (wSeen lb cb t.tb u r) cs) g → Hm g) (hlb : v.cell? ⟨lb, 0, none⟩ = some (Pt cb 0))
    (hvw : Rel z v w) (hn : NoRow Ch v) (hm : Mem z S K v) (ht : S.thr[i]? = some t) (hK : K[j]? = some (cb, x)) (hz : z t.tb = some 2) (hcont : cont ⟨t.tb, 2, none⟩ = .chan (some t.gc))
    (hstop : ∀ g w', GiveT z cont h S.bk t.gc Hm (Then z Ch S K v (waiting S i t 1 1 j) K) g w' → Stop g w') :
    GoesI Try.prog (h == 0) (DT (ScZ z) Ch) Stop (G (wFr lb t.tb u) cs) w := by
  have e0 : w.cell? ⟨lb, 0, none⟩ = some (Pt cb 0) := by rw [hvw.cell?]; exact hlb
  have HM : Hid (Mem z S K v) := ⟨hm⟩
  clear hm
  unfold wFr L43 T43 Try.f43 seq2 seq1 blockC loopC
  simp only [Option.getD_some]
  refine goesI_seq (dt_idle _ _) ?_
  refine goesI_seq (dt_idle _ _) ?_
  refine goesI_region (dt_idle _ _) ?_
  simp only [List.size_toArray, List.length_cons, List.length_nil, Nat.reduceAdd, Nat.zero_add, List.range, List.range.loop]
  iterate 5
    (refine goesI_oper rfl rfl (by decide) (fun d K hK => ?_)
     go_simp
     refine hK _ _ ⟨dt_reads (fun e he => ?_), GoesI.at ?_ d⟩
     · have hm := mem_listed he
       simp [go_sem, *] at hm
       try exact ⟨_, _, hm⟩
     clear hK K)
  refine goesI_into (f := 26) (fn := Try.f26) (args := #[Pt cb 0, Pt t.tb 0]) (dt_idle _ _) rfl rfl (by decide) rfl (by simp [Act.eval]) Try.func26 (by decide) rfl ?_
  exact load_goes x _ Hm rfl (fun g hg => hH g hg) hvw hn HM.out ht hK hz hcont hstop _ rfl
theorem wait_in {z : Nat → Option Nat} {Ch : Nat → Prop} {Stop : Goroutine → World → Prop} {main : Bool} {w : World} {lb tb : Nat} (cs : List Frame)
    (hk : ∀ u, GoesI Try.prog main (DT (ScZ z) Ch) Stop (G (wFr lb tb u) cs) w) (code : Code) (hc : Try.f43.body = some code) :
    GoesI Try.prog main (DT (ScZ z) Ch) Stop (G ((base 43).at { tmps := #[Pt lb 0, Pt tb 0] ++ Array.replicate 18 undef, defers := [] } [.code code]) cs) w := by
  obtain rfl := Option.some.inj hc
  clear hc
  simp only [Array.replicate_succ, Array.replicate_zero, List.push_toArray, List.append_toArray, List.nil_append, List.cons_append]
  refine goesI_seq (dt_idle _ _) ?_
  refine goesI_region (dt_idle _ _) ?_
  simp only [List.size_toArray, List.length_cons, List.length_nil, Nat.reduceAdd, Nat.zero_add, List.range, List.range.loop]
  (refine goesI_oper rfl rfl (by decide) (fun d K hK => ?_)
   go_simp
   refine hK _ _ ⟨dt_reads (fun e he => ?_), GoesI.at ?_ d⟩
   · have hm := mem_listed he
     simp [go_sem, *] at hm
   clear hK K)
  refine goesI_regionEnd (dt_idle _ _) ?_
  refine goesI_seq (dt_idle _ _) ?_
  refine goesI_block (dt_idle _ _) ?_
  refine goesI_loop (dt_idle _ _) ?_
  exact hk (fun _ => undef)
end Go.Proofs.Ytehingmdmijedaa.Gen

namespace Go.Proofs.Ytehingmdmijedaa.Gen
open Go Go.Lift Go.Conc Go.RowKit
theorem res43 (tmps : Array Value) : ∃ v, (∀ w, (results Try.f43 tmps).run Try.prog w = .ok v w) ∧ ∀ w, (results Try.f43 tmps).events Try.prog w #[] = #[] :=
  ⟨_, fun w => results_tmp rfl _ _ _, fun w => by simp [results, go_sem]⟩
set_option maxHeartbeats 1000000 in
set_option maxRecDepth 100000 in
theorem wait_done {z : Nat → Option Nat} {Ch : Nat → Prop} {Stop : Goroutine → World → Prop} {main : Bool} {v w : World} {lb cb tb : Nat} (u : Nat → Value) (cs : List Frame) {bc : Frame} {ac : Act} {ops : Array Oper} {q : Nat} {rest : List Nat} {oc : Oper} {k : List Item} (hoc : ops[q]? = some oc)
    (hvw : Rel z v w) (hn : NoRow Ch v)
    (hk : ∀ v' w', Rel z v' w' → NoRow Ch v' → v'.heap = v.heap → v'.os = v.os → v'.output = v.output → GoesI Try.prog main (DT (ScZ z) Ch) Stop (G (bc.at (ac.put oc.dst (.bool true)) (.inRegion ops rest :: k)) cs) w') :
    GoesI Try.prog main (DT (ScZ z) Ch) Stop (G (wSeen lb cb tb u (I 0)) (bc.at ac (.inRegion ops (q :: rest) :: k) :: cs)) w := by
  unfold wSeen ops431 L43 T43 Try.f43 seq2 seq1 blockC loopC opsOf
  simp only [Option.getD_some]
  walk_nrm
  (refine goesI_oper rfl rfl (by decide) (fun d K hK => ?_)
   go_simp
   refine hK _ _ ⟨dt_reads (fun e he => ?_), GoesI.at ?_ d⟩
   · have hm := mem_listed he
     simp [go_sem, *] at hm
   clear hK K)
  refine goesI_regionEnd (dt_idle _ _) ?_
  refine goesI_cond (dt_idle _ _) (t := false) (by simp [Act.eval]) ?_
  simp only [if_true, if_false, Bool.false_eq_true]
  refine goesI_exit (dt_idle _ _) rfl ?_
  refine goesI_rest (f := 43) (fn := Try.f43) (c := T43) hE fineT hvw hn Try.func43 fineT43 rfl hoc res43 (fun τ => ?_) (fun r v' w' hR hr' hn' => ?_) (R := fun r w' => r = .bool true ∧ w'.heap = v.heap ∧ w'.os = v.os ∧ w'.output = v.output)
  · show Code.wp Try.prog (seq2 (seq2 (Try.f43.body.getD .skip))) _ _ _
    unfold Try.f43 seq2
    simp only [Option.getD_some]
    go_wp2_with fail
    go_ret
    exact ⟨_, rfl, rfl, rfl, rfl, rfl⟩
  · obtain ⟨rfl, h1, h2, h3⟩ := hR
    exact hk v' w' hr' hn' h1 h2 h3
def wVal (lb cb tb : Nat) (x : Int) (j : Nat) (u : Nat → Value) : Nat → Value
  | 5 => Pt lb 0
  | 6 => Pt lb 0
  | 7 => Pt lb 0
  | 8 => Pt cb 0
  | 9 => Pt tb 0
  | 10 => I x
  | 11 => .bool (x != 0)
  | 12 => Pt tb 0
  | 13 => Pt lb 0
  | 14 => Pt lb 0
  | 15 => Pt lb 0
  | 16 => Pt cb 0
  | 17 => I j
  | k => u k
set_option maxHeartbeats 1000000 in
set_option maxRecDepth 100000 in
theorem wait_more {z : Nat → Option Nat} {Ch : Nat → Prop} {Stop : Goroutine → World → Prop} {main : Bool} {S : TS} {K : List (Nat × Int)} {v w : World} {j cb lb tb : Nat} (x : Int) (hx : x ≠ 0) (y : Int) (u : Nat → Value) (cs : List Frame) (hlb : v.cell? ⟨lb, 0, none⟩ = some (Pt cb 0))
    (hvw : Rel z v w) (hn : NoRow Ch v) (hm : Mem z S K v) (hK : K[j]? = some (cb, y))
    (hk : ∀ v' w' (bd : Frame) (ad : Act) (od : Array Oper) (qd : Nat) (rd : List Nat) (oe : Oper) (kd : List Item), Rel z v' w' → NoRow Ch v' → Evo z S K v S K v' → od[qd]? = some oe → (∀ r, bd.at (ad.put oe.dst r) (.inRegion od rd :: kd) = wWoke lb tb (wVal lb cb tb x j u) r) → ∀ code, Try.f60.body = some code →
      GoesI Try.prog main (DT (ScZ z) Ch) Stop (G ((base 60).at { tmps := #[Pt tb 0, I j] ++ Array.replicate (Try.f60.ntmps - 2) undef, defers := [] } [.code code]) (bd.at ad (.inRegion od (qd :: rd) :: kd) :: cs)) w') :
    GoesI Try.prog main (DT (ScZ z) Ch) Stop (G (wSeen lb cb tb u (I x)) cs) w := by
  have e0 : w.cell? ⟨lb, 0, none⟩ = some (Pt cb 0) := by rw [hvw.cell?]; exact hlb
  have e1 : v.cell? ⟨cb, 0, none⟩ = some (I j) := (hm.cells hK).1
  have HM : Hid (Mem z S K v) := ⟨hm⟩
  clear hm
  unfold wWoke ops432 L43 T43 Try.f43 seq2 seq1 blockC loopC opsOf wVal at hk
  simp only [Option.getD_some] at hk
  unfold wSeen ops431 L43 T43 Try.f43 seq2 seq1 blockC loopC opsOf
  simp only [Option.getD_some]
  walk_nrm
  (refine goesI_oper rfl rfl (by decide) (fun d K hK => ?_)
   go_simp
   refine hK _ _ ⟨dt_reads (fun e he => ?_), GoesI.at ?_ d⟩
   · have hm := mem_listed he
     simp [go_sem, *] at hm
   clear hK K)
  refine goesI_regionEnd (dt_idle _ _) ?_
  refine goesI_cond (dt_idle _ _) (t := true) (by simp [Act.eval, hx]) ?_
  simp only [if_true, if_false, Bool.false_eq_true]
  refine goesI_skip (dt_idle _ _) ?_
  refine goesI_block (dt_idle _ _) ?_
  refine goesI_seq (dt_idle _ _) ?_
  refine goesI_region (dt_idle _ _) ?_
  simp only [List.size_toArray, List.length_cons, List.length_nil, Nat.reduceAdd, Nat.zero_add, List.range, List.range.loop]
  iterate 5
    (refine goesI_oper rfl rfl (by decide) (fun d K hK => ?_)
     go_simp
     refine hK _ _ ⟨dt_reads (fun e he => ?_), GoesI.at ?_ d⟩
     · have hm := mem_listed he
       simp [go_sem, *] at hm
       try exact ⟨_, _, hm⟩
     clear hK K)
  refine goesI_call (f := 27) (fn := Try.f27) (args := #[Pt cb 0]) hE fineG rfl rfl (by decide) rfl (by simp [Act.eval]) Try.func27 (by kernel_rfl) rfl (fineFn_body fineG (by simp [LG, plainG]) Try.func27 rfl) (fun tmps => ⟨_, fun w => results_tmp rfl _ _ _, fun w => by simp [results, go_sem]⟩) hvw hn
    (R := fun r v4 => r = I j ∧ v4.heap = v.heap ∧ v4.os = v.os ∧ v4.output = v.output) (fun τ => ?_) (fun r v4 w4 hR hvw4 hn4 => ?_)
  · have e2 : (onTape v τ 0).cell? ⟨cb, 0, none⟩ = some (I j) := e1
    show Code.wp Try.prog (Try.f27.body.getD .skip) _ _ _
    unfold Try.f27
    simp only [Option.getD_some]
    go_wp2_with fail
    go_ret
    exact ⟨_, rfl, rfl, rfl, rfl, rfl⟩
  obtain ⟨rfl, h1, h2, h3⟩ := hR
  have hg : Grows v v4 := ⟨by rw [h1]; exact Nat.le_refl _, fun b _ => by rw [h1], h2, h3⟩
  walk_nrm
  refine goesI_into (f := 60) (fn := Try.f60) (args := #[Pt tb 0, I j]) (dt_idle _ _) rfl rfl (by decide) rfl (by simp [Act.eval]) Try.func60 (by decide) rfl ?_
  exact hk v4 w4 _ _ _ _ _ _ _ hvw4 hn4 (HM.out.grows hg) rfl (fun r => rfl) _ rfl
set_option maxHeartbeats 1000000 in
set_option maxRecDepth 100000 in
theorem wait_again {z : Nat → Option Nat} {Ch : Nat → Prop} {Stop : Goroutine → World → Prop} {main : Bool} {w : World} {lb tb : Nat} (u : Nat → Value) (cs : List Frame)
    (hk : ∀ u, GoesI Try.prog main (DT (ScZ z) Ch) Stop (G (wFr lb tb u) cs) w) :
    GoesI Try.prog main (DT (ScZ z) Ch) Stop (G (wWoke lb tb u (.bool true)) cs) w := by
  unfold wFr L43 T43 Try.f43 seq2 seq1 blockC loopC at hk
  simp only [Option.getD_some] at hk
  unfold wWoke ops432 L43 T43 Try.f43 seq2 seq1 blockC loopC opsOf
  simp only [Option.getD_some]
  walk_nrm
  (refine goesI_oper rfl rfl (by decide) (fun d K hK => ?_)
   go_simp
   refine hK _ _ ⟨dt_reads (fun e he => ?_), GoesI.at ?_ d⟩
   · have hm := mem_listed he
     simp [go_sem, *] at hm
   clear hK K)
  refine goesI_regionEnd (dt_idle _ _) ?_
  refine goesI_cond (dt_idle _ _) (t := false) rfl ?_
  simp only [if_true, if_false, Bool.false_eq_true]
  refine goesI_skip (dt_idle _ _) ?_
  refine goesI_inBlock (dt_idle _ _) ?_
  refine goesI_inLoop (dt_idle _ _) ?_
  exact hk (fun m => match m with | 18 => .bool true | 19 => .bool false | m => u m)
noncomputable def no43 : Code := condA (seq2 (blockC (seq2 L43)))
theorem fineNo43 : fineCode Try.prog true LT no43 := fineCode_ask callT extT (by kernel_rfl)
set_option maxHeartbeats 1000000 in
set_option maxRecDepth 100000 in
theorem wait_no {z : Nat → Option Nat} {Ch : Nat → Prop} {Stop : Goroutine → World → Prop} {main : Bool} {v w : World} {lb tb : Nat} (u : Nat → Value) (cs : List Frame) {bc : Frame} {ac : Act} {ops : Array Oper} {q : Nat} {rest : List Nat} {oc : Oper} {k : List Item} (hoc : ops[q]? = some oc)
    (hvw : Rel z v w) (hn : NoRow Ch v)
    (hk : ∀ v' w', Rel z v' w' → NoRow Ch v' → v'.heap = v.heap → v'.os = v.os → v'.output = v.output → GoesI Try.prog main (DT (ScZ z) Ch) Stop (G (bc.at (ac.put oc.dst (.bool false)) (.inRegion ops rest :: k)) cs) w') :
    GoesI Try.prog main (DT (ScZ z) Ch) Stop (G (wWoke lb tb u (.bool false)) (bc.at ac (.inRegion ops (q :: rest) :: k) :: cs)) w := by
  unfold wWoke ops432 L43 T43 Try.f43 seq2 seq1 blockC loopC opsOf
  simp only [Option.getD_some]
  walk_nrm
  (refine goesI_oper rfl rfl (by decide) (fun d K hK => ?_)
   go_simp
   refine hK _ _ ⟨dt_reads (fun e he => ?_), GoesI.at ?_ d⟩
   · have hm := mem_listed he
     simp [go_sem, *] at hm
   clear hK K)
  refine goesI_regionEnd (dt_idle _ _) ?_
  refine goesI_cond (dt_idle _ _) (t := true) rfl ?_
  simp only [if_true, if_false, Bool.false_eq_true]
  refine goesI_outZ (c := no43) (f := 43) (fn := Try.f43) (L := LT) hE fineT hvw hn Try.func43 fineNo43 rfl hoc (R := fun r w' => r = .bool false ∧ w'.heap = v.heap ∧ w'.os = v.os ∧ w'.output = v.output) (fun τ => ?_) (fun r v' w' hR hr' hn' => ?_)
  · show Code.wp Try.prog (condA (seq2 (blockC (seq2 (loopC (blockC (seq1 (seq2 (Try.f43.body.getD .skip))))))))) _ _ _
    unfold Try.f43 condA seq2 seq1 blockC loopC
    simp only [Option.getD_some]
    go_wp2_with fail
    exact ⟨_, results_tmp rfl _ _ _, rfl, rfl, rfl, rfl⟩
  · obtain ⟨rfl, h1, h2, h3⟩ := hR
    exact hk v' w' hr' hn' h1 h2 h3
end Go.Proofs.Ytehingmdmijedaa.Gen

namespace Go.Proofs.Ytehingmdmijedaa.Gen
open Go Go.Lift Go.Conc Go.RowKit
noncomputable def L44 : Code := loopC (blockC (seq2 (Try.f44.body.getD .skip)))
noncomputable def B44 : Code := blockC L44
noncomputable def ops441 : Array Oper := opsOf (seq1 B44)
noncomputable def ops444 : Array Oper := opsOf (seq1 (seq2 (seq2 B44)))
noncomputable def dFr (lb tb : Nat) (u : Nat → Value) : Frame :=
  (base 44).at ⟨#[Pt lb 0, Pt tb 0, undef, undef, I 0, u 5, u 6, u 7, u 8, u 9, u 10, u 11, u 12, u 13, u 14, u 15, u 16, u 17, u 18, u 19, u 20, u 21, u 22], []⟩ [.code L44, .inLoop L44, .inBlock 0]
noncomputable def dSeen (lb cb tb : Nat) (u : Nat → Value) (r : Value) : Frame :=
  (base 44).at ((⟨#[Pt lb 0, Pt tb 0, undef, undef, I 0, u 5, Pt lb 0, Pt lb 0, Pt lb 0, Pt cb 0, Pt tb 0, u 11, u 12, u 13, u 14, u 15, u 16, u 17, u 18, u 19, u 20, u 21, u 22], []⟩ : Act).put (some 11) r) [.inRegion ops441 [6], .code (seq2 B44), .inBlock 1, .inLoop L44, .inBlock 0]
noncomputable def dTried (lb tb : Nat) (u : Nat → Value) (r : Value) : Frame :=
  (base 44).at ((⟨#[Pt lb 0, Pt tb 0, undef, undef, I 0, u 5, u 6, u 7, u 8, u 9, u 10, u 11, u 12, u 13, u 14, u 15, u 16, u 17, u 18, u 19, u 20, u 21, u 22], []⟩ : Act).put (some 22) r) [.inRegion ops444 [], .code (seq2 (seq2 (seq2 B44))), .inBlock 1, .inLoop L44, .inBlock 0]
set_option maxHeartbeats 1000000 in
set_option maxRecDepth 100000 in
theorem down_loop {z : Nat → Option Nat} {Ch : Nat → Prop} {Stop : Goroutine → World → Prop} {h : Nat} {cont : Addr → Value} {S : TS} {K : List (Nat × Int)} {v w : World} {i j cb lb : Nat} {t : Thr} (x : Int) (u : Nat → Value) (cs : List Frame) (Hm : Goroutine → Prop)
    (hH : ∀ g, OpBack (h == 0) i j cb t.tb 1 effLoad (fun r => G (dSeen lb cb t.tb u r) cs) g → Hm g) (hlb : v.cell? ⟨lb, 0, none⟩ = some (Pt cb 0))
    (hvw : Rel z v w) (hn : NoRow Ch v) (hm : Mem z S K v) (ht : S.thr[i]? = some t) (hK : K[j]? = some (cb, x)) (hz : z t.tb = some 2) (hcont : cont ⟨t.tb, 2, none⟩ = .chan (some t.gc))
    (hstop : ∀ g w', GiveT z cont h S.bk t.gc Hm (Then z Ch S K v (waiting S i t 1 1 j) K) g w' → Stop g w') :
    GoesI Try.prog (h == 0) (DT (ScZ z) Ch) Stop (G (dFr lb t.tb u) cs) w := by
  have e0 : w.cell? ⟨lb, 0, none⟩ = some (Pt cb 0) := by rw [hvw.cell?]; exact hlb
  have HM : Hid (Mem z S K v) := ⟨hm⟩
  clear hm
  unfold dFr L44 Try.f44 seq2 blockC loopC
  simp only [Option.getD_some]
  refine goesI_block (dt_idle _ _) ?_
  refine goesI_seq (dt_idle _ _) ?_
  refine goesI_region (dt_idle _ _) ?_
  simp only [List.size_toArray, List.length_cons, List.length_nil, Nat.reduceAdd, Nat.zero_add, List.range, List.range.loop]
  iterate 5
    (refine goesI_oper rfl rfl (by decide) (fun d K hK => ?_)
     go_simp
     refine hK _ _ ⟨dt_reads (fun e he => ?_), GoesI.at ?_ d⟩
     · have hm := mem_listed he
       simp [go_sem, *] at hm
       try exact ⟨_, _, hm⟩
     clear hK K)
  refine goesI_into (f := 26) (fn := Try.f26) (args := #[Pt cb 0, Pt t.tb 0]) (dt_idle _ _) rfl rfl (by decide) rfl (by simp [Act.eval]) Try.func26 (by decide) rfl ?_
  exact load_goes x _ Hm rfl (fun g hg => hH g hg) hvw hn HM.out ht hK hz hcont hstop _ rfl
theorem down_in {z : Nat → Option Nat} {Ch : Nat → Prop} {Stop : Goroutine → World → Prop} {main : Bool} {w : World} {lb tb : Nat} (cs : List Frame)
    (hk : ∀ u, GoesI Try.prog main (DT (ScZ z) Ch) Stop (G (dFr lb tb u) cs) w) (code : Code) (hc : Try.f44.body = some code) :
    GoesI Try.prog main (DT (ScZ z) Ch) Stop (G ((base 44).at { tmps := #[Pt lb 0, Pt tb 0] ++ Array.replicate 21 undef, defers := [] } [.code code]) cs) w := by
  obtain rfl := Option.some.inj hc
  clear hc
  simp only [Array.replicate_succ, Array.replicate_zero, List.push_toArray, List.append_toArray, List.nil_append, List.cons_append]
  refine goesI_seq (dt_idle _ _) ?_
  refine goesI_region (dt_idle _ _) ?_
  simp only [List.size_toArray, List.length_cons, List.length_nil, Nat.reduceAdd, Nat.zero_add, List.range, List.range.loop]
  (refine goesI_oper rfl rfl (by decide) (fun d K hK => ?_)
   go_simp
   refine hK _ _ ⟨dt_reads (fun e he => ?_), GoesI.at ?_ d⟩
   · have hm := mem_listed he
     simp [go_sem, *] at hm
   clear hK K)
  refine goesI_regionEnd (dt_idle _ _) ?_
  refine goesI_block (dt_idle _ _) ?_
  refine goesI_loop (dt_idle _ _) ?_
  exact hk (fun _ => undef)
noncomputable def low44 : Code := condA (seq2 (seq1 (seq2 B44)))
theorem fineLow44 : fineCode Try.prog true LT low44 := fineCode_ask callT extT (by kernel_rfl)
set_option maxHeartbeats 1000000 in
set_option maxRecDepth 100000 in
theorem down_low {z : Nat → Option Nat} {Ch : Nat → Prop} {Stop : Goroutine → World → Prop} {main : Bool} {v w : World} {lb cb tb : Nat} (u : Nat → Value) (cs : List Frame) {bc : Frame} {ac : Act} {ops : Array Oper} {q : Nat} {rest : List Nat} {oc : Oper} {k : List Item} (hoc : ops[q]? = some oc)
    (hvw : Rel z v w) (hn : NoRow Ch v)
    (hk : ∀ v' w', Rel z v' w' → NoRow Ch v' → v'.heap = v.heap → v'.os = v.os → v'.output = v.output → GoesI Try.prog main (DT (ScZ z) Ch) Stop (G (bc.at (ac.put oc.dst (I 50)) (.inRegion ops rest :: k)) cs) w') :
    GoesI Try.prog main (DT (ScZ z) Ch) Stop (G (dSeen lb cb tb u (I 0)) (bc.at ac (.inRegion ops (q :: rest) :: k) :: cs)) w := by
  unfold dSeen ops441 B44 L44 Try.f44 seq2 seq1 blockC loopC opsOf
  simp only [Option.getD_some]
  walk_nrm
  (refine goesI_oper rfl rfl (by decide) (fun d K hK => ?_)
   go_simp
   refine hK _ _ ⟨dt_reads (fun e he => ?_), GoesI.at ?_ d⟩
   · have hm := mem_listed he
     simp [go_sem, *] at hm
   clear hK K)
  refine goesI_regionEnd (dt_idle _ _) ?_
  refine goesI_seq (dt_idle _ _) ?_
  refine goesI_seq (dt_idle _ _) ?_
  refine goesI_region (dt_idle _ _) ?_
  simp only [List.size_toArray, List.length_cons, List.length_nil, Nat.reduceAdd, Nat.zero_add, List.range, List.range.loop]
  iterate 2
    (refine goesI_oper rfl rfl (by decide) (fun d K hK => ?_)
     go_simp
     refine hK _ _ ⟨dt_reads (fun e he => ?_), GoesI.at ?_ d⟩
     · have hm := mem_listed he
       simp [go_sem, *] at hm
     clear hK K)
  refine goesI_regionEnd (dt_idle _ _) ?_
  refine goesI_cond (dt_idle _ _) (t := true) (by simp [Act.eval]) ?_
  simp only [if_true, if_false, Bool.false_eq_true]
  refine goesI_outZ (c := low44) (f := 44) (fn := Try.f44) (L := LT) hE fineT hvw hn Try.func44 fineLow44 rfl hoc (R := fun r w' => r = I 50 ∧ w'.heap = v.heap ∧ w'.os = v.os ∧ w'.output = v.output) (fun τ => ?_) (fun r v' w' hR hr' hn' => ?_)
  · show Code.wp Try.prog (condA (seq2 (seq1 (seq2 (blockC (loopC (blockC (seq2 (Try.f44.body.getD .skip))))))))) _ _ _
    unfold Try.f44 condA seq2 seq1 blockC loopC
    simp only [Option.getD_some]
    go_wp2_with fail
    exact ⟨_, results_tmp rfl _ _ _, rfl, rfl, rfl, rfl⟩
  · obtain ⟨rfl, h1, h2, h3⟩ := hR
    exact hk v' w' hr' hn' h1 h2 h3
def dVal (lb cb tb : Nat) (x : Int) (u : Nat → Value) : Nat → Value
  | 5 => I x
  | 6 => Pt lb 0
  | 7 => Pt lb 0
  | 8 => Pt lb 0
  | 9 => Pt cb 0
  | 10 => Pt tb 0
  | 11 => I x
  | 12 => I x
  | 13 => .bool (x == 0)
  | 14 => Pt lb 0
  | 15 => Pt lb 0
  | 16 => Pt lb 0
  | 17 => Pt cb 0
  | 18 => Pt tb 0
  | 19 => I x
  | 20 => I x
  | 21 => I (wrap64 (x - 1))
  | k => u k
set_option maxHeartbeats 1000000 in
set_option maxRecDepth 100000 in
theorem down_try {z : Nat → Option Nat} {Ch : Nat → Prop} {Stop : Goroutine → World → Prop} {h : Nat} {cont : Addr → Value} {S : TS} {K : List (Nat × Int)} {v w : World} {i j cb lb : Nat} {t : Thr} (x : Int) (hx : x ≠ 0) (y : Int) (u : Nat → Value) (cs : List Frame) (Hm : Goroutine → Prop)
    (hH : ∀ g, OpBack (h == 0) i j cb t.tb 4 (effCas x (wrap64 (x - 1))) (fun r => G (dTried lb t.tb (dVal lb cb t.tb x u) r) cs) g → Hm g) (hlb : v.cell? ⟨lb, 0, none⟩ = some (Pt cb 0))
    (hvw : Rel z v w) (hn : NoRow Ch v) (hm : Mem z S K v) (ht : S.thr[i]? = some t) (hK : K[j]? = some (cb, y)) (hz : z t.tb = some 2) (hcont : cont ⟨t.tb, 2, none⟩ = .chan (some t.gc))
    (hstop : ∀ g w', GiveT z cont h S.bk t.gc Hm (Then z Ch S K v (waiting S i t 1 4 j) K) g w' → Stop g w') :
    GoesI Try.prog (h == 0) (DT (ScZ z) Ch) Stop (G (dSeen lb cb t.tb u (I x)) cs) w := by
  have e0 : w.cell? ⟨lb, 0, none⟩ = some (Pt cb 0) := by rw [hvw.cell?]; exact hlb
  have HM : Hid (Mem z S K v) := ⟨hm⟩
  clear hm
  unfold dSeen ops441 B44 L44 Try.f44 seq2 seq1 blockC loopC opsOf
  simp only [Option.getD_some]
  walk_nrm
  (refine goesI_oper rfl rfl (by decide) (fun d K hK => ?_)
   go_simp
   refine hK _ _ ⟨dt_reads (fun e he => ?_), GoesI.at ?_ d⟩
   · have hm := mem_listed he
     simp [go_sem, *] at hm
   clear hK K)
  refine goesI_regionEnd (dt_idle _ _) ?_
  refine goesI_seq (dt_idle _ _) ?_
  refine goesI_seq (dt_idle _ _) ?_
  refine goesI_region (dt_idle _ _) ?_
  simp only [List.size_toArray, List.length_cons, List.length_nil, Nat.reduceAdd, Nat.zero_add, List.range, List.range.loop]
  iterate 2
    (refine goesI_oper rfl rfl (by decide) (fun d K hK => ?_)
     go_simp
     refine hK _ _ ⟨dt_reads (fun e he => ?_), GoesI.at ?_ d⟩
     · have hm := mem_listed he
       simp [go_sem, *] at hm
     clear hK K)
  refine goesI_regionEnd (dt_idle _ _) ?_
  refine goesI_cond (dt_idle _ _) (t := false) (by simp [Act.eval, hx]) ?_
  simp only [if_true, if_false, Bool.false_eq_true]
  refine goesI_skip (dt_idle _ _) ?_
  refine goesI_seq (dt_idle _ _) ?_
  refine goesI_region (dt_idle _ _) ?_
  simp only [List.size_toArray, List.length_cons, List.length_nil, Nat.reduceAdd, Nat.zero_add, List.range, List.range.loop]
  iterate 8
    (refine goesI_oper rfl rfl (by decide) (fun d K hK => ?_)
     go_simp
     refine hK _ _ ⟨dt_reads (fun e he => ?_), GoesI.at ?_ d⟩
     · have hm := mem_listed he
       simp [go_sem, *] at hm
       try exact ⟨_, _, hm⟩
     clear hK K)
  rw [show IntKind.wrap .i64 (x - 1) = wrap64 (x - 1) from Go.IntWalk.i64_left _]
  refine goesI_into (f := 23) (fn := Try.f23) (args := #[Pt cb 0, Pt t.tb 0, I x, I (wrap64 (x - 1))]) (dt_idle _ _) rfl rfl (by decide) rfl (by simp [Act.eval]) Try.func23 (by decide) rfl ?_
  exact cas_goes x (wrap64 (x - 1)) y _ Hm rfl (fun g hg => hH g hg) hvw hn HM.out ht hK hz hcont hstop _ rfl
noncomputable def won44 : Code := condA (seq2 (seq2 (seq2 B44)))
theorem fineWon44 : fineCode Try.prog true LT won44 := fineCode_ask callT extT (by kernel_rfl)
set_option maxHeartbeats 1000000 in
set_option maxRecDepth 100000 in
theorem down_won {z : Nat → Option Nat} {Ch : Nat → Prop} {Stop : Goroutine → World → Prop} {main : Bool} {v w : World} {lb tb : Nat} (u : Nat → Value) (cs : List Frame) {bc : Frame} {ac : Act} {ops : Array Oper} {q : Nat} {rest : List Nat} {oc : Oper} {k : List Item} (hoc : ops[q]? = some oc)
    (hvw : Rel z v w) (hn : NoRow Ch v)
    (hk : ∀ v' w', Rel z v' w' → NoRow Ch v' → v'.heap = v.heap → v'.os = v.os → v'.output = v.output → GoesI Try.prog main (DT (ScZ z) Ch) Stop (G (bc.at (ac.put oc.dst (I 0)) (.inRegion ops rest :: k)) cs) w') :
    GoesI Try.prog main (DT (ScZ z) Ch) Stop (G (dTried lb tb u (.bool true)) (bc.at ac (.inRegion ops (q :: rest) :: k) :: cs)) w := by
  unfold dTried ops444 B44 L44 Try.f44 seq2 seq1 blockC loopC opsOf
  simp only [Option.getD_some]
  walk_nrm
  refine goesI_regionEnd (dt_idle _ _) ?_
  refine goesI_cond (dt_idle _ _) (t := true) rfl ?_
  simp only [if_true, if_false, Bool.false_eq_true]
  refine goesI_outZ (c := won44) (f := 44) (fn := Try.f44) (L := LT) hE fineT hvw hn Try.func44 fineWon44 rfl hoc (R := fun r w' => r = I 0 ∧ w'.heap = v.heap ∧ w'.os = v.os ∧ w'.output = v.output) (fun τ => ?_) (fun r v' w' hR hr' hn' => ?_)
  · show Code.wp Try.prog (condA (seq2 (seq2 (seq2 (blockC (loopC (blockC (seq2 (Try.f44.body.getD .skip))))))))) _ _ _
    unfold Try.f44 condA seq2 blockC loopC
    simp only [Option.getD_some]
    go_wp2_with fail
    exact ⟨_, results_tmp rfl _ _ _, rfl, rfl, rfl, rfl⟩
  · obtain ⟨rfl, h1, h2, h3⟩ := hR
    exact hk v' w' hr' hn' h1 h2 h3
set_option maxHeartbeats 1000000 in
set_option maxRecDepth 100000 in
theorem down_again {z : Nat → Option Nat} {Ch : Nat → Prop} {Stop : Goroutine → World → Prop} {main : Bool} {w : World} {lb tb : Nat} (u : Nat → Value) (cs : List Frame)
    (hk : ∀ u, GoesI Try.prog main (DT (ScZ z) Ch) Stop (G (dFr lb tb u) cs) w) :
    GoesI Try.prog main (DT (ScZ z) Ch) Stop (G (dTried lb tb u (.bool false)) cs) w := by
  unfold dFr L44 Try.f44 seq2 blockC loopC at hk
  simp only [Option.getD_some] at hk
  unfold dTried ops444 B44 L44 Try.f44 seq2 seq1 blockC loopC opsOf
  simp only [Option.getD_some]
  walk_nrm
  refine goesI_regionEnd (dt_idle _ _) ?_
  refine goesI_cond (dt_idle _ _) (t := false) rfl ?_
  simp only [if_true, if_false, Bool.false_eq_true]
  refine goesI_skip (dt_idle _ _) ?_
  refine goesI_inBlock (dt_idle _ _) ?_
  refine goesI_inLoop (dt_idle _ _) ?_
  exact hk (fun m => match m with | 22 => .bool false | m => u m)
end Go.Proofs.Ytehingmdmijedaa.Gen
