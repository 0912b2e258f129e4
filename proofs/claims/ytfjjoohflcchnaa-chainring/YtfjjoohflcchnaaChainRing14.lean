/- ChainRing: of a ring the last who writes down is told, under every schedule. Part 14 of 37. (Joined, by program, of: Main35, GDrive1, GDrive2.) -/
import Derived.Test.YtfjjoohflcchnaaChainRing13
set_option linter.unusedSimpArgs false
set_option linter.unusedVariables false
namespace Go.Proofs.Ytfjjoohflcchnaa
open Go Go.Lift Go.Conc Go.RowKit

/-- The head of the loop of turns. -/
noncomputable def tFr (wb : Nat) (u : Nat → Value) : Frame := (base 86).at ⟨#[Pt wb 0, u 1, u 2, u 3, u 4, u 5, u 6, u 7, u 8, u 9, u 10, u 11, u 12, u 13, u 14, u 15, u 16, u 17, u 18, u 19, u 20, u 21, u 22, u 23, u 24, u 25, u 26, u 27, u 28, u 29, u 30] ++ #[u 31, u 32, u 33, u 34, u 35, u 36, u 37, u 38, u 39, u 40, u 41, u 42, u 43, u 44, u 45, u 46, u 47, u 48, u 49, u 50, u 51, u 52, u 53, u 54, u 55, u 56, u 57, u 58, u 59, u 60, u 61], []⟩ [.code TL, .inLoop TL, .inBlock 4]

set_option maxHeartbeats 2000000 in
set_option maxRecDepth 100000 in
/-- All are hired. -/
theorem hire_done {z : Nat → Option Nat} {Ch : Nat → Prop} {Stop : Goroutine → World → Prop} {main : Bool} {w : World} {wb : Nat} (bsl : Value) (n : Nat) (u : Nat → Value) (cs : List Frame)
    (hk : ∀ u', GoesI Try.prog main (DT (ScZ z) Ch) Stop (G (tFr wb u') cs) w) : GoesI Try.prog main (DT (ScZ z) Ch) Stop (G (hFr wb bsl n n u) cs) w := by
  have hi' : ¬ (n : Int) < (n : Int) := by omega
  have hk := hk (fun m => match m with | 1 => bsl | 2 => undef | 3 => undef | 30 => bsl | 31 => I n | 32 => I n | 33 => .bool false | m => u m)
  unfold tFr TL D35 B35 Try.f86 seq2 blockC loopC at hk
  unfold hFr D35 HL B35 Try.f86 seq2 seq1 blockC loopC
  simp only [Option.getD_some, List.append_toArray, List.cons_append, List.nil_append] at hk ⊢
  refine goesI_seq (dt_idle _ _) ?_
  refine goesI_region (dt_idle _ _) ?_
  simp only [List.size_toArray, List.length_cons, List.length_nil, Nat.reduceAdd, Nat.zero_add, List.range, List.range.loop]
  iterate 1
    (refine goesI_oper rfl rfl (by decide) (fun d K hK => ?_)
     go_simp
     refine hK _ _ ⟨dt_reads (fun e he => ?_), GoesI.at ?_ d⟩
     · have hm := mem_listed he
       simp [go_sem, *] at hm
       try exact ⟨_, _, hm⟩
     clear hK K)
  refine goesI_regionEnd (dt_idle _ _) ?_
  refine goesI_seq (dt_idle _ _) ?_
  refine goesI_cond (dt_idle _ _) (t := false) rfl ?_
  simp only [if_true, if_false, Bool.false_eq_true]
  refine goesI_exit (dt_idle _ _) rfl ?_
  refine goesI_block (dt_idle _ _) ?_
  refine goesI_loop (dt_idle _ _) ?_
  exact hk

set_option maxHeartbeats 2000000 in
set_option maxRecDepth 100000 in
/-- A turn is asked for. -/
theorem turn_in {z : Nat → Option Nat} {Ch : Nat → Prop} {Stop : Goroutine → World → Prop} {main : Bool} {w : World} {wb : Nat} (u : Nat → Value) (cs : List Frame)
    (hk : ∀ (bd : Frame) (ad : Act) (od : Array Oper) (qd : Nat) (rd : List Nat) (oe : Oper) (kd : List Item), od[qd]? = some oe →
      (∀ (z : Nat → Option Nat) (Ch : Nat → Prop) (Stop : Goroutine → World → Prop) (w : World), (∀ u', GoesI Try.prog main (DT (ScZ z) Ch) Stop (G (tFr wb u') cs) w) → GoesI Try.prog main (DT (ScZ z) Ch) Stop (G (bd.at (ad.put oe.dst (.bool true)) (.inRegion od rd :: kd)) cs) w) →
      (∀ (z : Nat → Option Nat) (Ch : Nat → Prop) (Stop : Goroutine → World → Prop) (w : World) (bc : Frame) (ac : Act) (ops : Array Oper) (q : Nat) (rest : List Nat) (oc : Oper) (k : List Item) (cs' : List Frame), cs = bc.at ac (.inRegion ops (q :: rest) :: k) :: cs' → ops[q]? = some oc → GoesI Try.prog main (DT (ScZ z) Ch) Stop (G (bc.at (ac.put oc.dst (.tuple #[])) (.inRegion ops rest :: k)) cs') w →
        GoesI Try.prog main (DT (ScZ z) Ch) Stop (G (bd.at (ad.put oe.dst (.bool false)) (.inRegion od rd :: kd)) cs) w) → ∀ code, Try.f113.body = some code →
      GoesI Try.prog main (DT (ScZ z) Ch) Stop (G ((base 113).at { tmps := #[Pt wb 0] ++ Array.replicate 72 undef, defers := [] } [.code code]) (bd.at ad (.inRegion od (qd :: rd) :: kd) :: cs)) w) :
    GoesI Try.prog main (DT (ScZ z) Ch) Stop (G (tFr wb u) cs) w := by
  unfold tFr TL D35 B35 Try.f86 seq2 blockC loopC
  simp only [Option.getD_some, List.append_toArray, List.cons_append, List.nil_append]
  refine goesI_seq (dt_idle _ _) ?_
  refine goesI_seq (dt_idle _ _) ?_
  refine goesI_region (dt_idle _ _) ?_
  simp only [List.size_toArray, List.length_cons, List.length_nil, Nat.reduceAdd, Nat.zero_add, List.range, List.range.loop]
  iterate 1
    (refine goesI_oper rfl rfl (by decide) (fun d K hK => ?_)
     go_simp
     refine hK _ _ ⟨dt_reads (fun e he => ?_), GoesI.at ?_ d⟩
     · have hm := mem_listed he
       simp [go_sem, *] at hm
       try exact ⟨_, _, hm⟩
     clear hK K)
  refine goesI_into (f := 113) (fn := Try.f113) (args := #[Pt wb 0]) (dt_idle _ _) rfl rfl (by decide) rfl (by simp [Act.eval]) Try.func113 (by decide) rfl ?_
  refine hk _ _ _ _ _ _ _ rfl (fun z Ch Stop w hg => ?_) (fun z Ch Stop w bc ac ops q rest oc k cs' hcs ho hg => ?_) _ rfl
  · have hg := hg (fun m => match m with | 60 => Pt wb 0 | 61 => .bool true | m => u m)
    unfold tFr TL D35 B35 Try.f86 seq2 blockC loopC at hg
    simp only [Option.getD_some, List.append_toArray, List.cons_append, List.nil_append] at hg
    refine goesI_regionEnd (dt_idle _ _) ?_
    refine goesI_cond (dt_idle _ _) (t := true) rfl ?_
    simp only [if_true, if_false, Bool.false_eq_true]
    refine goesI_skip (dt_idle _ _) ?_
    refine goesI_block (dt_idle _ _) ?_
    refine goesI_skip (dt_idle _ _) ?_
    refine goesI_inBlock (dt_idle _ _) ?_
    refine goesI_inLoop (dt_idle _ _) ?_
    exact hg
  · subst hcs
    refine goesI_regionEnd (dt_idle _ _) ?_
    refine goesI_cond (dt_idle _ _) (t := false) rfl ?_
    simp only [if_true, if_false, Bool.false_eq_true]
    refine goesI_exit (dt_idle _ _) rfl ?_
    refine goesI_end (dt_idle _ _) ?_
    refine goesI_leave (b := base 86) (fn := Try.f86) rfl ?_ Try.func86 (fun w => results_none rfl _ _ _) (fun w => by simp [results, go_sem]) ho (dt_idle _ _) hg
    show (Act.put _ _ _).defers = []
    unfold Act.put
    split <;> rfl

theorem ran_ev {z : Nat → Option Nat} {S : TS} {v : World} (h : Rep z S v) : Ev z S v { S with ran := true } (v.setCell ⟨S.wb, 7, none⟩ (.bool true)) := by
  have hst : ∀ k b, blk S k = some b → k ≠ 0 → (v.setCell ⟨S.wb, 7, none⟩ (.bool true)).heap[b]? = v.heap[b]? := fun k b hk h0 => Below.heap_setCell _ _ _ _ (fun e => h0 (h.apart k 0 b hk (by rw [e]; rfl)))
  have hblk : ∀ k, blk { S with ran := true } k = blk S k := fun k => by match k with | 0 => rfl | 1 => rfl | 2 => rfl | 3 => rfl | 4 => rfl | k + 5 => rfl
  refine ⟨⟨?_, fun i t ht => ?_, own_stay (fun b hb => hst 3 b hb (by omega)) h.own, own_stay (fun b hb => hst 1 b hb (by omega)) h.chg, own_stay (fun b hb => hst 2 b hb (by omega)) h.ths, own_stay (fun b hb => hst 4 b hb (by omega)) h.sch, ?_, fun j k b hj hk => ?_, h.kept⟩, ⟨rfl, rfl, by simp [World.setCell], fun b hb hs => Below.heap_setCell _ _ _ _ (fun e => hs ⟨0, by rw [e]; rfl⟩)⟩, fun b ⟨k, hk⟩ => .inl ⟨k, by rw [← hblk]; exact hk⟩⟩
  · have := heap_setCell_same (o := 7) h.wor (.bool true)
    simpa using this
  · rw [hst (i + 5) t.tb (by simp only [blk]; rw [show S.thr[i]? = some t from ht]; rfl) (by omega)]
    exact h.thr i t ht
  · show S.base ≤ _
    simpa [World.setCell] using h.bs
  · exact h.apart j k b (by rw [← hblk]; exact hj) (by rw [← hblk]; exact hk)

set_option maxHeartbeats 2000000 in
set_option maxRecDepth 100000 in
/-- Run's entry, of a world that has not run. -/
theorem run35_in {z : Nat → Option Nat} {Ch : Nat → Prop} {Stop : Goroutine → World → Prop} {main : Bool} {S : TS} {K : List (Nat × Int)} {v w : World} (p : Option Addr) (n cap : Nat) (cs : List Frame)
    (hvw : Rel z v w) (hn : NoRow Ch v) (hm : Mem z S K v) (hr : S.ran = false)
    (hk : ∀ v' w' u, Rel z v' w' → NoRow Ch v' → Evo z S K v { S with ran := true } K v' → GoesI Try.prog main (DT (ScZ z) Ch) Stop (G (hFr S.wb (.slice p n cap) n 0 u) cs) w') (code : Code) (hc : Try.f86.body = some code) :
    GoesI Try.prog main (DT (ScZ z) Ch) Stop (G ((base 86).at { tmps := #[Pt S.wb 0, .slice p n cap] ++ Array.replicate 60 undef, defers := [] } [.code code]) cs) w := by
  have hc0 : code = B35 := by
    unfold B35
    rw [hc]
    rfl
  subst hc0
  clear hc
  have e7 : w.cell? ⟨S.wb, 7, none⟩ = some (.bool false) := by rw [hvw.cell?, hm.rep.wcell.2.2.2.2.2.2.2.1, hr]
  have c7 : v.cell? ⟨S.wb, 7, none⟩ = some (.bool false) := by rw [hm.rep.wcell.2.2.2.2.2.2.2.1, hr]
  have f7 : v.frozen? ⟨S.wb, 7, none⟩ = false := fz_off hm.rep 7 (by omega)
  have HE : Hid (Evo z S K v { S with ran := true } K (v.setCell ⟨S.wb, 7, none⟩ (.bool true))) := ⟨Evo.of_ev hm (ran_ev hm.rep) rfl⟩
  clear hm hr
  unfold B35 Try.f86
  simp only [Option.getD_some, Array.replicate_succ, Array.replicate_zero, List.push_toArray, List.append_toArray, List.nil_append, List.cons_append]
  refine goesI_seq (dt_idle _ _) ?_
  refine goesI_seq (dt_idle _ _) ?_
  refine goesI_region (dt_idle _ _) ?_
  simp only [List.size_toArray, List.length_cons, List.length_nil, Nat.reduceAdd, Nat.zero_add, List.range, List.range.loop]
  iterate 1
    (refine goesI_oper rfl rfl (by decide) (fun d K hK => ?_)
     go_simp
     refine hK _ _ ⟨dt_reads (fun e he => ?_), GoesI.at ?_ d⟩
     · have hm := mem_listed he
       simp [go_sem, *] at hm
       try exact ⟨_, _, hm⟩
     clear hK K)
  refine goesI_opZ (L := LT) rfl rfl (by decide) (fineOp_ask callT extT (by kernel_rfl)) hvw hn (x := .bool false) (v' := v) (by go_simp) rfl (fun w1 hvw1 _ => ?_)
  replace e7 : w1.cell? ⟨S.wb, 7, none⟩ = some (.bool false) := by rw [hvw1.cell?]; exact c7
  clear hvw
  rename Rel z v w1 => hvw
  refine goesI_regionEnd (dt_idle _ _) ?_
  refine goesI_cond (dt_idle _ _) (t := false) rfl ?_
  simp only [if_true, if_false, Bool.false_eq_true]
  refine goesI_skip (dt_idle _ _) ?_
  refine goesI_seq (dt_idle _ _) ?_
  refine goesI_seq (dt_idle _ _) ?_
  refine goesI_region (dt_idle _ _) ?_
  simp only [List.size_toArray, List.length_cons, List.length_nil, Nat.reduceAdd, Nat.zero_add, List.range, List.range.loop]
  iterate 4
    (refine goesI_oper rfl rfl (by decide) (fun d K hK => ?_)
     go_simp
     refine hK _ _ ⟨dt_reads (fun e he => ?_), GoesI.at ?_ d⟩
     · have hm := mem_listed he
       simp [go_sem, *] at hm
       try exact ⟨_, _, hm⟩
     clear hK K)
  refine goesI_regionEnd (dt_idle _ _) ?_
  refine goesI_cond (dt_idle _ _) (t := false) rfl ?_
  simp only [if_true, if_false, Bool.false_eq_true]
  refine goesI_skip (dt_idle _ _) ?_
  refine goesI_seq (dt_idle _ _) ?_
  refine goesI_region (dt_idle _ _) ?_
  simp only [List.size_toArray, List.length_cons, List.length_nil, Nat.reduceAdd, Nat.zero_add, List.range, List.range.loop]
  iterate 3
    (refine goesI_oper rfl rfl (by decide) (fun d K hK => ?_)
     go_simp
     refine hK _ _ ⟨dt_reads (fun e he => ?_), GoesI.at ?_ d⟩
     · have hm := mem_listed he
       simp [go_sem, *] at hm
       try exact ⟨_, _, hm⟩
     clear hK K)
  clear e7
  refine goesI_doZ (L := LT) rfl rfl (by decide) (fineOp_ask callT extT (by kernel_rfl)) hvw hn (v' := v.setCell ⟨S.wb, 7, none⟩ (.bool true)) (by go_simp) rfl (fun w2 hr2 hn2 => ?_)
  refine goesI_regionEnd (dt_idle _ _) ?_
  refine goesI_seq (dt_idle _ _) ?_
  refine goesI_seq (dt_idle _ _) ?_
  refine goesI_region (dt_idle _ _) ?_
  simp only [List.size_toArray, List.length_cons, List.length_nil, Nat.reduceAdd, Nat.zero_add, List.range, List.range.loop]
  iterate 3
    (refine goesI_oper rfl rfl (by decide) (fun d K hK => ?_)
     go_simp
     refine hK _ _ ⟨dt_reads (fun e he => ?_), GoesI.at ?_ d⟩
     · have hm := mem_listed he
       simp [go_sem, *] at hm
       try exact ⟨_, _, hm⟩
     clear hK K)
  refine goesI_regionEnd (dt_idle _ _) ?_
  refine goesI_block (dt_idle _ _) ?_
  refine goesI_loop (dt_idle _ _) ?_
  have hk := hk _ w2 (fun m => match m with | 10 => Pt S.wb 0 | 11 => .bool false | 23 => Pt S.wb 0 | 24 => Pt S.wb 0 | 25 => Pt S.wb 7 | 26 => .bool false | 27 => Pt S.wb 0 | 28 => Pt S.wb 0 | 29 => Pt S.wb 7 | _ => undef) hr2 hn2 HE.out
  unfold hFr D35 HL B35 Try.f86 seq2 seq1 blockC loopC at hk
  simp only [Option.getD_some, List.append_toArray, List.cons_append, List.nil_append] at hk
  exact hk
end Go.Proofs.Ytfjjoohflcchnaa

namespace Go.Proofs.Ytfjjoohflcchnaa.Gen
open Go Go.Lift Go.Conc Go.RowKit
open Go.ConcN (upd upd_same upd_ne)
variable {mc : Mc}

/-- A thread's row tells where it sits. -/
def FitsN : Ph → Thr → Prop
  | .turn op j _ _ _ _, t => t.op = op ∧ t.ce = j
  | .wait _ _ _ _ _, _ => True
  | .done _, t => t.st = 3
theorem FitsN.fits {X : Fix mc} {l : Ph} {t : Thr} (h : FitsN l t) : Fits X l t := by
  match l, h with
  | .turn _ _ _ _ _ _, h => exact h
  | .wait _ _ _ _ _, _ => trivial
  | .done _, _ => trivial
/-- .. and how it waits. -/
def StN : Ph → Thr → Prop
  | .turn _ _ _ _ _ _, t => t.st = 1
  | .wait _ _ _ _ _, t => t.st = 2
  | .done _, t => t.st = 3
theorem set_get {S : TS} {i : Nat} {t t' : Thr} (ht : S.thr[i]? = some t) : (S.thr.set i t')[i]? = some t' := by
  have hi : i < S.thr.length := (List.getElem?_eq_some_iff.1 ht).1
  rw [List.getElem?_set, if_pos rfl, if_pos hi]
theorem did_thr {S : TS} {i : Nat} {tv : Value} {t t0 : Thr} {b a : Int} (ht : S.thr[i]? = some t0) : (didS S tv i t b a).thr[i]? = some t0 := by
  unfold didS
  split <;> exact ht
theorem flow_fs (i : Nat) (m : Mc) : ∀ (rest : List Cl) (ii : Nat) (sk : Bool) (ans : List (Int × Int)) (S : TS) (t : Thr), S.thr[i]? = some t → ∃ t', (flow i m rest ii sk ans S).1.thr[i]? = some t' ∧ FitsN (flow i m rest ii sk ans S).2 t' ∧ StN (flow i m rest ii sk ans S).2 t'
  | [], ii, sk, ans, S, t, ht => ⟨{ thrI S i with st := 3 }, set_get ht, rfl, rfl⟩
  | c :: rest, ii, true, ans, S, t, ht => flow_fs i m rest (ii + 1) true _ S t ht
  | c :: rest, ii, false, ans, S, t, ht => by
    unfold flow
    split
    · exact flow_fs i m rest (ii + 1) _ _ _ t ht
    · exact ⟨_, set_get (S := noted S undef i 9 (-1) ii 0) ht, ⟨rfl, rfl⟩, rfl⟩
    · split
      · exact flow_fs i m rest (ii + 1) _ _ _ t ht
      · exact ⟨_, set_get (S := noted S undef i 9 (-1) ii 0) ht, trivial, rfl⟩
theorem on_fs (i : Nat) (m : Mc) (rest : List Cl) (ii : Nat) (ans : List (Int × Int)) (S : TS) (K : List (Nat × Int)) (x : Nx) (t : Thr) (ht : S.thr[i]? = some t) : ∃ t', (on i m rest ii ans S K x).1.thr[i]? = some t' ∧ FitsN (on i m rest ii ans S K x).2.2 t' ∧ StN (on i m rest ii ans S K x).2.2 t' := by
  cases x with
  | ans e x => exact flow_fs i m rest (ii + 1) _ _ (noted S undef i 10 (-1) ii e) t ht
  | turn op j q => exact ⟨_, set_get ht, ⟨rfl, rfl⟩, rfl⟩
  | wait j q =>
    rw [on_wait]
    split
    · exact flow_fs i m rest (ii + 1) _ _ (noted S undef i 10 (-1) ii _) t ht
    · exact ⟨_, set_get ht, trivial, rfl⟩
theorem resume_fs (i : Nat) (m : Mc) (S : TS) (K : List (Nat × Int)) (t : Thr) (ht : S.thr[i]? = some t) (l : Ph) (hl : ∀ a, l ≠ .done a) : ∃ t', (resume i m l S K).1.thr[i]? = some t' ∧ FitsN (resume i m l S K).2.2 t' ∧ StN (resume i m l S K).2.2 t' := by
  match l, hl with
  | .turn op j q rest ii ans, _ => rw [resume_turn]; exact on_fs _ _ _ _ _ _ _ _ t (did_thr ht)
  | .wait j q rest ii ans, _ =>
    rw [resume_wait]
    split
    · exact flow_fs i m rest (ii + 1) _ _ (noted S undef i 10 (-1) ii _) t ht
    · exact on_fs _ _ _ _ _ _ _ _ t ht
  | .done a, hl => exact absurd rfl (hl a)

/-- The run's state: the world, its cells, where the threads sit. -/
structure PSt where
  S : TS
  K : List (Nat × Int)
  l : Nat → Ph
/-- Who goes next. -/
def nextI (S : TS) : Nat := ((rdyIds S S.thr.length)[pickAt S (rdyIds S S.thr.length)]?).getD 0
/-- A turn; none: all have ended. -/
def pturn (nk : Mc) (p : PSt) : Option PSt :=
  if rdyIds p.S p.S.thr.length = [] then
    if waits2 p.S p.S.thr.length then some ⟨stuckS p.S undef, p.K, p.l⟩ else none
  else
    some ⟨(resume (nextI p.S) nk (p.l (nextI p.S)) (going p.S (nextI p.S) (thrI p.S (nextI p.S))) p.K).1, (resume (nextI p.S) nk (p.l (nextI p.S)) (going p.S (nextI p.S) (thrI p.S (nextI p.S))) p.K).2.1, upd p.l (nextI p.S) (resume (nextI p.S) nk (p.l (nextI p.S)) (going p.S (nextI p.S) (thrI p.S (nextI p.S))) p.K).2.2⟩

section
variable {z : Nat → Option Nat} {Ch : Nat → Prop} {cont : Addr → Value} {v w : World} {c : Nat}
theorem kc_chan (hz : z c = none) (h : KC (ScZ z) cont w) (cap : Nat) (buf : Array Value) (cl : Bool) (a b : Nat) (tm : Bool) : KC (ScZ z) cont (w.setChan c cap buf cl a b tm) := fun x hx => by
  have hne : c ≠ x.block := fun e => by rw [e, hx.2] at hz; cases hz
  rw [World.cell?_of_block (heap_setChan_ne w cap buf cl a b tm hne)]
  exact h x hx
theorem rel_chan (hr : Rel z v w) (hz : z c = none) (cap : Nat) (buf : Array Value) (cl : Bool) (a b : Nat) (tm : Bool) (d : Nat) : Rel z (v.setChan c cap buf cl a b tm) ((w.at d).setChan c cap buf cl a b tm) := by
  refine ⟨fun r => ?_, fun r n x e f hzr hh => ?_, fun r n hzr => by simpa [World.setChan] using hr.low r n hzr, hr.os, hr.output⟩
  · by_cases e : c = r
    · subst e
      rw [hz]
      have hs := hr.size
      by_cases hlt : c < v.heap.size
      · have hlw : c < (w.at d).heap.size := by show c < w.heap.size; omega
        rw [heap_setChan_self (w.at d) (Array.getElem?_eq_getElem hlw), heap_setChan_self v (Array.getElem?_eq_getElem hlt)]
        rfl
      · have : ¬ c < w.heap.size := by omega
        simp [World.setChan, World.at, hlt, this]
    · rw [heap_setChan_ne _ _ _ _ _ _ _ e, heap_setChan_ne _ _ _ _ _ _ _ e]
      exact hr.heap r
  · have hne : c ≠ r := fun e => by rw [e, hzr] at hz; cases hz
    rw [heap_setChan_ne _ _ _ _ _ _ _ hne] at hh
    exact hr.kept r n x e f hzr hh
theorem has_chan {M : Nat → Option Obj} (h : Has M v) (hrow : ∀ b o, M b = some o → ∃ x e f, o = .cells x e f) (hc : ∃ o, v.heap[c]? = some o ∧ ∀ x e f, o ≠ .cells x e f) (cap : Nat) (buf : Array Value) (cl : Bool) (a b : Nat) (tm : Bool) : Has M (v.setChan c cap buf cl a b tm) := fun y o ho => by
  have hne : c ≠ y := fun e => by
    subst e
    obtain ⟨x, e, f, rfl⟩ := hrow _ o ho
    obtain ⟨o', h1, h2⟩ := hc
    rw [h _ _ ho] at h1
    cases h1
    exact h2 _ _ _ rfl
  rw [heap_setChan_ne _ _ _ _ _ _ _ hne]
  exact h y o ho
end
end Go.Proofs.Ytfjjoohflcchnaa.Gen

namespace Go.Proofs.Ytfjjoohflcchnaa.Gen
open Go Go.Lift Go.Conc Go.RowKit
open Go.ConcN (upd upd_same upd_ne)
variable {mc : Mc}

section
variable {Wr : Nat → Prop} {z : Nat → Option Nat} {S S' : TS} {K K' : List (Nat × Int)} {v v' : World}
/-- The world's blocks are rows. -/
theorem _root_.Go.Proofs.Ytfjjoohflcchnaa.Mem.row (h : Mem z S K v) {b : Nat} (hb : Own S K b) : ∃ c e f, v.heap[b]? = some (.cells c e f) := by
  have own : ∀ {base : Nat} {e : TypeId} {size : Nat} {x : Value} {n : Nat} {xs : List Value}, v.ownsRow base e size x n xs → x.ownBlock = some b → ∃ c e f, v.heap[b]? = some (.cells c e f) := fun {base e size x n xs} ho hx => by
    rcases ho.2 with ⟨rfl, _⟩ | ⟨g, cap, cur, rfl, _, h3, _⟩
    · cases hx
    · cases Option.some.inj hx
      exact ⟨_, _, _, h3⟩
  rcases hb with ⟨k, hk⟩ | ⟨j, c, hc, rfl⟩
  · match k, hk with
    | 0, hk => cases hk; exact ⟨_, _, _, h.rep.wor⟩
    | 1, hk => exact own h.rep.chg hk
    | 2, hk => exact own h.rep.ths hk
    | 3, hk => exact own h.rep.own hk
    | 4, hk => exact own h.rep.sch hk
    | k + 5, hk =>
      simp only [blk, Option.map_eq_some_iff] at hk
      obtain ⟨t, ht, rfl⟩ := hk
      exact ⟨_, _, _, h.rep.thr k t ht⟩
  · exact ⟨_, _, _, h.cel j c hc⟩
theorem keepM (he : EvoP Wr z S K v S' K' v') {M : Nat → Option Obj} (hM : Has M v) (hfar : ∀ b, M b ≠ none → ¬ Own S K b) (hd : ∀ b, M b ≠ none → ¬ Wr b) : Has M v' ∧ ∀ b, M b ≠ none → ¬ Own S' K' b := by
  have k : ∀ b o, M b = some o → v'.heap[b]? = v.heap[b]? ∧ ¬ Own S' K' b := fun b o hb => he.keeps (Array.getElem?_eq_some_iff.1 (hM b o hb)).1 (hfar b (by rw [hb]; simp)) (hd b (by rw [hb]; simp))
  refine ⟨fun b o hb => by rw [(k b o hb).1]; exact hM b o hb, fun b hb => ?_⟩
  obtain ⟨o, ho⟩ := Option.ne_none_iff_exists'.1 hb
  exact (k b o ho).2
theorem Has.lt {M : Nat → Option Obj} (hM : Has M v) {b : Nat} (hb : M b ≠ none) : b < v.heap.size := by
  obtain ⟨o, ho⟩ := Option.ne_none_iff_exists'.1 hb
  exact (Array.getElem?_eq_some_iff.1 (hM b o ho)).1
end

/-- What main has in mind: blocks, and what was said to the outside. -/
structure Keep where
  M : Nat → Option Obj
  os : Os
  out : Array (Nat × ByteArray)
theorem has_ne {v : World} {M : Nat → Option Obj} {c : Nat} (h : Has M v) (hne : ∀ b, M b ≠ none → b ≠ c) (cap : Nat) (buf : Array Value) (cl : Bool) (a b : Nat) (tm : Bool) : Has M (v.setChan c cap buf cl a b tm) := fun y o ho => by
  rw [heap_setChan_ne _ _ _ _ _ _ _ (fun e => hne y (by rw [ho]; simp) e.symm)]
  exact h y o ho
def Open (v : World) (c : Nat) : Prop := ∃ cap n, v.heap[c]? = some (.chan cap #[] false n n false)
structure Crew (k : Nat) (X : Nat → Fix mc) (l : Nat → Ph) (E : Nat → Nat → Prop) (M : Nat → Nat → Option Obj) (Mm : Keep) (z : Nat → Option Nat) (cont : Addr → Value) (Ch : Nat → Prop) (S : TS) (K : List (Nat × Int)) (v : World) (gsz : Nat) : Prop where
  len : k ≤ S.thr.length
  ok : ∀ i, i < k → (X i).Ok ∧ (X i).i = i ∧ Kb (X i) K
  thr : ∀ i, i < k → ∃ t, S.thr[i]? = some t ∧ t.tb = (X i).tb ∧ t.gc = (X i).gc ∧ FitsN (l i) t
  hinj : ∀ i j, i < k → j < k → (X i).h = (X j).h → i = j
  ginj : ∀ i j, i < k → j < k → (X i).gc = (X j).gc → i = j
  gbk : ∀ i, i < k → (X i).gc ≠ S.bk
  hlt : ∀ i, i < k → (X i).h < gsz
  zs : ∀ i, i < k → z (X i).tb = some 2 ∧ cont ⟨(X i).tb, 2, none⟩ = .chan (some (X i).gc) ∧ Ch (X i).gc
  z0 : z S.wb = some 8 ∧ cont ⟨S.wb, 8, none⟩ = .chan (some S.bk) ∧ Ch S.bk
  zc : ∀ c, Ch c → z c = none
  opn : ∀ c, Ch c → Open v c
  sees : ∀ i, i < k → Sees (X i) (E i) (M i) (l i).ans ∧ Has (M i) v ∧ ∀ b, M i b ≠ none → ¬ Own S K b
  apart : ∀ i j, i < k → j < k → i ≠ j → ∀ b, M j b ≠ none → ¬ (b = (X i).ab ∨ E i b)
  mine : Has Mm.M v ∧ (∀ b, Mm.M b ≠ none → ¬ Own S K b) ∧ (∀ b, Mm.M b ≠ none → ¬ Ch b) ∧ (∀ i, i < k → ∀ b, Mm.M b ≠ none → ¬ (b = (X i).ab ∨ E i b)) ∧ v.os = Mm.os ∧ v.output = Mm.out

section
variable {k : Nat} {X : Nat → Fix mc} {l : Nat → Ph} {E : Nat → Nat → Prop} {M : Nat → Nat → Option Obj} {Mm : Keep} {z : Nat → Option Nat} {cont : Addr → Value} {Ch : Nat → Prop} {S S' : TS} {K K' : List (Nat × Int)} {v v' : World} {gsz : Nat}
theorem Crew.noRow (h : Crew k X l E M Mm z cont Ch S K v gsz) : NoRow Ch v := fun c hc => by
  obtain ⟨cap, n, hh⟩ := h.opn c hc
  exact ⟨_, hh, fun _ _ _ e => by cases e⟩
theorem Crew.abM (h : Crew k X l E M Mm z cont Ch S K v gsz) {i : Nat} (hi : i < k) {b : Nat} (hb : b = (X i).ab ∨ E i b) : M i b ≠ none := by
  rcases hb with rfl | hb
  · exact (h.sees i hi).1.pr _ (.inr (.inr (.inl rfl)))
  · exact (h.sees i hi).1.ex _ hb
theorem open_stay {Wr : Nat → Prop} (hm : Mem z S K v) (he : EvoP Wr z S K v S' K' v') {c : Nat} (ho : Open v c) (hw : ∀ b, Wr b → ∃ x e f, v.heap[b]? = some (.cells x e f)) : Open v' c := by
  obtain ⟨cap, n, hh⟩ := ho
  refine ⟨cap, n, ?_⟩
  rw [(he.keeps (b := c) (Array.getElem?_eq_some_iff.1 hh).1 (fun h => ?_) (fun h => ?_)).1, hh]
  · obtain ⟨x, e, f, h1⟩ := hm.row h
    rw [hh] at h1; cases h1
  · obtain ⟨x, e, f, h1⟩ := hw c h
    rw [hh] at h1; cases h1

/-- A channel has turned. -/
theorem Crew.chan (h : Crew k X l E M Mm z cont Ch S K v gsz) {c : Nat} (hc : Ch c) (cap n : Nat) : Crew k X l E M Mm z cont Ch S K (v.setChan c cap #[] false n n false) gsz := by
  obtain ⟨o, ho, hno⟩ := h.noRow c hc
  refine ⟨h.len, h.ok, h.thr, h.hinj, h.ginj, h.gbk, h.hlt, h.zs, h.z0, h.zc, fun c' hc' => ?_, fun i hi => ?_, h.apart, ?_⟩
  · by_cases e : c = c'
    · subst e
      exact ⟨cap, n, heap_setChan_self v ho cap #[] false n n false⟩
    · obtain ⟨cp, m, hh⟩ := h.opn c' hc'
      exact ⟨cp, m, by rw [heap_setChan_ne _ _ _ _ _ _ _ e]; exact hh⟩
  · have := h.sees i hi
    exact ⟨this.1, has_chan this.2.1 this.1.row ⟨o, ho, hno⟩ cap #[] false n n false, this.2.2⟩
  · exact ⟨has_ne h.mine.1 (fun b hb e => h.mine.2.2.1 b hb (e ▸ hc)) cap #[] false n n false, h.mine.2⟩

/-- Main has gone a stretch. -/
theorem Crew.main (h : Crew k X l E M Mm z cont Ch S K v gsz) (hm : Mem z S K v) (he : Evo z S K v S' K v') (hwb : S'.wb = S.wb) (hbk : S'.bk = S.bk) (hlen : S'.thr.length = S.thr.length)
    (ht : ∀ (i : Nat) (t : Thr), S.thr[i]? = some t → ∃ t' : Thr, S'.thr[i]? = some t' ∧ t'.tb = t.tb ∧ t'.gc = t.gc ∧ t'.op = t.op ∧ t'.ce = t.ce ∧ (t.st = 3 → t'.st = 3)) : Crew k X l E M Mm z cont Ch S' K v' gsz := by
  have hp : EvoP (fun _ => False) z S K v S' K v' := he.toP
  refine ⟨by rw [hlen]; exact h.len, h.ok, fun i hi => ?_, h.hinj, h.ginj, fun i hi => by rw [hbk]; exact h.gbk i hi, h.hlt, h.zs, by rw [hwb, hbk]; exact h.z0, h.zc, fun c hc => open_stay hm hp (h.opn c hc) (fun _ h => h.elim), fun i hi => ?_, h.apart, ?_⟩
  · obtain ⟨t, h1, h2, h3, h4⟩ := h.thr i hi
    obtain ⟨t', k1, k2, k3, k4, k5, k6⟩ := ht i t h1
    refine ⟨t', k1, k2.trans h2, k3.trans h3, ?_⟩
    match hl : l i, h4 with
    | .turn _ _ _ _ _ _, h4 => exact ⟨k4.trans h4.1, k5.trans h4.2⟩
    | .wait _ _ _ _ _, h4 => exact h4
    | .done _, h4 => exact k6 h4
  · have := h.sees i hi
    exact ⟨this.1, keepM hp this.2.1 this.2.2 (fun _ _ h => h)⟩
  · have := keepM hp h.mine.1 h.mine.2.1 (fun _ _ h => h)
    exact ⟨this.1, this.2, h.mine.2.2.1, h.mine.2.2.2.1, he.fr.os.trans h.mine.2.2.2.2.1, he.fr.output.trans h.mine.2.2.2.2.2⟩

/-- A thread has gone from its seat to its next one. -/
theorem Crew.thread (h : Crew k X l E M Mm z cont Ch S K v gsz) (hm : Mem z S K v) {i : Nat} (hi : i < k) (he : EvoP (fun b => b = (X i).ab ∨ E i b) z S K v S' K' v') (hst : Sta i S S') {l' : Ph} {E' : Nat → Prop} {M' : Nat → Option Obj}
    (hfit : ∃ t', S'.thr[i]? = some t' ∧ FitsN l' t') (hs : Sees (X i) E' M' l'.ans) (hM' : Has M' v') (hfar : ∀ b, M' b ≠ none → ¬ Own S' K' b) (hnew : ∀ b, E' b → E i b ∨ v.heap.size ≤ b) (hkk : KOk mc K') :
    Crew k X (upd l i l') (upd E i E') (upd M i M') Mm z cont Ch S' K' v' gsz := by
  have hlt : ∀ j, j < k → ∀ b, M j b ≠ none → b < v.heap.size := fun j hj b hb => (h.sees j hj).2.1.lt hb
  have hrow : ∀ b, (b = (X i).ab ∨ E i b) → ∃ x e f, v.heap[b]? = some (.cells x e f) := fun b hb => by
    obtain ⟨o, ho⟩ := Option.ne_none_iff_exists'.1 (h.abM hi hb)
    obtain ⟨x, e, f, rfl⟩ := (h.sees i hi).1.row b o ho
    exact ⟨x, e, f, (h.sees i hi).2.1 b _ ho⟩
  have hdom : ∀ b, M' b ≠ none → M i b ≠ none ∨ v.heap.size ≤ b := fun b hb => by
    rcases hs.dom b hb with h1 | h1
    · exact .inl ((h.sees i hi).1.pr b h1)
    · rcases hnew b h1 with h2 | h2
      · exact .inl ((h.sees i hi).1.ex b h2)
      · exact .inr h2
  refine ⟨by rw [hst.len]; exact h.len, fun j hj => ⟨(h.ok j hj).1, (h.ok j hj).2.1, he.blks.trans (h.ok j hj).2.2.1, hkk⟩, fun j hj => ?_, h.hinj, h.ginj, fun j hj => by rw [hst.bk]; exact h.gbk j hj, h.hlt, h.zs, by rw [hst.wb, hst.bk]; exact h.z0, h.zc, fun c hc => open_stay hm he (h.opn c hc) hrow, fun j hj => ?_, fun a j ha hj hne b hb hx => ?_, ?_⟩
  · obtain ⟨t, h1, h2, h3, h4⟩ := h.thr j hj
    by_cases e : j = i
    · subst e
      obtain ⟨t', k1, k2⟩ := hfit
      obtain ⟨t2, q1, q2, q3⟩ := hst.own t h1
      rw [k1] at q1
      cases q1
      exact ⟨t', k1, q2.trans h2, q3.trans h3, by rw [upd_same]; exact k2⟩
    · exact ⟨t, by rw [hst.oth j e]; exact h1, h2, h3, by rw [upd_ne _ _ e]; exact h4⟩
  · by_cases e : j = i
    · subst e
      rw [upd_same, upd_same, upd_same]
      exact ⟨hs, hM', hfar⟩
    · rw [upd_ne _ _ e, upd_ne _ _ e, upd_ne _ _ e]
      have := h.sees j hj
      exact ⟨this.1, keepM he this.2.1 this.2.2 (h.apart i j hi hj (fun e' => e e'.symm))⟩
  · by_cases e1 : j = i
    · subst e1
      rw [upd_same] at hb
      have hne' : a ≠ j := hne
      rw [upd_ne _ _ hne'] at hx
      rcases hdom b hb with h1 | h1
      · exact h.apart a j ha hj hne b h1 hx
      · have := hlt a ha b (h.abM ha hx)
        omega
    · rw [upd_ne _ _ e1] at hb
      by_cases e2 : a = i
      · subst e2
        rw [upd_same] at hx
        rcases hx with h1 | h1
        · exact h.apart a j ha hj hne b hb (.inl h1)
        · rcases hnew b h1 with h2 | h2
          · exact h.apart a j ha hj hne b hb (.inr h2)
          · have := hlt j hj b hb; omega
      · rw [upd_ne _ _ e2] at hx
        exact h.apart a j ha hj hne b hb hx
  · have := keepM he h.mine.1 h.mine.2.1 (h.mine.2.2.2.1 i hi)
    refine ⟨this.1, this.2, h.mine.2.2.1, fun a ha b hb hx => ?_, he.fr.os.trans h.mine.2.2.2.2.1, he.fr.output.trans h.mine.2.2.2.2.2⟩
    by_cases e2 : a = i
    · subst e2
      rw [upd_same] at hx
      rcases hx with h1 | h1
      · exact h.mine.2.2.2.1 a ha b hb (.inl h1)
      · rcases hnew b h1 with h2 | h2
        · exact h.mine.2.2.2.1 a ha b hb (.inr h2)
        · have := h.mine.1.lt hb; omega
    · rw [upd_ne _ _ e2] at hx
      exact h.mine.2.2.2.1 a ha b hb hx
end

/-- Who sits where. -/
structure Seats (k N : Nat) (X : Nat → Fix mc) (l : Nat → Ph) (E : Nat → Nat → Prop) (M : Nat → Nat → Option Obj) (bk : Nat) (Inb : Nat → Option Seat) : Prop where
  seat : ∀ i, i < k → ∃ n, N ≤ n ∧ Inb (X i).h = seatOf (X i) (Home (X i) n) (l i) (E i) (M i)
  none : ∀ g, g ≠ 0 → (∀ i, i < k → (X i).h ≠ g) → Inb g = none
  main : ∀ s c, Inb 0 = some s → s.has c → c = bk
section
variable {k N : Nat} {X : Nat → Fix mc} {l : Nat → Ph} {E : Nat → Nat → Prop} {M : Nat → Nat → Option Obj} {bk : Nat} {Inb : Nat → Option Seat}
theorem seatOf_has {Y : Fix mc} {Hm : Ph → (Nat → Prop) → (Nat → Option Obj) → Goroutine → Prop} {p : Ph} {e : Nat → Prop} {m : Nat → Option Obj} {s : Seat} (h : seatOf Y Hm p e m = some s) : s = seatT Y.gc (Hm p e m) ∧ ∀ a, p ≠ .done a := by
  cases p with
  | turn => cases h; exact ⟨rfl, fun _ h => by cases h⟩
  | wait => cases h; exact ⟨rfl, fun _ h => by cases h⟩
  | done => cases h
theorem Seats.who (h : Seats k N X l E M bk Inb) {g : Nat} {s : Seat} {c : Nat} (hg : Inb g = some s) (hc : s.has c) : (g = 0 ∧ c = bk) ∨ ∃ i, i < k ∧ (X i).h = g ∧ c = (X i).gc := by
  by_cases e0 : g = 0
  · subst e0
    exact .inl ⟨rfl, h.main s c hg hc⟩
  · by_cases hx : ∃ i, i < k ∧ (X i).h = g
    · obtain ⟨i, hi, rfl⟩ := hx
      obtain ⟨n, _, hs⟩ := h.seat i hi
      rw [hs] at hg
      obtain ⟨rfl, _⟩ := seatOf_has hg
      exact .inr ⟨i, hi, rfl, Seat.one_has.1 hc⟩
    · rw [h.none g e0 (fun i hi e => hx ⟨i, hi, e⟩)] at hg
      cases hg
end
end Go.Proofs.Ytfjjoohflcchnaa.Gen
