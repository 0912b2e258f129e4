/- CellAdds returns true, whatever the schedule, the start and the numbers, and leaves what it was given as it was: of the law's statement as given, with no condition of our own. Part 9 of 34. (Joined, by program, of: Atom, Did, Cells, Lift24.) -/
import Derived.Test.YtfjjoohflcchnaaCellAdds08
import Derived.Laws.LoneSync
import Derived.Deep.QuietTactic
import Derived.BigQuiet
set_option linter.unusedSimpArgs false
set_option linter.unusedVariables false
namespace Go.Proofs.Ytfjjoohflcchnaa
open Go Go.Lift Go.Conc Go.RowKit

/-- What a thread calls between two waits. -/
def plainFs : List FuncId := [56, 59, 61, 62, 63, 64, 89, 106, 114]
def plainXs : List (FuncId × Nat) := [(87, 2), (90, 3), (91, 1), (92, 2)]
def LT (f : FuncId) : Prop := f ∈ plainFs

theorem extT : ∀ x ∈ plainXs, ExtOk Try.prog true x.1 x.2 := by
  intro x hx
  simp only [plainXs, List.mem_cons, List.not_mem_nil, or_false] at hx
  rcases hx with rfl | rfl | rfl | rfl
  · exact ⟨Try.f87, Extern.Atomic.swapT (.int .i64), Try.func87, by kernel_rfl, by kernel_rfl, by kernel_rfl, by kernel_rfl, args2 fun a b => calm_swapT rfl _ a b⟩
  · exact ⟨Try.f90, Extern.Atomic.casT (.int .i64), Try.func90, by kernel_rfl, by kernel_rfl, by kernel_rfl, by kernel_rfl, args3 fun a b c => calm_casT rfl _ a b c⟩
  · exact ⟨Try.f91, Extern.Atomic.loadT (.int .i64), Try.func91, by kernel_rfl, by kernel_rfl, by kernel_rfl, by kernel_rfl, args1 fun a => calm_loadT _ a⟩
  · exact ⟨Try.f92, Extern.Atomic.update (Op.intArith .add) .i64 true, Try.func92, by kernel_rfl, by kernel_rfl, by kernel_rfl, by kernel_rfl, args2 fun a b => calm_update rfl (fun _ _ _ => calm_intArith _ _ _ _) _ _ a b⟩

theorem callT : ∀ f ∈ plainFs, Callable Try.prog LT f := by
  intro f hf
  have hf' := hf
  simp only [plainFs, List.mem_cons, List.not_mem_nil, or_false] at hf
  rcases hf with rfl | rfl | rfl | rfl | rfl | rfl | rfl | rfl | rfl
  · exact ⟨hf', Try.f56, Try.func56, by kernel_rfl, by kernel_rfl⟩
  · exact ⟨hf', Try.f59, Try.func59, by kernel_rfl, by kernel_rfl⟩
  · exact ⟨hf', Try.f61, Try.func61, by kernel_rfl, by kernel_rfl⟩
  · exact ⟨hf', Try.f62, Try.func62, by kernel_rfl, by kernel_rfl⟩
  · exact ⟨hf', Try.f63, Try.func63, by kernel_rfl, by kernel_rfl⟩
  · exact ⟨hf', Try.f64, Try.func64, by kernel_rfl, by kernel_rfl⟩
  · exact ⟨hf', Try.f89, Try.func89, by kernel_rfl, by kernel_rfl⟩
  · exact ⟨hf', Try.f106, Try.func106, by kernel_rfl, by kernel_rfl⟩
  · exact ⟨hf', Try.f114, Try.func114, by kernel_rfl, by kernel_rfl⟩

theorem fineT : ∀ f, LT f → fineFn Try.prog true LT f := by
  intro f hf
  simp only [LT, plainFs, List.mem_cons, List.not_mem_nil, or_false] at hf
  rcases hf with rfl | rfl | rfl | rfl | rfl | rfl | rfl | rfl | rfl
  · exact fineFn_ask callT extT Try.func56 (c := Try.f56.body.getD .skip) (by rfl) (by kernel_rfl)
  · exact fineFn_ask callT extT Try.func59 (c := Try.f59.body.getD .skip) (by rfl) (by kernel_rfl)
  · exact fineFn_ask callT extT Try.func61 (c := Try.f61.body.getD .skip) (by rfl) (by kernel_rfl)
  · exact fineFn_ask callT extT Try.func62 (c := Try.f62.body.getD .skip) (by rfl) (by kernel_rfl)
  · exact fineFn_ask callT extT Try.func63 (c := Try.f63.body.getD .skip) (by rfl) (by kernel_rfl)
  · exact fineFn_ask callT extT Try.func64 (c := Try.f64.body.getD .skip) (by rfl) (by kernel_rfl)
  · exact fineFn_ask callT extT Try.func89 (c := Try.f89.body.getD .skip) (by rfl) (by kernel_rfl)
  · exact fineFn_ask callT extT Try.func106 (c := Try.f106.body.getD .skip) (by rfl) (by kernel_rfl)
  · exact fineFn_ask callT extT Try.func114 (c := Try.f114.body.getD .skip) (by rfl) (by kernel_rfl)

theorem run40 (cb o : Nat) (x : Int) (w : World) (h : w.cell? ⟨cb, o, none⟩ = some (I x)) : (callFunc 91 #[Pt cb o]).run Try.prog w = .ok (.value (I x)) w :=
  run_call_load Try.func91 (by kernel_rfl) (by kernel_rfl) (by kernel_rfl) .i64 (by kernel_rfl) h
theorem run41 (cb o : Nat) (x y : Int) (w : World) (h : w.cell? ⟨cb, o, none⟩ = some (I x)) (hf : w.frozen? ⟨cb, o, none⟩ = false) : (callFunc 92 #[Pt cb o, I y]).run Try.prog w = .ok (.value (I (IntKind.wrap .i64 (x + y)))) (w.setCell ⟨cb, o, none⟩ (I (IntKind.wrap .i64 (x + y)))) := run_call_add Try.func92 (by kernel_rfl) (by kernel_rfl) (by kernel_rfl) .i64 (by kernel_rfl) h hf (by simp [Op.intArith])
theorem run36 (cb o : Nat) (x y : Int) (w : World) (h : w.cell? ⟨cb, o, none⟩ = some (I x)) (hf : w.frozen? ⟨cb, o, none⟩ = false) : (callFunc 87 #[Pt cb o, I y]).run Try.prog w = .ok (.value (I x)) (w.setCell ⟨cb, o, none⟩ (I y)) := by
  rw [run_callFunc_extern Try.func87 (by kernel_rfl) (by kernel_rfl) (by kernel_rfl) (e := Extern.Atomic.swapT (.int .i64)) (by kernel_rfl)]
  change (Sem.run Try.prog (do
    let a ← asAddr (Pt cb o)
    let old ← Extern.Atomic.read (.int .i64) a
    store a (I y) .atomic
    pure old) w).andThen _ = _
  simp [Extern.Atomic.read, asAddr, h, hf, run_store Try.prog w ⟨cb, o, none⟩ (I y) .atomic rfl, Result.andThen]
theorem run39 (cb o : Nat) (x y : Int) (w : World) (h : w.cell? ⟨cb, o, none⟩ = some (I x)) (hf : w.frozen? ⟨cb, o, none⟩ = false) : (callFunc 90 #[Pt cb o, I x, I y]).run Try.prog w = .ok (.value (.bool true)) (w.setCell ⟨cb, o, none⟩ (I y)) :=
  run_call_cas_hit Try.func90 (by kernel_rfl) (by kernel_rfl) (by kernel_rfl) .i64 (by kernel_rfl) h hf
theorem run39n (cb o : Nat) (x x' y : Int) (w : World) (h : w.cell? ⟨cb, o, none⟩ = some (I x)) (hf : w.frozen? ⟨cb, o, none⟩ = false) (hne : ¬ x = x') : (callFunc 90 #[Pt cb o, I x', I y]).run Try.prog w = .ok (.value (.bool false)) w :=
  run_call_cas_miss Try.func90 (by kernel_rfl) (by kernel_rfl) (by kernel_rfl) .i64 (by kernel_rfl) h hf hne

set_option maxHeartbeats 1000000 in
theorem body29 (cb : Nat) (x : Int) (w : World) (h : w.cell? ⟨cb, 1, none⟩ = some (I x)) : Body Try.f63 #[Pt cb 1] w (fun v w' => v = I x ∧ w' = w) := by
  intro code hb
  obtain rfl := Option.some.inj hb
  clear hb
  simp only [Try.ntmps63, List.size_toArray, List.length_cons, List.length_nil, Nat.reduceAdd, Nat.reduceSub, Array.replicate_succ, Array.replicate_zero, List.push_toArray, List.append_toArray, List.nil_append, List.cons_append]
  have hq := run40 cb 1 x w h
  go_wp2
  go_ret
  exact ⟨_, rfl, rfl, rfl⟩
set_option maxHeartbeats 1000000 in
theorem body25 (cb : Nat) (x y : Int) (w : World) (h : w.cell? ⟨cb, 1, none⟩ = some (I x)) (hf : w.frozen? ⟨cb, 1, none⟩ = false) : Body Try.f59 #[Pt cb 1, I y] w (fun v w' => v = I x ∧ w' = w.setCell ⟨cb, 1, none⟩ (I y)) := by
  intro code hb
  obtain rfl := Option.some.inj hb
  clear hb
  simp only [Try.ntmps59, List.size_toArray, List.length_cons, List.length_nil, Nat.reduceAdd, Nat.reduceSub, Array.replicate_succ, Array.replicate_zero, List.push_toArray, List.append_toArray, List.nil_append, List.cons_append]
  have hq := run36 cb 1 x y w h hf
  go_wp2
  go_ret
  exact ⟨_, rfl, rfl, rfl⟩
set_option maxHeartbeats 1000000 in
theorem body30 (cb : Nat) (x y : Int) (w : World) (h : w.cell? ⟨cb, 1, none⟩ = some (I x)) (hf : w.frozen? ⟨cb, 1, none⟩ = false) : Body Try.f64 #[Pt cb 1, I y] w (fun v w' => v = I (wrap64 (x + y)) ∧ w' = w.setCell ⟨cb, 1, none⟩ (I (wrap64 (x + y)))) := by
  intro code hb
  obtain rfl := Option.some.inj hb
  clear hb
  simp only [Try.ntmps64, List.size_toArray, List.length_cons, List.length_nil, Nat.reduceAdd, Nat.reduceSub, Array.replicate_succ, Array.replicate_zero, List.push_toArray, List.append_toArray, List.nil_append, List.cons_append]
  have hq := run41 cb 1 x y w h hf
  go_wp2
  go_ret
  exact ⟨_, rfl, rfl, rfl⟩
set_option maxHeartbeats 1000000 in
theorem body28 (cb : Nat) (x y : Int) (w : World) (h : w.cell? ⟨cb, 1, none⟩ = some (I x)) (hf : w.frozen? ⟨cb, 1, none⟩ = false) : Body Try.f62 #[Pt cb 1, I x, I y] w (fun v w' => v = .bool true ∧ w' = w.setCell ⟨cb, 1, none⟩ (I y)) := by
  intro code hb
  obtain rfl := Option.some.inj hb
  clear hb
  simp only [Try.ntmps62, List.size_toArray, List.length_cons, List.length_nil, Nat.reduceAdd, Nat.reduceSub, Array.replicate_succ, Array.replicate_zero, List.push_toArray, List.append_toArray, List.nil_append, List.cons_append]
  have hq := run39 cb 1 x y w h hf
  go_wp2
  go_ret
  exact ⟨_, rfl, rfl, rfl⟩
set_option maxHeartbeats 1000000 in
theorem body28n (cb : Nat) (x x' y : Int) (w : World) (h : w.cell? ⟨cb, 1, none⟩ = some (I x)) (hf : w.frozen? ⟨cb, 1, none⟩ = false) (hne : ¬ x = x') : Body Try.f62 #[Pt cb 1, I x', I y] w (fun v w' => v = .bool false ∧ w' = w) := by
  intro code hb
  obtain rfl := Option.some.inj hb
  clear hb
  simp only [Try.ntmps62, List.size_toArray, List.length_cons, List.length_nil, Nat.reduceAdd, Nat.reduceSub, Array.replicate_succ, Array.replicate_zero, List.push_toArray, List.append_toArray, List.nil_append, List.cons_append]
  have hq := run39n cb 1 x x' y w h hf hne
  go_wp2
  go_ret
  exact ⟨_, rfl, rfl, rfl⟩
end Go.Proofs.Ytfjjoohflcchnaa

namespace Go.Proofs.Ytfjjoohflcchnaa
open Go Go.Lift Go.Conc Go.RowKit

theorem Rep.same {z : Nat → Option Nat} {S : TS} {v v' : World} (h : Rep z S v) (e : v'.heap = v.heap) : Rep z S v' :=
  ⟨by rw [e]; exact h.wor, fun i t ht => by rw [e]; exact h.thr i t ht, own_stay (fun _ _ => by rw [e]) h.own, own_stay (fun _ _ => by rw [e]) h.chg, own_stay (fun _ _ => by rw [e]) h.ths, own_stay (fun _ _ => by rw [e]) h.sch, by rw [e]; exact h.bs, h.apart, h.kept⟩
theorem Rep.cell {z : Nat → Option Nat} {S : TS} {v : World} (h : Rep z S v) {i : Nat} {t : Thr} (ht : S.thr[i]? = some t) : v.cell? ⟨t.tb, 0, none⟩ = some (Pt S.wb 0) ∧ v.cell? ⟨t.tb, 1, none⟩ = some (I i) ∧ v.cell? ⟨t.tb, 2, none⟩ = some (.chan (some t.gc)) ∧ v.cell? ⟨t.tb, 3, none⟩ = some (I t.st) ∧ v.cell? ⟨t.tb, 4, none⟩ = some (I t.ce) ∧ v.cell? ⟨t.tb, 5, none⟩ = some (I t.op) ∧ v.cell? ⟨t.tb, 6, none⟩ = some (I t.se) := by
  have := h.thr i t ht
  simp [World.cell?, this]
theorem Rep.wcell {z : Nat → Option Nat} {S : TS} {v : World} (h : Rep z S v) : v.cell? ⟨S.wb, 0, none⟩ = some S.sc ∧ v.cell? ⟨S.wb, 1, none⟩ = some (I S.us) ∧ v.cell? ⟨S.wb, 2, none⟩ = some (I S.la) ∧ v.cell? ⟨S.wb, 3, none⟩ = some S.cv ∧ v.cell? ⟨S.wb, 4, none⟩ = some S.ths ∧ v.cell? ⟨S.wb, 5, none⟩ = some S.tv ∧ v.cell? ⟨S.wb, 6, none⟩ = some (.bool S.stk) ∧ v.cell? ⟨S.wb, 7, none⟩ = some (.bool S.ran) ∧ v.cell? ⟨S.wb, 8, none⟩ = some (.chan (some S.bk)) := by
  have := h.wor
  simp [World.cell?, this]

/-- The trace with one step more. -/
def noted (S : TS) (tv : Value) (i : Nat) (op ce ol ne : Int) : TS := { S with tv := tv, n := S.n + 1, tr := S.tr ++ [I i, I ce, I op, I ol, I ne] }
/-- A cell was changed once more. -/
def counted (S : TS) (c : Nat) : TS := { S with chg := S.chg.modify c (fun x => wrap64 (x + 1)) }

/-- The world behind Did. -/
def didS (S : TS) (tv : Value) (i : Nat) (t : Thr) (b a : Int) : TS :=
  if b ≠ a ∧ 0 ≤ t.ce ∧ t.ce < S.chg.length then counted (noted S tv i t.op t.ce b a) t.ce.toNat else noted S tv i t.op t.ce b a
theorem Ev.same {z : Nat → Option Nat} {S S' : TS} {v u v' : World} (h : Ev z S v S' u) (e1 : v'.heap = u.heap) (e2 : v'.os = u.os) (e4 : v'.output = u.output) : Ev z S v S' v' :=
  ⟨h.rep.same e1, ⟨e2.trans h.fr.os, e4.trans h.fr.output, by rw [e1]; exact h.fr.size, fun b hb hs => by rw [e1]; exact h.fr.block b hb hs⟩, h.new⟩
theorem Ev.base {z : Nat → Option Nat} {S S' : TS} {v u v' : World} (h : Ev z S u S' v') (e1 : u.heap = v.heap) (e2 : u.os = v.os) (e4 : u.output = v.output) : Ev z S v S' v' :=
  ⟨h.rep, ⟨h.fr.os.trans e2, h.fr.output.trans e4, by rw [← e1]; exact h.fr.size, fun b hb hs => by rw [← e1]; exact h.fr.block b (by rw [e1]; exact hb) hs⟩, fun b hb => by rw [← e1]; exact h.new b hb⟩
theorem own_form {w : World} {base : Nat} {e : TypeId} {size : Nat} {v : Value} {n : Nat} {xs : List Value} (h : w.ownsRow base e size v n xs) : ∃ p cap, v = .slice p n cap := by
  rcases h.2 with ⟨rfl, rfl⟩ | ⟨g, cap, cur, rfl, _⟩
  · exact ⟨none, 0, rfl⟩
  · exact ⟨_, cap, rfl⟩
theorem ints_cell {w : World} {base : Nat} {v : Value} {l : List Int} (h : w.ownsRow base 3 1 v l.length (l.map I)) {c : Nat} {x : Int} (hx : l[c]? = some x) : ∃ g cap, v = .slice (some ⟨g, 0, none⟩) l.length cap ∧ w.cell? ⟨g, c, none⟩ = some (I x) ∧ w.frozen? ⟨g, c, none⟩ = false := by
  have hc : c < l.length := (List.getElem?_eq_some_iff.1 hx).1
  rcases h.2 with ⟨rfl, h0⟩ | ⟨g, cap, cur, rfl, hb, hh, hle, _, hsz, htake⟩
  · omega
  · refine ⟨g, cap, rfl, ?_, by simp [World.frozen?, hh]⟩
    have e : (l.map I)[c]? = some (I x) := by simp [hx]
    rw [← htake, Nat.mul_one, List.getElem?_take_of_lt hc] at e
    simp only [World.cell?, hh, Option.isSome_none, Bool.false_eq_true, if_false]
    simpa using e

/-- A cell of a row of numbers is written. -/
theorem ints_set {w : World} {base : Nat} {l : List Int} {g cap c : Nat} (h : w.ownsRow base 3 1 (.slice (some ⟨g, 0, none⟩) l.length cap) l.length (l.map I)) (hc : c < l.length) (f : Int → Int) {x : Int} (hx : l[c]? = some x) :
    (w.setCell ⟨g, c, none⟩ (I (f x))).ownsRow base 3 1 (.slice (some ⟨g, 0, none⟩) l.length cap) l.length ((l.modify c f).map I) := by
  rcases h.2 with ⟨h1, _⟩ | ⟨g', cap', cur, h1, hb, hh, hle, hm, hsz, htake⟩
  · cases h1
  · cases h1
    have e : (l.modify c f) = l.set c (f x) := by
      apply List.ext_getElem?
      intro j
      rw [List.getElem?_modify, List.getElem?_set]
      by_cases e : c = j
      · subst e
        have : l[c] = x := by rw [List.getElem?_eq_getElem hc] at hx; exact Option.some.inj hx
        simp [hc, this]
      · simp [e]
    refine ⟨?_, .inr ⟨g, cap, cur.setIfInBounds c (I (f x)), rfl, hb, heap_setCell_same hh _, hle, hm, by simpa using hsz, ?_⟩⟩
    · simp
    · rw [e]
      rw [Array.toList_setIfInBounds, List.take_set, htake, List.map_set]
theorem count_rep {z : Nat → Option Nat} {S : TS} {v : World} (h : Rep z S v) {g cap c : Nat} {x : Int} (hcv : S.cv = .slice (some ⟨g, 0, none⟩) S.chg.length cap) (hx : S.chg[c]? = some x) : Ev z S v (counted S c) (v.setCell ⟨g, c, none⟩ (I (wrap64 (x + 1)))) := by
  have hc : c < S.chg.length := (List.getElem?_eq_some_iff.1 hx).1
  have hg : blk S 1 = some g := by show S.cv.ownBlock = _; rw [hcv]; rfl
  have hst : ∀ k b, blk S k = some b → k ≠ 1 → (v.setCell ⟨g, c, none⟩ (I (wrap64 (x + 1)))).heap[b]? = v.heap[b]? := fun k b hk h1 => Below.heap_setCell _ _ _ _ (fun e => h1 (by subst e; exact h.apart k 1 _ hk hg))
  refine ⟨⟨?_, fun j t ht => ?_, ?_, ?_, ?_, ?_, ?_, h.apart, h.kept⟩, ⟨rfl, rfl, by simp [World.setCell], fun b _ hs => Below.heap_setCell _ _ _ _ (fun e => hs ⟨1, by rw [e]; exact hg⟩)⟩, fun b hb => .inl hb⟩
  · show (v.setCell _ _).heap[S.wb]? = _
    rw [hst 0 S.wb rfl (by omega)]
    exact h.wor
  · rw [hst (j + 5) t.tb (by simp only [blk]; rw [show S.thr[j]? = some t from ht]; rfl) (by omega)]
    exact h.thr j t ht
  · exact own_stay (fun b hb => hst 3 b hb (by omega)) h.own
  · show (v.setCell _ _).ownsRow S.base 3 1 S.cv (S.chg.modify c _).length ((S.chg.modify c _).map I)
    rw [List.length_modify, hcv]
    exact ints_set (by rw [← hcv]; exact h.chg) hc (fun x => wrap64 (x + 1)) hx
  · exact own_stay (fun b hb => hst 2 b hb (by omega)) h.ths
  · exact own_stay (fun b hb => hst 4 b hb (by omega)) h.sch
  · show S.base ≤ _
    simpa [World.setCell] using h.bs

set_option maxHeartbeats 2000000 in
set_option maxRecDepth 100000 in
theorem body27 {z : Nat → Option Nat} {S : TS} {v : World} (h : Rep z S v) {i : Nat} {t : Thr} (ht : S.thr[i]? = some t) (b a : Int) (hn : (S.n + 1) * 40 ≤ 140737488355328) :
    Body Try.f61 #[Pt t.tb 0, I b, I a] v (fun r v' => r = .tuple #[] ∧ ∃ tv', Ev z S v (didS S tv' i t b a) v') := by
  intro code hb
  obtain rfl := Option.some.inj hb
  clear hb
  simp only [Try.ntmps61, List.size_toArray, List.length_cons, List.length_nil, Nat.reduceAdd, Nat.reduceSub, Array.replicate_succ, Array.replicate_zero, List.push_toArray, List.append_toArray, List.nil_append, List.cons_append]
  obtain ⟨c0, _, _, _, c4, c5, _⟩ := h.cell ht
  have HR : Hid (Rep z S v) := ⟨h⟩
  clear h
  go_wp2_with fail
  go_region_held3 (fun u => u.cell? ⟨t.tb, 4, none⟩ = some (I t.ce) ∧ u.cell? ⟨t.tb, 5, none⟩ = some (I t.op))
    (first | (exact ⟨(Rep.cell (Ev.rep hev) (i := i) (t := t) ht).2.2.2.2.1, (Rep.cell (Ev.rep hev) (i := i) (t := t) ht).2.2.2.2.2.1⟩) | (simp [go_sem, *]; done))
    (first
      | (go_at_call 89; refine ((note_rep (HR.out.same (v' := v.drew) rfl) ht t.op t.ce b a hn).calls Try.func89 rfl).mono ?_; rintro e w5 ⟨_, rfl, rfl, tv', hev⟩))
  have HE : Hid (Ev z S v (noted S tv' i t.op t.ce b a) w5) := ⟨hev.base rfl rfl rfl⟩
  clear hev HR c0 c4 c5
  rename_i hH
  obtain ⟨k4, _⟩ := hH
  have k0 : w5.cell? ⟨t.tb, 0, none⟩ = some (Pt S.wb 0) := (HE.out.rep.cell (i := i) (t := t) ht).1
  have k3 : w5.cell? ⟨S.wb, 3, none⟩ = some S.cv := HE.out.rep.wcell.2.2.2.1
  have HN : Hid (¬ (b ≠ a ∧ 0 ≤ t.ce ∧ t.ce < S.chg.length) → ∀ nq, Ev z S v (didS S tv' i t b a) (w5.drewN nq)) := ⟨fun hn nq => by
    unfold didS; rw [if_neg hn]; exact HE.out.same rfl rfl rfl⟩
  obtain ⟨p, cap, hcv⟩ := own_form HE.out.rep.chg
  have hcv' : S.cv = .slice p S.chg.length cap := hcv
  rw [hcv'] at k3
  clear hcv
  by_cases hba : b = a
  · have g1 : (b != a) = false := by simp [hba]
    have HB : Hid (b = a) := ⟨hba⟩
    clear hba
    go_wp2_with fail
    go_quiet (fail)
    go_wp2
    exact ⟨rfl, _, results_none rfl _ _ _, _, rfl, rfl, tv', HN.out (fun h => h.1 HB.out) _⟩
  · have g1 : (b != a) = true := by simp [hba]
    by_cases hce : t.ce < 0
    · have g2 : (decide (0 ≤ t.ce)) = false := by simp; omega
      have HB : Hid (t.ce < 0) := ⟨hce⟩
      clear hba hce
      go_wp2_with fail
      go_quiet (fail)
      go_wp2
      exact ⟨rfl, _, results_none rfl _ _ _, _, rfl, rfl, tv', HN.out (fun h => by have := HB.out; omega) _⟩
    · have g2 : (0 : Int) ≤ t.ce := by omega
      by_cases hlt : t.ce < S.chg.length
      · obtain ⟨c, hcc⟩ : ∃ c : Nat, t.ce = (c : Int) := ⟨t.ce.toNat, by omega⟩
        have hcl : c < S.chg.length := by omega
        obtain ⟨g, cap', e1, e2, e3⟩ := ints_cell HE.out.rep.chg (List.getElem?_eq_getElem (show c < (noted S tv' i t.op t.ce b a).chg.length from hcl))
        have e1' : S.cv = .slice (some ⟨g, 0, none⟩) S.chg.length cap' := e1
        rw [hcv'] at e1'
        cases e1'
        have HC : Hid (t.ce = (c : Int)) := ⟨hcc⟩
        have HB : Hid (b ≠ a ∧ 0 ≤ t.ce ∧ t.ce < S.chg.length) := ⟨⟨hba, g2, hlt⟩⟩
        have e2' : w5.cell? ⟨g, c, none⟩ = some (I (S.chg[c])) := e2
        generalize hx : S.chg[c] = x at e2'
        have HX : Hid (S.chg[c]? = some x) := ⟨by rw [← hx]; exact List.getElem?_eq_getElem hcl⟩
        rw [hcc] at k4
        have g4 : (0 : Int) ≤ (c : Int) := by omega
        have g5 : (c : Int) < (S.chg.length : Int) := by omega
        clear hba hce hlt e1 e2 hx g2 hcc
        go_wp2_with fail
        go_quiet (fail)
        go_wp2_with fail
        have HS : Hid (∀ W : World, W.heap = w5.heap → W.os = w5.os → W.output = w5.output → Ev z S v (didS S tv' i t b a) (W.setCell ⟨g, c, none⟩ (I (wrap64 (x + 1))))) := ⟨fun W q1 q2 q4 => by
          unfold didS
          rw [if_pos HB.out, show t.ce.toNat = c by rw [HC.out]; simp]
          exact (HE.out.same q1 q2 q4).trans (count_rep (HE.out.rep.same q1) hcv' HX.out)⟩
        go_region
        all_goals exact ⟨rfl, _, results_none rfl _ _ _, _, rfl, rfl, tv', HS.out _ rfl rfl rfl⟩
      · have g3 : (decide (t.ce < (S.chg.length : Int))) = false := by simpa using hlt
        have HB : Hid (¬ t.ce < S.chg.length) := ⟨hlt⟩
        clear hba hce hlt
        go_wp2_with fail
        go_quiet (fail)
        go_wp2
        exact ⟨rfl, _, results_none rfl _ _ _, _, rfl, rfl, tv', HN.out (fun h => by have := HB.out; omega) _⟩
end Go.Proofs.Ytfjjoohflcchnaa

namespace Go.Proofs.Ytfjjoohflcchnaa
open Go Go.Lift Go.Conc Go.RowKit

/-- A block of the world's, or of a cell's. -/
def Own (S : TS) (K : List (Nat × Int)) (b : Nat) : Prop := Its S b ∨ ∃ (j : Nat) (c : Nat × Int), K[j]? = some c ∧ c.1 = b

/-- The world and its cells: K tells of each cell its block, and what stands there. -/
structure Mem (z : Nat → Option Nat) (S : TS) (K : List (Nat × Int)) (v : World) : Prop where
  rep : Rep z S v
  cel : ∀ (j : Nat) (c : Nat × Int), K[j]? = some c → v.heap[c.1]? = some (.cells #[I j, I c.2] 94 (0, 0))
  far : ∀ (j : Nat) (c : Nat × Int), K[j]? = some c → ¬ Its S c.1
  inj : ∀ (i j : Nat) (c d : Nat × Int), K[i]? = some c → K[j]? = some d → c.1 = d.1 → i = j
  len : S.chg.length = K.length

structure Evo (z : Nat → Option Nat) (S : TS) (K : List (Nat × Int)) (v : World) (S' : TS) (K' : List (Nat × Int)) (v' : World) : Prop where
  mem : Mem z S' K' v'
  blks : K'.map (·.1) = K.map (·.1)
  fr : Fr (Own S K) v v'
  new : ∀ b, Own S' K' b → Own S K b ∨ v.heap.size ≤ b

section
variable {z : Nat → Option Nat} {S S' S'' : TS} {K K' K'' : List (Nat × Int)} {v v' v'' : World}

theorem Mem.lt (h : Mem z S K v) {b : Nat} (hb : Own S K b) : b < v.heap.size := by
  rcases hb with ⟨k, hk⟩ | ⟨j, c, hc, rfl⟩
  · exact h.rep.lt hk
  · exact (Array.getElem?_eq_some_iff.1 (h.cel j c hc)).1
theorem Evo.refl (h : Mem z S K v) : Evo z S K v S K v := ⟨h, rfl, Fr.refl _ _, fun _ hb => .inl hb⟩
theorem Evo.trans (h : Evo z S K v S' K' v') (k : Evo z S' K' v' S'' K'' v'') : Evo z S K v S'' K'' v'' := by
  refine ⟨k.mem, k.blks.trans h.blks, ⟨k.fr.os.trans h.fr.os, k.fr.output.trans h.fr.output, Nat.le_trans h.fr.size k.fr.size, fun x hx hs => ?_⟩, fun b hb => ?_⟩
  · rw [k.fr.block x (Nat.lt_of_lt_of_le hx h.fr.size) (fun hi => (h.new x hi).elim hs (fun hle => by omega)), h.fr.block x hx hs]
  · rcases k.new b hb with h1 | h1
    · exact h.new b h1
    · exact .inr (Nat.le_trans h.fr.size h1)
/-- What becomes of the world alone. -/
theorem Evo.of_ev (h : Mem z S K v) (k : Ev z S v S' v') (hl : S'.chg.length = S.chg.length) : Evo z S K v S' K v' := by
  have hst : ∀ (j : Nat) (c : Nat × Int), K[j]? = some c → v'.heap[c.1]? = v.heap[c.1]? := fun j c hc => k.fr.block c.1 (h.lt (.inr ⟨j, c, hc, rfl⟩)) (h.far j c hc)
  refine ⟨⟨k.rep, fun j c hc => by rw [hst j c hc]; exact h.cel j c hc, fun j c hc hi => ?_, h.inj, hl.trans h.len⟩, rfl, k.fr.mono (fun _ _ hx => .inl hx), fun b hb => ?_⟩
  · rcases k.new _ hi with h1 | h1
    · exact h.far j c hc h1
    · have := h.lt (.inr ⟨j, c, hc, rfl⟩); omega
  · rcases hb with hb | hb
    · exact (k.new b hb).imp .inl id
    · exact .inl (.inr hb)
theorem Mem.same (h : Mem z S K v) (e : v'.heap = v.heap) : Mem z S K v' :=
  ⟨h.rep.same e, fun j c hc => by rw [e]; exact h.cel j c hc, h.far, h.inj, h.len⟩
theorem Evo.same (h : Evo z S K v S' K' v') (e1 : v''.heap = v'.heap) (e2 : v''.os = v'.os) (e3 : v''.output = v'.output) : Evo z S K v S' K' v'' :=
  ⟨h.mem.same e1, h.blks, ⟨e2.trans h.fr.os, e3.trans h.fr.output, by rw [e1]; exact h.fr.size, fun b hb hs => by rw [e1]; exact h.fr.block b hb hs⟩, h.new⟩
theorem Evo.base {u : World} (h : Evo z S K u S' K' v') (e1 : u.heap = v.heap) (e2 : u.os = v.os) (e3 : u.output = v.output) : Evo z S K v S' K' v' :=
  ⟨h.mem, h.blks, ⟨h.fr.os.trans e2, h.fr.output.trans e3, by rw [← e1]; exact h.fr.size, fun b hb hs => by rw [← e1]; exact h.fr.block b (by rw [e1]; exact hb) hs⟩, fun b hb => by rw [← e1]; exact h.new b hb⟩

theorem Mem.cells (h : Mem z S K v) {j : Nat} {c : Nat × Int} (hc : K[j]? = some c) : v.cell? ⟨c.1, 0, none⟩ = some (I j) ∧ v.cell? ⟨c.1, 1, none⟩ = some (I c.2) ∧ v.frozen? ⟨c.1, 1, none⟩ = false := by
  have := h.cel j c hc
  simp [World.cell?, World.frozen?, this]

/-- A cell is written. -/
theorem Evo.write (h : Mem z S K v) {j cb : Nat} {x : Int} (hc : K[j]? = some (cb, x)) (y : Int) : Evo z S K v S (K.set j (cb, y)) (v.setCell ⟨cb, 1, none⟩ (I y)) := by
  have hj : j < K.length := (List.getElem?_eq_some_iff.1 hc).1
  have hst : ∀ b, b ≠ cb → (v.setCell ⟨cb, 1, none⟩ (I y)).heap[b]? = v.heap[b]? := fun b hb => Below.heap_setCell _ _ _ _ hb
  have hits : ∀ k b, blk S k = some b → (v.setCell ⟨cb, 1, none⟩ (I y)).heap[b]? = v.heap[b]? := fun k b hk => hst b (fun e => h.far j _ hc ⟨k, by rw [hk, e]⟩)
  have hget : ∀ (i : Nat) (c : Nat × Int), (K.set j (cb, y))[i]? = some c → (i = j ∧ c = (cb, y)) ∨ (i ≠ j ∧ K[i]? = some c) := fun i c hi => by
    rw [List.getElem?_set] at hi
    by_cases e : j = i
    · subst e; rw [if_pos rfl, if_pos hj] at hi; exact .inl ⟨rfl, (Option.some.inj hi).symm⟩
    · rw [if_neg e] at hi; exact .inr ⟨fun e' => e e'.symm, hi⟩
  have hrep : Rep z S (v.setCell ⟨cb, 1, none⟩ (I y)) :=
    ⟨by rw [hits 0 S.wb rfl]; exact h.rep.wor, fun i t ht => by rw [hits (i + 5) t.tb (by simp [blk, ht])]; exact h.rep.thr i t ht, own_stay (fun b hb => hits 3 b hb) h.rep.own, own_stay (fun b hb => hits 1 b hb) h.rep.chg, own_stay (fun b hb => hits 2 b hb) h.rep.ths, own_stay (fun b hb => hits 4 b hb) h.rep.sch,
      by simpa [World.setCell] using h.rep.bs, h.rep.apart, h.rep.kept⟩
  refine ⟨⟨hrep, fun i c hi => ?_, fun i c hi => ?_, fun i i' c d hi hi' e => ?_, by simpa using h.len⟩, ?_, ⟨rfl, rfl, by simp [World.setCell], fun b _ hs => hst b (fun e => hs (.inr ⟨j, _, hc, e.symm⟩))⟩, fun b hb => ?_⟩
  · rcases hget i c hi with ⟨rfl, rfl⟩ | ⟨hne, hi⟩
    · have := heap_setCell_same (o := 1) (h.cel i _ hc) (I y)
      simpa using this
    · rw [hst c.1 (fun e => hne (h.inj i j c _ hi hc e))]
      exact h.cel i c hi
  · rcases hget i c hi with ⟨rfl, rfl⟩ | ⟨hne, hi⟩
    · exact h.far i (cb, x) hc
    · exact h.far i c hi
  · rcases hget i c hi with ⟨e1, e2⟩ | ⟨_, h1⟩ <;> rcases hget i' d hi' with ⟨e3, e4⟩ | ⟨_, h2⟩
    · rw [e1, e3]
    · rw [e2] at e; rw [e1]; exact h.inj j i' (cb, x) d hc h2 e
    · rw [e4] at e; rw [e3]; exact h.inj i j c (cb, x) h1 hc e
    · exact h.inj i i' c d h1 h2 e
  · rw [List.map_set]
    apply List.ext_getElem?
    intro i
    rw [List.getElem?_set]
    by_cases e : j = i
    · subst e
      have : K[j] = (cb, x) := by rw [List.getElem?_eq_getElem hj] at hc; exact Option.some.inj hc
      simp [hj, this]
    · simp [e]
  · rcases hb with hb | ⟨i, c, hi, rfl⟩
    · exact .inl (.inl hb)
    · rcases hget i c hi with ⟨rfl, rfl⟩ | ⟨_, hi⟩
      · exact .inl (.inr ⟨i, _, hc, rfl⟩)
      · exact .inl (.inr ⟨i, c, hi, rfl⟩)

theorem didS_len (tv : Value) (i : Nat) (t : Thr) (b a : Int) : (didS S tv i t b a).chg.length = S.chg.length := by
  unfold didS
  split
  · simp [counted, noted]
  · rfl

/-- A thread waits. -/
def waiting (S : TS) (i : Nat) (t : Thr) (s o c : Int) : TS := { S with thr := S.thr.set i { t with st := s, ce := c, op := o, se := chgOf S.chg c } }

theorem wait_ev (h : Rep z S v) {i : Nat} {t : Thr} (ht : S.thr[i]? = some t) (s o c : Int) : Ev z S v (waiting S i t s o c) ((((v.setCell ⟨t.tb, 3, none⟩ (I s)).setCell ⟨t.tb, 5, none⟩ (I o)).setCell ⟨t.tb, 4, none⟩ (I c)).setCell ⟨t.tb, 6, none⟩ (I (chgOf S.chg c))) := by
  have hi : i < S.thr.length := (List.getElem?_eq_some_iff.1 ht).1
  have hbt : blk S (i + 5) = some t.tb := by simp [blk, ht]
  generalize hV : ((((v.setCell ⟨t.tb, 3, none⟩ (I s)).setCell ⟨t.tb, 5, none⟩ (I o)).setCell ⟨t.tb, 4, none⟩ (I c)).setCell ⟨t.tb, 6, none⟩ (I (chgOf S.chg c))) = V
  have hst : ∀ b, b ≠ t.tb → V.heap[b]? = v.heap[b]? := fun b hb => by
    rw [← hV, Below.heap_setCell _ _ _ _ hb, Below.heap_setCell _ _ _ _ hb, Below.heap_setCell _ _ _ _ hb, Below.heap_setCell _ _ _ _ hb]
  have hrow : V.heap[t.tb]? = some (.cells (trow S.wb i t.gc s c o (chgOf S.chg c)) 97 (fz z t.tb)) := by
    rw [← hV]
    have := heap_setCell_same (o := 6) (heap_setCell_same (o := 4) (heap_setCell_same (o := 5) (heap_setCell_same (o := 3) (h.thr i t ht) (I s)) (I o)) (I c)) (I (chgOf S.chg c))
    simpa using this
  have hits : ∀ k b, blk S k = some b → k ≠ i + 5 → V.heap[b]? = v.heap[b]? := fun k b hk hne => hst b (fun e => hne (h.apart k (i + 5) b hk (by rw [hbt, e])))
  have hget : ∀ (j : Nat) (t' : Thr), (waiting S i t s o c).thr[j]? = some t' → (j = i ∧ t' = { t with st := s, ce := c, op := o, se := chgOf S.chg c }) ∨ (j ≠ i ∧ S.thr[j]? = some t') := fun j t' hj => by
    simp only [waiting, List.getElem?_set] at hj
    by_cases e : i = j
    · subst e; rw [if_pos rfl, if_pos hi] at hj; exact .inl ⟨rfl, (Option.some.inj hj).symm⟩
    · rw [if_neg e] at hj; exact .inr ⟨fun e' => e e'.symm, hj⟩
  have hblk : ∀ k, blk (waiting S i t s o c) k = blk S k := fun k => by
    match k with
    | 0 => rfl
    | 1 => rfl
    | 2 => rfl
    | 3 => rfl
    | 4 => rfl
    | k + 5 =>
      simp only [blk, waiting, List.getElem?_set]
      by_cases e : i = k
      · subst e
        have : S.thr[i] = t := by rw [List.getElem?_eq_getElem hi] at ht; exact Option.some.inj ht
        simp [hi, this]
      · simp [e]
  have hths : (waiting S i t s o c).thr.map (fun t => Pt t.tb 0) = S.thr.map (fun t => Pt t.tb 0) := by
    apply List.ext_getElem?
    intro k
    have := hblk (k + 5)
    simp only [blk] at this
    rw [List.getElem?_map, List.getElem?_map]
    have e : ∀ l : List Thr, (l[k]?).map (fun t => Pt t.tb 0) = ((l[k]?).map (·.tb)).map (fun b => Pt b 0) := fun l => by cases l[k]? <;> rfl
    rw [e, e, this]
  refine ⟨⟨?_, fun j t' hj => ?_, own_stay (fun b hb => hits 3 b hb (by omega)) h.own, own_stay (fun b hb => hits 1 b hb (by omega)) h.chg, ?_, own_stay (fun b hb => hits 4 b hb (by omega)) h.sch, ?_, fun j k b hj hk => ?_, fun b n hz => ?_⟩, ⟨?_, ?_, ?_, fun b hb hs => ?_⟩, fun b ⟨k, hk⟩ => .inl ⟨k, by rw [← hblk]; exact hk⟩⟩
  · show V.heap[S.wb]? = _
    rw [hits 0 S.wb rfl (by omega)]
    exact h.wor
  · rcases hget j t' hj with ⟨rfl, rfl⟩ | ⟨hne, hj⟩
    · exact hrow
    · rw [hits (j + 5) t'.tb (by simp [blk, hj]) (by omega)]
      exact h.thr j t' hj
  · have := own_stay (w' := V) (fun b hb => hits 2 b hb (by omega)) h.ths
    rw [hths]
    have e : (waiting S i t s o c).thr.length = S.thr.length := by simp [waiting]
    rw [e]
    exact this
  · show S.base ≤ V.heap.size
    rw [← hV]
    simpa [World.setCell] using h.bs
  · exact h.apart j k b (by rw [← hblk]; exact hj) (by rw [← hblk]; exact hk)
  · rcases h.kept b n hz with h1 | ⟨j, t', hj, h2, h3⟩
    · exact .inl h1
    · right
      by_cases e : j = i
      · subst e
        rw [ht] at hj
        cases hj
        exact ⟨j, { t with st := s, ce := c, op := o, se := chgOf S.chg c }, by simp [waiting, hi], h2, h3⟩
      · exact ⟨j, t', by simp only [waiting, List.getElem?_set]; rw [if_neg (fun e' => e e'.symm)]; exact hj, h2, h3⟩
  · rw [← hV]; rfl
  · rw [← hV]; rfl
  · rw [← hV]; simp [World.setCell]
  · exact hst b (fun e => hs ⟨i + 5, by rw [hbt, e]⟩)
end
end Go.Proofs.Ytfjjoohflcchnaa

namespace Go.Lift
open Go.Conc

/-- Served, it goes on as c', whatever is asked of its steps. -/
def Back (P : Program) (main : Bool) (g c' : Goroutine) : Prop := ∀ (D : World → World → Array Event → Prop) (Stop : Goroutine → World → Prop) (x : Value) (w : World), (∀ w, D w w #[]) → GoesI P main D Stop c' w → GoesI P main D Stop (Go.Conc.served g x) w
theorem Back.then {P : Program} {main : Bool} {g c1 c2 : Goroutine} (h : Back P main g c1) (hc : ∀ (D : World → World → Array Event → Prop) (Stop : Goroutine → World → Prop) (w : World), (∀ w, D w w #[]) → GoesI P main D Stop c2 w → GoesI P main D Stop c1 w) : Back P main g c2 :=
  fun D Stop x w hD hg => h D Stop x w hD (hc D Stop w hD hg)

section
variable {P : Program} {main : Bool} {Stop : Goroutine → World → Prop} {k : List Item} {cs : List Frame} {w : World} {ops : Array Oper} {i : Nat} {rest : List Nat} {o : Oper}
/-- The rest of a function, by its lone walk, and back to its caller's operation. -/
theorem goesI_rest {z : Nat → Option Nat} {Ch : Nat → Prop} {L : FuncId → Prop} (hE : ∀ fr cs dy g w, ∃ o w', early P fr cs dy g w = .ended o w') (hL : ∀ g, L g → fineFn P true L g)
    {f : FuncId} {fn : Func} {c : Code} {act : Act} {bc : Frame} {ac : Act} {R : Value → World → Prop} {v0 : World} (hvw : Rel z v0 w) (hn : NoRow Ch v0) (hf : P.funcs[f]? = some fn) (hc : fineCode P true L c) (ha : act.defers = []) (ho : ops[i]? = some o)
    (hres : ∀ tmps, ∃ v, (∀ w, (results fn tmps).run P w = .ok v w) ∧ ∀ w, (results fn tmps).events P w #[] = #[])
    (hwp : ∀ τ, c.wp P (bodyPost P fn (fun e w' => ∃ v, e = .returned v ∧ R v w')) act (onTape v0 τ 0))
    (h : ∀ v v' w', R v v' → Rel z v' w' → NoRow Ch v' → GoesI P main (DT (ScZ z) Ch) Stop (G (bc.at (ac.put o.dst v) (.inRegion ops rest :: k)) cs) w') :
    GoesI P main (DT (ScZ z) Ch) Stop (G ((base f).at act [.code c]) (bc.at ac (.inRegion ops (i :: rest) :: k) :: cs)) w := by
  refine (lift_code (P := P) (z := z) (wr := true) (L := L) (D := DT (ScZ z) Ch) (I := NoRow Ch) (main := main) (b := base f) (k := []) (cs := bc.at ac (.inRegion ops (i :: rest) :: k) :: cs) hE hL noRow_keeps
    (fun v v' w w' es hi hr ho he => dt_of_z v v' w w' es hi hr ho he) hvw hc ha (by simp [base]) hn hwp ?_).then ?_
  · intro e a w hq
    cases e with
    | normal => exact .inl rfl
    | ret => exact .inr rfl
    | panic ch => obtain ⟨_, v, hv, _⟩ := hq; cases hv
    | outgrown => obtain ⟨v, hv, _⟩ := hq; cases hv
    | _ => exact hq.elim
  · rintro g w' ⟨a', v', hr, hiv, hd, ⟨⟨_, x, hx, y, hy, hR⟩, rfl⟩ | ⟨⟨_, x, hx, y, hy, hR⟩, todo, rfl⟩⟩
    · cases hy
      obtain ⟨v, hv1, hv2⟩ := hres a'.tmps
      have : x = v := by have := hv1 v'; rw [hx] at this; cases this; rfl
      subst this
      refine goesI_end (dt_idle _ _) ?_
      exact goesI_leave (b := base f) (fn := fn) rfl hd hf hv1 hv2 ho (dt_idle _ _) (h x v' w' hR hr hiv)
    · cases hy
      obtain ⟨v, hv1, hv2⟩ := hres a'.tmps
      have : x = v := by have := hv1 v'; rw [hx] at this; cases this; rfl
      subst this
      exact goesI_leave (b := base f) (fn := fn) rfl hd hf hv1 hv2 ho (dt_idle _ _) (h x v' w' hR hr hiv)
end
end Go.Lift
