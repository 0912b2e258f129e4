/- LatchLinear: whatever the schedule, the number and the scripts, what a latch's calls are told could have been one call behind the other, as chapter 3's own functions say; no conditions. Part 33 of 39. (Joined, by program, of: LatLin2, R3b, LatLin3, R3Fit.) -/
import Derived.Test.YtehingmdmijedaaLatchLinear26
import Derived.Test.YtehingmdmijedaaLatchLinear29
import Derived.Test.YtehingmdmijedaaLatchLinear31
import Derived.Test.YtehingmdmijedaaLatchLinear32
import Derived.Lib.SliceRun
import Derived.Deep.RegionHeld3
import Derived.Laws.CopyRow
import Derived.Laws.CopyOwn
set_option linter.unusedSimpArgs false
set_option linter.unusedVariables false
namespace Go.Proofs.Ytehingmdmijedaa.Gen
open Go Go.Lift Go.Conc Go.RowKit
open Go.ConcN (upd upd_same upd_ne)
theorem opOk_latch : OpOk mcLatch := by
  refine ⟨fun c op j q h => ?_, fun q x op j q' h => ?_, fun q op j q' h => ?_⟩
  · unfold mcLatch at h
    simp only at h
    split at h
    · cases h; exact ⟨by decide, by decide⟩
    · split at h
      · cases h; exact ⟨by decide, by decide⟩
      · cases h
  · unfold mcLatch at h
    simp only at h
    split at h
    · simp only at h
      split at h
      · cases h
      · cases h; exact ⟨by decide, by decide⟩
    · split at h
      · simp only at h
        split at h
        · cases h
        · cases h; exact ⟨by decide, by decide⟩
      · simp only at h
        split at h <;> cases h
  · unfold mcLatch at h
    simp only at h
    cases h
    exact ⟨by decide, by decide⟩
theorem hi_ac {N : Nat} {n0 : Int} {cl : Nat → List Cl} {k : Nat} {cs : List (List Cl)} {v v' : Vw} (h : Hi mcLatch k cs v v') : cs = (List.range' k cs.length).map cl → k + cs.length = N → (∀ i, i < N → ∀ c ∈ cl i, c.po = 1 ∨ c.po = 2) → (∀ i, k ≤ i → nt v.L i = 0) → AI cl n0 v → AI cl n0 v' := by
  induction h with
  | nil => intro _ _ _ _ hA; exact hA
  | @cons k c cs v v1 v2 X l' hF e1 e2 e3 e4 e5 h ih =>
    intro hc hN ho h0 hA
    rw [List.length_cons, List.range'_succ, List.map_cons] at hc
    obtain ⟨hc1, hc2⟩ := List.cons.inj hc
    subst hc1
    simp only [List.length_cons] at hN
    have hF0 : Fit9 (k + 1) cl (upd (fun _ => []) k (List.replicate (cl k).length (0, 0))) [] := .nil
    obtain ⟨f1, f2⟩ := fw_lat hF (ho k (by omega))
    obtain ⟨_, _, k3⟩ := fw_note (N := k + 1) (cl := cl) opOk_latch (by omega) hF (fun _ => []) [] (by simp) (Nat.zero_le _) (by simp) hF0 (fun _ => ⟨rfl, fun q a hq _ => absurd hq (by omega)⟩) (fun h => by cases h)
    obtain ⟨c, hK, hac⟩ := hA
    refine ih hc2 (by omega) ho (fun i hi => ?_) ⟨c, by rw [e1]; exact hK, ?_⟩
    · have q : nt X i = 0 := by have := k3 i (by omega); simpa [nt] using this
      rw [e4]
      have : nt (v.L ++ X) i = nt v.L i + nt X i := by unfold nt; rw [List.countP_append]
      rw [this, h0 i (by omega), q]
    · rw [e4, e5.l, ans_upd]
      refine (hac.mono fun j q hq => ?_).more X f1
      by_cases e : j = k
      · subst e; rw [h0 j (Nat.le_refl _)] at hq; omega
      · rw [upd_ne _ _ e]
theorem latch_calls {caps : Array Value} {pk : Nat → Option Obj} {N n : Nat} {cb : Nat} {n0 : Int} (h0 : 0 ≤ n0) (hn0 : n0 ≤ 9223372036854775807) {pc : Nat → Option Addr} {ln cp rb : Nat → Nat} {cl : Nat → List Cl} {wb bk base : Nat} {sc cv : Value} {sched : List Int} {l0 l1 : Nat → Ph} {S1 : TS} {m : Nat} {p' : PSt} (hl0 : ∀ i, l0 i = .done []) (hops : ∀ i, i < n → ∀ c ∈ cl i, c.po = 1 ∨ c.po = 2)
    (hlen : ∀ j, j < n → (cl j).length = ln j ∧ ln j ≤ 64) (hn8 : n ≤ 8)
    (hH : Hires mcLatch 0 (scrs mcLatch 64 caps pk N n [(cb, n0)] pc ln cp rb cl) (nv { cellsS (newS wb bk base sc sched) cv 1 with ran := true }) l0 S1 l1) (hT : Turns mcLatch m ⟨S1, [(cb, n0)], l1⟩ p') :
    ∃ L c, p'.S.tr = flat L ∧ p'.S.n = L.length ∧ Fit9 n cl (fun i => (p'.l i).ans) L ∧ Ac9 cl (fun i => (p'.l i).ans) lst n0 L c ∧ ∀ i, i < n → (p'.l i).ans.length = (cl i).length := by
  let v0 : Vw := ⟨[n0], false, [0], fun _ => 0, l0, []⟩
  have hs0 : Seen ⟨nv { cellsS (newS wb bk base sc sched) cv 1 with ran := true }, [(cb, n0)], l0⟩ v0 := ⟨rfl, rfl, rfl, fun i => rfl, rfl, rfl, rfl, fun i t ht => by cases ht⟩
  have hcs : (scrs mcLatch 64 caps pk N n [(cb, n0)] pc ln cp rb cl).map (·.calls) = (List.range' 0 n).map cl := by
    unfold scrs
    rw [List.map_map]
    rfl
  obtain ⟨v1, hi1, hs1⟩ := hires_hi (K := [(cb, n0)]) hH v0 rfl (fun s hs => by
    simp only [scrs, List.mem_map, List.mem_range'] at hs
    obtain ⟨j, ⟨i, hi, rfl⟩, rfl⟩ := hs
    show List.replicate (ln (0 + 1 * i)) (0, 0) = List.replicate (cl (0 + 1 * i)).length (0, 0)
    rw [(hlen _ (by omega)).1]) hs0
  rw [hcs] at hi1
  have hlh : LH n n n0 cl v1 := hi_latch hi1 (by simp) (by simp) ⟨rfl, rfl, rfl, rfl, fun A s B e => by simp [v0] at e, fun i hi => by omega, rfl⟩
  have hli : LI n n0 cl v1 := ⟨⟨n0, hlh.num, h0, by rw [hlh.zero]; simp⟩, by rw [hlh.zero]; exact hlh.chg, hlh.ends, fun i hi => by rw [hlh.zero, hlh.stk]; exact hlh.thr i hi, by rw [hlh.zero]; exact hlh.sum, fun x => by rw [hlh.stk] at x; cases x⟩
  have hni : NI n cl v1 := hi_note opOk_latch hi1 (by simp) (by simp) .nil (fun i hi => by omega) (fun _ _ => rfl)
  have hai : AI cl n0 v1 := hi_ac (N := n) hi1 (by simp) (by simp) hops (fun _ _ => rfl) ⟨n0, rfl, .nil⟩
  obtain ⟨a1, a2, a3, a4⟩ := hires_gd metLatch hH rfl (by rw [scrs_len]; omega) (fun i t ht => by cases ht)
  rw [scrs_len, Nat.zero_add] at a1
  have g : Gd metLatch ⟨S1, [(cb, n0)], l1⟩ := ⟨by show S1.thr.length ≤ 8; omega, a2⟩
  obtain ⟨v', ⟨_, hN, c, _, hA⟩, hs', _, _⟩ := turns_mv metLatch (N := n) (Inv := fun v => LI n n0 cl v ∧ NI n cl v ∧ AI cl n0 v) (fun v v1 hv hm => ⟨latch_mv hn0 hv.1 hm, note_mv opOk_latch hv.2.1 hm, lat_ac hn0 hops hv.1 hv.2.1 hv.2.2 hm⟩) hT v1 a1 g hs1 ⟨hli, hni, hai⟩
  refine ⟨v'.L, c, hs'.tr, hs'.n, ?_, ?_, fun i hi => ?_⟩
  · rw [← hs'.l]; exact hN.fit
  · rw [← hs'.l]; exact hA
  · rw [← hs'.l]; exact (hN.thr i hi).1
end Go.Proofs.Ytehingmdmijedaa.Gen

namespace Go.Proofs.Ytehingmdmijedaa.His
open Go.RowKit
def wayStack : Ways (List Int) := fun s e =>
  if e.op = 1 then [((0, 0), s ++ [e.a]), ((80, 0), s)] else if e.op = 2 then (match s.reverse with | [] => [((90, 0), s)] | v :: _ => [((0, v), s.dropLast)]) else []
def actOf (e : Ev) : Option (Int × Int) :=
  if e.op = 1 then some (0, e.b) else if e.op = 2 then some (70, e.b) else if e.op = 3 then some (71, e.b) else if e.op = 4 then some (70, 72) else none
end Go.Proofs.Ytehingmdmijedaa.His
namespace Go.Proofs.Ytehingmdmijedaa.His
open Go.RowKit
end Go.Proofs.Ytehingmdmijedaa.His
namespace Go.Proofs.Ytehingmdmijedaa.R3
open Go.RowKit Go.Proofs.Ytehingmdmijedaa.His Go.Deep Go.Maps
end Go.Proofs.Ytehingmdmijedaa.R3
namespace Go.Proofs.Ytehingmdmijedaa.R3
open Go.RowKit Go.Proofs.Ytehingmdmijedaa.His Go.Deep Go.Maps Go.BigFrame
section
variable {P : Program} {ops : Array Oper} {rest : List Oper} {op : Oper} {a : Act} {w w' : World} {Q : Exit → Act → World → Prop}
end
end Go.Proofs.Ytehingmdmijedaa.R3
namespace Go.Proofs.Ytehingmdmijedaa.R3
open Go.RowKit Go.Proofs.Ytehingmdmijedaa.His Go.Deep Go.Maps
section
variable {ops : Array Oper} {rest : List Oper} {op : Oper} {a : Act} {w : World} {Q : Exit → Act → World → Prop}
end
end Go.Proofs.Ytehingmdmijedaa.R3
namespace Go.Proofs.Ytehingmdmijedaa.R3
open Go.RowKit Go.Proofs.Ytehingmdmijedaa.His Go.Deep Go.Maps
section
variable {ops : Array Oper} {rest : List Oper} {op : Oper} {a : Act} {w : World} {Q : Exit → Act → World → Prop}
end
end Go.Proofs.Ytehingmdmijedaa.R3
namespace Go.Proofs.Ytehingmdmijedaa.R3
open Go.RowKit Go.Proofs.Ytehingmdmijedaa.His Go.Deep Go.Maps
end Go.Proofs.Ytehingmdmijedaa.R3
namespace Go.Proofs.Ytehingmdmijedaa.R3
open Go.RowKit Go.Proofs.Ytehingmdmijedaa.His Go.Deep Go.Maps
end Go.Proofs.Ytehingmdmijedaa.R3
namespace Go.Proofs.Ytehingmdmijedaa.R3
open Go.RowKit Go.Proofs.Ytehingmdmijedaa.His Go.Deep Go.Maps
end Go.Proofs.Ytehingmdmijedaa.R3
namespace Go.Proofs.Ytehingmdmijedaa.His
open Go.RowKit
def wayThree (n : Int) : Ways (List Int) := fun s e =>
  match actOf e with
  | none => []
  | some g =>
    if s.getD (3 * (e.a % n).toNat) 0 = 1 then [((s.getD (3 * (e.a % n).toNat + 1) 0, s.getD (3 * (e.a % n).toNat + 2) 0), s)]
    else [(g, ((s.set (3 * (e.a % n).toNat) 1).set (3 * (e.a % n).toNat + 1) g.1).set (3 * (e.a % n).toNat + 2) g.2)]
def refWays (obj n : Int) : Ways (List Int) := fun s e =>
  if obj = 1 then
    (if e.op = 1 then [((0, s.headD 0), [wrap64 (s.headD 0 + e.a)])] else if e.op = 2 then [((0, s.headD 0), [wrap64 (s.headD 0 + e.a)]), ((0, -1), s)] else [])
  else if obj = 2 then wayStack s e
  else if obj = 3 then
    (if e.op = 1 then [((0, 0), [wrap64 (s.headD 0 + e.a.tmod 1000)])] else if e.op = 2 then [((0, s.headD 0), s)] else [])
  else if obj = 4 then
    (if e.op = 1 then (if s.headD 0 > 0 then [((0, 0), [wrap64 (s.headD 0 - 1)])] else [((50, 0), s)]) else if e.op = 2 then (if s.headD 0 = 0 then [((0, 0), s)] else []) else [])
  else wayThree n s e
def firstOf (obj n : Int) : List Int := if obj = 2 then [] else if obj = 5 then List.replicate (3 * n.toNat) 0 else [n]
end Go.Proofs.Ytehingmdmijedaa.His
namespace Go.Proofs.Ytehingmdmijedaa.R3
open Go.RowKit Go.Proofs.Ytehingmdmijedaa.His Go.Deep Go.Maps
end Go.Proofs.Ytehingmdmijedaa.R3
namespace Go.Proofs.Ytehingmdmijedaa.R3
open Go.RowKit Go.Proofs.Ytehingmdmijedaa.His Go.Deep Go.Maps
end Go.Proofs.Ytehingmdmijedaa.R3
namespace Go.Proofs.Ytehingmdmijedaa.R3
open Go.RowKit Go.Proofs.Ytehingmdmijedaa.His Go.Deep Go.Maps
end Go.Proofs.Ytehingmdmijedaa.R3
namespace Go.Proofs.Ytehingmdmijedaa.R3
open Go.RowKit Go.Proofs.Ytehingmdmijedaa.His Go.Deep Go.Maps
section
variable {ops : Array Oper} {o : Oper} {a : Act} {w : World} {K : Act → World → Prop} {Q : Exit → Act → World → Prop} {E : Prop}
end
theorem kcell' {B : Nat} {u u' : World} (hb : Below B u u') {b o : Nat} (hn : b < B) {v : Value} (h : u.cell? ⟨b, o, none⟩ = some v) : u'.cell? ⟨b, o, none⟩ = some v := by rw [hb.cell (p := ⟨b, o, none⟩) hn]; exact h
end Go.Proofs.Ytehingmdmijedaa.R3
namespace Go.Proofs.Ytehingmdmijedaa.R3
open Go.RowKit Go.Proofs.Ytehingmdmijedaa.His Go.Deep Go.Maps
end Go.Proofs.Ytehingmdmijedaa.R3
namespace Go.Proofs.Ytehingmdmijedaa.R3
open Go.RowKit Go.Proofs.Ytehingmdmijedaa.His Go.Deep Go.Maps
end Go.Proofs.Ytehingmdmijedaa.R3
namespace Go.Proofs.Ytehingmdmijedaa.R3
open Go.RowKit Go.Proofs.Ytehingmdmijedaa.His Go.Deep Go.Maps
end Go.Proofs.Ytehingmdmijedaa.R3
namespace Go.Proofs.Ytehingmdmijedaa.R3
open Go.RowKit Go.Proofs.Ytehingmdmijedaa.His Go.Deep Go.Maps
def LinOut (ob st : Int) (l : List Ev) (b : Bool) (c : Int) : Prop :=
  (¬ Starts ob st ∧ b = false ∧ c = 1) ∨ (Starts ob st ∧ 12 < l.length ∧ b = false ∧ c = 3) ∨ (Starts ob st ∧ l.length ≤ 12 ∧ ¬ Hist l ∧ b = false ∧ c = 30) ∨
    (Starts ob st ∧ l.length ≤ 12 ∧ Hist l ∧ c = 0 ∧ (b = true ↔ Lin (refWays ob st) (firstOf ob st) l))
end Go.Proofs.Ytehingmdmijedaa.R3
namespace Go.Proofs.Ytehingmdmijedaa.R3
open Go.RowKit Go.Proofs.Ytehingmdmijedaa.His Go.Deep Go.Maps
theorem beg_fin {w : World} {b o : Nat} {x : Ev} (h : w.rangeAt b o (evC x).toList) : w.cell? ⟨b, o + 4, none⟩ = some (I x.beg) ∧ w.cell? ⟨b, o + 5, none⟩ = some (I x.fin) := ⟨h 4 _ rfl, h 5 _ rfl⟩
end Go.Proofs.Ytehingmdmijedaa.R3
namespace Go.Proofs.Ytehingmdmijedaa.R3
open Go.RowKit Go.Proofs.Ytehingmdmijedaa.His Go.Deep Go.Maps
end Go.Proofs.Ytehingmdmijedaa.R3
namespace Go.Proofs.Ytehingmdmijedaa.R3
open Go.RowKit Go.Proofs.Ytehingmdmijedaa.His Go.Deep Go.Maps
end Go.Proofs.Ytehingmdmijedaa.R3
namespace Go.Proofs.Ytehingmdmijedaa.R3
open Go.RowKit Go.Proofs.Ytehingmdmijedaa.His Go.Deep Go.Maps
end Go.Proofs.Ytehingmdmijedaa.R3
namespace Go.Proofs.Ytehingmdmijedaa.R3
open Go.RowKit Go.Proofs.Ytehingmdmijedaa.His Go.Deep Go.Maps
theorem grown_pre {W X w6 : World} {row : Option Nat} (hb : Below W.heap.size W X) (hg : X.grownBy w6 row) : W.grownBy w6 row :=
  ⟨hg.os.trans hb.os, hg.tape.trans hb.tape, hg.output.trans hb.output, Nat.le_trans hb.size hg.size, fun k hk hn => (hg.block k (Nat.lt_of_lt_of_le hk hb.size) hn).trans (hb.block k hk)⟩
end Go.Proofs.Ytehingmdmijedaa.R3
namespace Go.Proofs.Ytehingmdmijedaa.R3
open Go.RowKit Go.Proofs.Ytehingmdmijedaa.His Go.Deep Go.Maps
end Go.Proofs.Ytehingmdmijedaa.R3
namespace Go.Proofs.Ytehingmdmijedaa.R3
open Go.RowKit Go.Proofs.Ytehingmdmijedaa.His Go.Deep Go.Maps
end Go.Proofs.Ytehingmdmijedaa.R3
namespace Go.Proofs.Ytehingmdmijedaa.R3
open Go.RowKit Go.Proofs.Ytehingmdmijedaa.His Go.Deep Go.Maps
end Go.Proofs.Ytehingmdmijedaa.R3
namespace Go.Proofs.Ytehingmdmijedaa.R3
open Go.RowKit Go.Proofs.Ytehingmdmijedaa.His Go.Deep Go.Maps Go.BigFrame
section
variable {ops : Array Oper} {rest : List Oper} {op : Oper} {a : Act} {w : World} {Q : Exit → Act → World → Prop}
end
end Go.Proofs.Ytehingmdmijedaa.R3
namespace Go.Proofs.Ytehingmdmijedaa.R3
open Go.RowKit Go.Proofs.Ytehingmdmijedaa.His Go.Deep Go.Maps
end Go.Proofs.Ytehingmdmijedaa.R3
namespace Go.Proofs.Ytehingmdmijedaa.R3
open Go.RowKit Go.Proofs.Ytehingmdmijedaa.His Go.Deep Go.Maps
end Go.Proofs.Ytehingmdmijedaa.R3

namespace Go.Proofs.Ytehingmdmijedaa.Gen
open Go Go.Lift Go.Conc Go.RowKit
open Go.Proofs.Ytehingmdmijedaa.His
open Go.ConcN (upd upd_same upd_ne)
theorem ac_low {cl : Nat → List Cl} {an : Nat → List (Int × Int)} {n0 s : Int} {L : List Stp} (h : Ac9 cl an lst n0 L s) : Ac9 cl an (fun s c a s' => lst s c a s' ∧ s ≤ n0) n0 L s ∧ s ≤ n0 := by
  induction h with
  | nil => exact ⟨.nil, Int.le_refl _⟩
  | other h hx ih => exact ⟨.other ih.1 hx, ih.2⟩
  | fin h hn hc ha h4 hs ih =>
    refine ⟨.fin ih.1 hn hc ha h4 ⟨hs, ih.2⟩, ?_⟩
    have := ih.2
    rcases hs with ⟨_, _, _, h⟩ | ⟨_, _, _, h⟩ | ⟨_, _, _, h⟩ <;> omega
theorem wrap_in {x : Int} (h0 : -9223372036854775808 ≤ x) (h1 : x ≤ 9223372036854775807) : wrap64 x = x := by
  unfold wrap64
  omega
theorem ops_of {n : Nat} {cl : Nat → List Cl} {m : Int} (h : ∀ i, i < (scL n cl).length → ∀ k, k < ((scL n cl).getD i []).length → R3.OpIn m (((scL n cl).getD i []).getD k R3.call0)) : ∀ i, i < n → ∀ c ∈ cl i, 1 ≤ c.po ∧ c.po ≤ m := fun i hi c hc => by
  obtain ⟨k, hk, e⟩ := List.mem_iff_getElem.1 hc
  have := h i (by rw [scL_len]; exact hi) k (by rw [scL_get cl hi, List.length_map]; exact hk)
  rw [scL_get cl hi] at this
  have e2 : ((cl i).map toCall).getD k R3.call0 = toCall c := by simp [List.getD_eq_getElem?_getD, hk, e]
  rw [e2] at this
  exact this
theorem lin_of {σ : Type} {N : Nat} {cl : Nat → List Cl} {an : Nat → List (Int × Int)} {st : σ → Cl → Int × Int → σ → Prop} {s0 s : σ} {ob n0 : Int} (f : σ → List Int) (hf : f s0 = firstOf ob n0) (hS : R3.Starts ob n0) (hl : ∀ i, i < N → (an i).length = (cl i).length)
    (hw : ∀ (s : σ) (c : Cl) (a : Int × Int) (s' : σ) (e : His.Ev), st s c a s' → e.op = c.po → e.a = c.ca → e.b = c.cb → e.ans = a → ∃ o, o ∈ refWays ob n0 (f s) e ∧ o.1 = a ∧ o.2 = f s') {L : List Stp} (hF : Fit9 N cl an L) (hA : Ac9 cl an st s0 L s) (h12 : R3.sumL (scL N cl) (scL N cl).length ≤ 12) :
    R3.Alike (scL N cl) (anL N an) ∧ ∀ r, R3.Ofs (scL N cl) (anL N an) 0 (L.map toStep) R3.st0 r → ∃ s, r = some s ∧ R3.Starts ob n0 ∧ s.evs.length ≤ 12 ∧ Hist s.evs ∧ Lin (refWays ob n0) (firstOf ob n0) s.evs := by
  refine ⟨alike_of hl, fun r hr => ?_⟩
  obtain ⟨E, id, ord, hE, hI⟩ := run_lin (ways := refWays ob n0) f hw (run9_of hF s hA)
  refine ⟨_, ofs_is hl hE hF hr, hS, Nat.le_trans (ev_le hE hF) h12, hI.hist, ?_⟩
  rw [← hf]
  exact hI.lin
theorem lat_way {n0 : Int} (hn0 : n0 ≤ 9223372036854775807) (s : Int) (c : Cl) (a : Int × Int) (s' : Int) (e : His.Ev) (h : lst s c a s' ∧ s ≤ n0) (h1 : e.op = c.po) (h2 : e.a = c.ca) (h3 : e.b = c.cb) (h4 : e.ans = a) : ∃ o, o ∈ refWays 4 n0 [s] e ∧ o.1 = a ∧ o.2 = [s'] := by
  obtain ⟨h, hs⟩ := h
  have key : refWays 4 n0 [s] e = if e.op = 1 then (if s > 0 then [((0, 0), [wrap64 (s - 1)])] else [((50, 0), [s])]) else if e.op = 2 then (if s = 0 then [((0, 0), [s])] else []) else [] := rfl
  rw [key, h1]
  clear key
  rcases h with ⟨hp, rfl, h0, rfl⟩ | ⟨hp, rfl, rfl, rfl⟩ | ⟨hp, rfl, rfl, rfl⟩
  · rw [hp, if_pos rfl, if_pos h0]
    exact ⟨_, List.mem_singleton.2 rfl, rfl, by rw [wrap_in (by omega) (by omega)]⟩
  · rw [hp, if_pos rfl, if_neg (by omega)]
    exact ⟨_, List.mem_singleton.2 rfl, rfl, rfl⟩
  · rw [hp, if_neg (by decide), if_pos rfl, if_pos rfl]
    exact ⟨_, List.mem_singleton.2 rfl, rfl, rfl⟩
theorem latch_lin {caps : Array Value} {pk : Nat → Option Obj} {N n : Nat} {cb : Nat} {n0 : Int} (h0 : 0 ≤ n0) (hn0 : n0 ≤ 9223372036854775807) {pc : Nat → Option Addr} {ln cp rb : Nat → Nat} {cl : Nat → List Cl} {wb bk base : Nat} {sc cv : Value} {sched : List Int} {l0 l1 : Nat → Ph} {S1 : TS} {m : Nat} {p' : PSt} (hl0 : ∀ i, l0 i = .done [])
    (hlen : ∀ j, j < n → (cl j).length = ln j ∧ ln j ≤ 64) (hn8 : n ≤ 8)
    (hH : Hires mcLatch 0 (scrs mcLatch 64 caps pk N n [(cb, n0)] pc ln cp rb cl) (nv { cellsS (newS wb bk base sc sched) cv 1 with ran := true }) l0 S1 l1) (hT : Turns mcLatch m ⟨S1, [(cb, n0)], l1⟩ p') {L : List Stp} (hL : p'.S.tr = flat L)
    (hop : ∀ i, i < (scL n cl).length → ∀ k, k < ((scL n cl).getD i []).length → R3.OpIn 2 (((scL n cl).getD i []).getD k R3.call0)) (h12 : R3.sumL (scL n cl) (scL n cl).length ≤ 12) :
    R3.Alike (scL n cl) (anL n fun i => (p'.l i).ans) ∧ ∀ r, R3.Ofs (scL n cl) (anL n fun i => (p'.l i).ans) 0 (L.map toStep) R3.st0 r → ∃ s, r = some s ∧ R3.Starts 4 n0 ∧ s.evs.length ≤ 12 ∧ Hist s.evs ∧ Lin (refWays 4 n0) (firstOf 4 n0) s.evs := by
  obtain ⟨L', c, t1, t2, hF, hA, hl⟩ := latch_calls h0 hn0 hl0 (fun i hi c hc => by have := ops_of hop i hi c hc; omega) hlen hn8 hH hT
  obtain rfl : L' = L := flat_inj (t1.symm.trans hL)
  exact lin_of (fun s => [s]) (by simp [firstOf]) (.inr (.inr (.inr (.inl ⟨rfl, h0⟩)))) hl (lat_way hn0) hF (ac_low hA).1 h12
end Go.Proofs.Ytehingmdmijedaa.Gen

namespace Go.Proofs.Ytehingmdmijedaa.R3
open Go.RowKit Go.Proofs.Ytehingmdmijedaa.His Go.Deep Go.Maps
def FitP (sc : List (List Call)) (an : List (List (Int × Int))) (tr : List Step) : Prop := Alike sc an ∧ ∃ st, Ofs sc an 0 tr st0 (some st)
set_option maxHeartbeats 400000 in
theorem note_any (s : Step) (w : World) :
    Calls Try.prog 104 #[stepV s] w fun e w' => RetB e (s.op = 9 ∨ s.op = 10) ∧ Below w.heap.size w w' := by
  by_cases h9 : s.op = 9
  · have g : (s.op == 9) = true := by simpa using h9
    have H : Hid (s.op = 9) := h9
    clear h9
    go_enter Try.func104, Try.ntmps104
    go_wp2
    go_ret
    exact ⟨retB_yes rfl (.inl H.out), below_alloc (Below.refl _ _) _⟩
  · have g : (s.op == 9) = false := by simpa using h9
    have H : Hid (¬ s.op = 9) := h9
    clear h9
    go_enter Try.func104, Try.ntmps104
    go_wp2
    go_ret
    exact ⟨⟨_, rfl, by have := H.out; simp [this]⟩, below_alloc (Below.refl _ _) _⟩
def noteC (tab : Nat → Nat × Nat × Nat) (t : Nat) : Value := I (((tab t).1 + (tab t).2.1 : Nat) : Int)
theorem make_ints (n : Nat) (hn : n ≤ 1048576) (w : World) :
    (Instr.makeSlice 22 (.int .i64 (n : Int)) (.int .i64 (n : Int))).run Try.prog w = .ok (.slice (some ⟨w.heap.size, 0, none⟩) n n) (w.alloc (.cells (madeCells #[I 0] n) 3)) := by
  have info3 : (Try.prog.info? 3).map (fun i => (i.zero, i.size, i.bytes)) = some (some (.int .i64 0), 1, 8) := by kernel_rfl
  cases hq : Try.prog.info? 3 with
  | none => rw [hq] at info3; cases info3
  | some i =>
    have hi := info3
    rw [hq] at hi
    simp only [Option.map_some, Option.some.injEq, Prod.mk.injEq] at hi
    obtain ⟨hz, hs, hb⟩ := hi
    have := run_make (P := Try.prog) w 22 3 i _ Try.underlying22 hq hz .i64 .i64 (n : Int) (n : Int) (by omega) (by omega) (by rw [hb]; omega) (by omega)
    rw [hs] at this
    rw [this]
    simp [Value.cells]
structure FitInv (w0 : World) (bt n : Nat) (an : List (List (Int × Int))) (st : St) (u : World) : Prop where
  row : u.rowIs bt 3 n (noteC st.tab)
  below : Below w0.heap.size w0 u
  ok : ∀ t, t < n → (st.tab t).2.1 ≤ (st.tab t).1 ∧ (st.tab t).1 ≤ (st.tab t).2.1 + 1 ∧ (st.tab t).1 ≤ (an.getD t []).length
theorem FitInv.later {w0 : World} {bt n : Nat} {an : List (List (Int × Int))} {st : St} {u u' : World} (h : FitInv w0 bt n an st u) (hb : Below u.heap.size u u') : FitInv w0 bt n an st u' :=
  ⟨row_later hb h.row h.row.lt, h.below.trans (hb.mono h.below.size), h.ok⟩
theorem fit_no {sc : List (List Call)} {an : List (List (Int × Int))} {tr : List Step} {k : Nat} {st : St} (hp : ∀ r, Ofs sc an 0 tr st0 r → Ofs sc an k (tr.drop k) st r) (h : ∀ r, Ofs sc an k (tr.drop k) st r → r = none) : ¬ FitP sc an tr := by
  rintro ⟨_, st', h'⟩
  have := h _ (hp _ h')
  cases this
theorem note_set {w : World} {bt n t : Nat} {tab tab' : Nat → Nat × Nat × Nat} (h : w.rowIs bt 3 n (noteC tab)) (m : Nat) (h0 : (tab' t).1 + (tab' t).2.1 = m) (h1 : ∀ i, i ≠ t → tab' i = tab i) : (w.setCell ⟨bt, t, none⟩ (I m)).rowIs bt 3 n (noteC tab') :=
  (h.set t (I m)).congr fun i _ => by
    by_cases e : i = t
    · subst e; rw [if_pos rfl]; unfold noteC; rw [h0]
    · rw [if_neg e]; unfold noteC; rw [h1 i e]
set_option maxHeartbeats 8000000 in
set_option maxRecDepth 100000 in
theorem fit_any (sv av tv : Value) (sc : List (List Call)) (an : List (List (Int × Int))) (tr : List Step) (w : World) (hs : SSw 4 callL w sv sc) (ha : SSw 2 ansL w av an) (ht : SLw 5 stepL w tv tr)
    (bn : sc.length ≤ 1048576) (ba : ∀ i, (an.getD i []).length ≤ 1048576) :
    Calls Try.prog 86 #[sv, av, tv] w fun e w' => RetB e (FitP sc an tr) ∧ Below w.heap.size w w' := by
  obtain ⟨p, cap, rfl, p1, p2, p3⟩ := hs
  obtain ⟨q, caq, rfl, q1, q2, q3⟩ := ha
  obtain ⟨o, cao, rfl, o1, o2, o3⟩ := ht
  unfold maxLen at p2 q2 o2
  have P3 : Hid (∀ i l, sc[i]? = some l → ∃ blk off vi, p = some ⟨blk, off, none⟩ ∧ w.cell? ⟨blk, off + i, none⟩ = some vi ∧ SLw 4 callL w vi l) := p3
  have Q3 : Hid (∀ i l, an[i]? = some l → ∃ blk off vi, q = some ⟨blk, off, none⟩ ∧ w.cell? ⟨blk, off + i, none⟩ = some vi ∧ SLw 2 ansL w vi l) := q3
  have O3 : Hid (∀ i a, tr[i]? = some a → ∃ blk off, o = some ⟨blk, off, none⟩ ∧ blk < w.heap.size ∧ w.rangeAt blk (off + i * 5) (stepL a)) := o3
  have BA : Hid (∀ i, (an.getD i []).length ≤ 1048576) := ba
  clear p3 q3 o3 ba
  by_cases hl : an.length = sc.length
  · have hl' : ((an.length : Int) != (sc.length : Int)) = false := by simp [hl]
    have HL : Hid (an.length = sc.length) := hl
    clear hl
    have hmk := make_ints sc.length bn
    go_enter Try.func86, Try.ntmps86
    go_wp2_with fail
    go_loopw [7] (fun i u => ∃ k : Nat, k ≤ sc.length ∧ i = .int .i64 k ∧ (∀ i, i < k → (sc.getD i []).length = (an.getD i []).length) ∧ ∃ q, u = w.drewN q) (fun i _ => sc.length - (intOf i).toNat)
    case atStart => exact ⟨0, Nat.zero_le _, rfl, fun i hi => absurd hi (Nat.not_lt_zero _), 0, rfl⟩
    case round =>
      obtain ⟨k, hk, rfl, hso, qn, rfl⟩ := hrel
      by_cases hlt : k < sc.length
      · have hlt2 : k < an.length := by have := HL.out; omega
        obtain ⟨blk, off, vi, rfl, hc, ⟨p2', cp2, rfl, i1, i2, _⟩⟩ := P3.out k _ (getD_some hlt [])
        obtain ⟨blk', off', vi', rfl, hc', ⟨p3', cp3, rfl, j1, j2, _⟩⟩ := Q3.out k _ (getD_some hlt2 [])
        unfold maxLen at i2 j2
        have HSO : Hid (∀ i, i < k → (sc.getD i []).length = (an.getD i []).length) := hso
        clear hso hmk
        generalize hna : (sc.getD k []).length = na at hc i1
        generalize hnb : (an.getD k []).length = nb at hc' j1
        have HNA : Hid ((sc.getD k []).length = na) := hna
        have HNB : Hid ((an.getD k []).length = nb) := hnb
        clear hna hnb
        by_cases he : na = nb
        · have HEQ : Hid (na = nb) := he
          have he' : ((nb : Int) != (na : Int)) = false := by simp [he]
          clear he
          go_wp2_with fail
          go_quiet (fail)
          go_wp2_with fail
          go_roundw
          case rel => exact ⟨k + 1, by omega, by go_num, upto_succ HSO.out (HNA.out.trans (HEQ.out.trans HNB.out.symm)), _, rfl⟩
          case measure => simp [intOf]; omega
        · have HEQ : Hid (¬ na = nb) := he
          have he' : ((nb : Int) != (na : Int)) = true := by simpa using (by omega : ¬ ((nb : Int) = (na : Int)))
          clear he
          go_wp2_with fail
          go_quiet (fail)
          go_wp2_with fail
          go_ret
          exact ⟨retB_no rfl (fun h => HEQ.out (HNA.out.symm.trans ((h.1.2 k hlt).trans HNB.out))), below_drewN (below_drewN (Below.refl _ _) _) _⟩
      · have : k = sc.length := by omega
        subst this
        have HAL : Hid (Alike sc an) := ⟨HL.out.symm, hso⟩
        clear hso
        go_wp2_with fail
        clear hmk
        go_loopw [9] (fun i u => ∃ (k : Nat) (st : St), k ≤ tr.length ∧ i = .int .i64 k ∧ (∀ r, Ofs sc an 0 tr st0 r → Ofs sc an k (tr.drop k) st r) ∧ (∀ r, Ofs sc an k (tr.drop k) st r → Ofs sc an 0 tr st0 r) ∧ FitInv w w.heap.size sc.length an st u) (fun i _ => tr.length - (intOf i).toNat)
        case atStart =>
          refine ⟨0, st0, Nat.zero_le _, rfl, fun r h => h, fun r h => h, ⟨?_, below_alloc (below_drewN (Below.refl _ _) _) _, fun t _ => ⟨Nat.le_refl _, Nat.zero_le _, Nat.zero_le _⟩⟩⟩
          exact (World.rowIs_made (w.drewN qn) (I 0) sc.length 3).congr fun i _ => rfl
        case round =>
          obtain ⟨k, st, hk, rfl, hto, hfro, hinv⟩ := hrel
          obtain ⟨wo, hwo⟩ : ∃ wo, wo = wr := ⟨wr, rfl⟩
          subst hwo
          have HTO : Hid (∀ r, Ofs sc an 0 tr st0 r → Ofs sc an k (tr.drop k) st r) := hto
          have HFR : Hid (∀ r, Ofs sc an k (tr.drop k) st r → Ofs sc an 0 tr st0 r) := hfro
          have HINV : Hid (FitInv w w.heap.size sc.length an st wo) := hinv
          by_cases hlt : k < tr.length
          · obtain ⟨s, hsk⟩ : ∃ s, tr[k]? = some s := ⟨_, List.getElem?_eq_getElem hlt⟩
            obtain ⟨blk, off, rfl, hblk, hr⟩ := O3.out k s hsk
            have HDR : Hid (tr.drop k = s :: tr.drop (k + 1)) := by
              rw [List.drop_eq_getElem_cons hlt]
              rw [List.getElem?_eq_getElem hlt] at hsk
              rw [Option.some.inj hsk]
              rfl
            have HST : Hid (wo.rangeAt blk (off + k * 5) (stepL s)) := range_later hinv.below hr hblk
            have hsz : w.heap.size < wo.heap.size := hinv.row.lt
            clear hto hfro hinv hsk hr
            by_cases hop : s.op = 9 ∨ s.op = 10
            · by_cases hth : s.thr < 0 ∨ (sc.length : Int) ≤ s.thr
              · have HNO : Hid (¬ FitP sc an tr) := fit_no HTO.out (fun r h => by rw [HDR.out] at h; exact ofs_out hop hth h)
                have HOP : Hid (s.op = 9 ∨ s.op = 10) := hop
                have g2 : s.thr < 0 ∨ (0 ≤ s.thr ∧ (sc.length : Int) ≤ s.thr) := by omega
                clear hop hth
                go_wp2_with ((with_reducible refine wp_load45 (.tmp 47) ?_ ?_ blk (off + k * 5) ?_ s ?_ ?_); rfl; rfl; rfl; exact HST.out)
                refine (note_any s _).mono ?_
                rintro e w3 ⟨⟨b3, rfl, hb⟩, hb3⟩
                have : b3 = true := hb.2 HOP.out
                subst this
                obtain ⟨hc3, hf3⟩ := bcell hb3
                have HB3 : Hid (Below _ _ w3) := hb3
                clear hb hb3
                rcases g2 with g2 | ⟨g2, g2'⟩
                all_goals
                  go_wp2_with fail
                  go_ret
                  exact ⟨retB_no rfl HNO.out, below_step (below_alloc HINV.out.below _) HB3.out⟩
              · obtain ⟨t, hte⟩ := Int.eq_ofNat_of_zero_le (show 0 ≤ s.thr by omega)
                have htl : t < sc.length := by omega
                obtain ⟨sthr, scel, sop, sold, snew⟩ := s
                simp only at hte hop hth
                subst hte
                have htla : t < an.length := by have := HL.out; omega
                obtain ⟨ablk, aoff, avi, rfl, ac0, ⟨ip, icap, rfl, i1, i2, i3⟩⟩ := Q3.out t _ (getD_some htla [])
                obtain ⟨sblk, soff, svi, rfl, sc0, ⟨jp, jcap, rfl, j1, j2, j3⟩⟩ := P3.out t _ (getD_some htl [])
                have labk : ablk < w.heap.size := World.block_lt_of_cell? _ _ ac0
                have lsbk : sblk < w.heap.size := World.block_lt_of_cell? _ _ sc0
                have hlen : (sc.getD t []).length = (an.getD t []).length := HAL.out.2 t htl
                have hbig := BA.out t
                obtain ⟨k1, k2, k3⟩ := HINV.out.ok t htl
                have HI3 : Hid (∀ i a, (an.getD t [])[i]? = some a → ∃ blk off, ip = some ⟨blk, off, none⟩ ∧ blk < w.heap.size ∧ w.rangeAt blk (off + i * 2) (ansL a)) := i3
                unfold maxLen at i2 j2
                have HOPP : Hid (sop = 9 ∨ sop = 10) := hop
                clear i3 j3 hth
                have c0 := HINV.out.row.cell (i := t) htl
                have f0 := HINV.out.row.frozen t
                unfold noteC at c0
                generalize hb : (st.tab t).1 = b at *
                generalize he : (st.tab t).2.1 = e at *
                generalize hm : b + e = m at c0
                have HBT : Hid ((st.tab t).1 = b) := hb
                have HET : Hid ((st.tab t).2.1 = e) := he
                have HM : Hid (b + e = m) := hm
                generalize hnl : (an.getD t []).length = nl at *
                have HNL : Hid ((an.getD t []).length = nl) := hnl
                rw [hlen] at sc0 j1
                have hq : (m : Int) / 2 = (e : Int) := by omega
                have hmb : (m : Int) ≤ 4194304 := by omega
                clear hb he hm hlen hnl
                go_wp2_with ((with_reducible refine wp_load45 (.tmp 47) ?_ ?_ blk (off + k * 5) ?_ ⟨t, scel, sop, sold, snew⟩ ?_ ?_); rfl; rfl; rfl; exact HST.out)
                refine (note_any ⟨t, scel, sop, sold, snew⟩ _).mono ?_
                rintro ed w3 ⟨⟨b3, rfl, hbb⟩, hb3⟩
                have : b3 = true := hbb.2 HOPP.out
                subst this
                have HB3 : Hid (Below _ _ w3) := hb3
                have hz3 : wo.heap.size + 1 ≤ w3.heap.size := by have := hb3.size; simpa using this
                have ac : w3.cell? ⟨ablk, aoff + t, none⟩ = some (.slice ip nl icap) := by
                  rw [(below_step (below_alloc HINV.out.below _) hb3).cell (p := ⟨ablk, aoff + t, none⟩) labk]; exact ac0
                have scc : w3.cell? ⟨sblk, soff + t, none⟩ = some (.slice jp nl jcap) := by
                  rw [(below_step (below_alloc HINV.out.below _) hb3).cell (p := ⟨sblk, soff + t, none⟩) lsbk]; exact sc0
                obtain ⟨hc3, hf3⟩ := bcell hb3
                clear hbb hb3 ac0 sc0
                by_cases hbe : b = e
                · have hr2 : (m : Int) % 2 = 0 := by have := HM.out; omega
                  rcases hop with hop | hop
                  · subst hop
                    by_cases hso : sold = (e : Int)
                    · subst hso
                      by_cases hel : e < nl
                      · by_cases hnw : snew = 0
                        · have hnw' : (snew != 0) = false := by rw [hnw]; rfl
                          have HOK : Hid (beginOk an st t ⟨t, scel, 9, e, snew⟩) := ⟨by rw [HBT.out, HET.out]; exact hbe, by rw [HBT.out, HNL.out]; omega, by rw [HBT.out]; simp; omega, hnw⟩
                          have HBE : Hid (b = e) := hbe
                          clear hnw hbe
                          go_wp2_with fail
                          go_quiet (fail)
                          go_wp2_with fail
                          go_roundw
                          case rel =>
                            have hbe := HBE.out
                            have hb3 := below_step (below_alloc (Below.refl _ wo) _) HB3.out
                            refine ⟨k + 1, beginSt sc st t k, by omega, by go_num, fun r h => ?_, fun r h => HFR.out r ?_, ⟨?_, ?_, fun t' ht' => ?_⟩⟩
                            · have := HTO.out r h
                              rw [HDR.out] at this
                              exact ofs_begin rfl rfl htl HOK.out this
                            · rw [HDR.out]
                              exact .inr (.inr (.inl ⟨t, rfl, htl, rfl, HOK.out, h⟩))
                            · refine row_later (below_drewN (Below.refl (w.heap.size + 1) _) _) (note_set (row_later hb3 HINV.out.row HINV.out.row.lt) (m + 1) ?_ ?_) (Nat.lt_succ_self _)
                              · simp only [beginSt, upd, if_pos, HBT.out, HET.out]; have := HM.out; omega
                              · intro i hi; simp [beginSt, upd, hi]
                            · exact below_drewN ((HINV.out.below.trans (hb3.mono HINV.out.below.size)).setCell (Nat.le_refl _) _) _
                            · have hk' := HINV.out.ok t' ht'
                              by_cases ee : t' = t
                              · subst ee
                                simp only [beginSt, upd, if_pos]
                                rw [HBT.out, HET.out] at *
                                rw [HNL.out]
                                omega
                              · simp only [beginSt, upd, if_neg ee]
                                exact hk'
                          case measure => simp [intOf]; omega
                        · have hnw' : (snew != 0) = true := by simpa using hnw
                          have HNO : Hid (¬ FitP sc an tr) := fit_no HTO.out (fun r h => by
                            rw [HDR.out] at h
                            exact ofs_nobegin (t := t) rfl rfl htl (fun h' => hnw h'.2.2.2) h)
                          clear hnw
                          go_wp2_with fail
                          go_quiet (fail)
                          go_wp2_with fail
                          go_ret
                          exact ⟨retB_no rfl HNO.out, below_drewN ((below_step (below_alloc HINV.out.below _) HB3.out).setCell (Nat.le_refl _) _) _⟩
                      · have HNO : Hid (¬ FitP sc an tr) := fit_no HTO.out (fun r h => by
                          rw [HDR.out] at h
                          exact ofs_nobegin (t := t) rfl rfl htl (fun h' => by have := h'.2.1; rw [HBT.out, HNL.out] at this; omega) h)
                        go_wp2_with fail
                        go_ret
                        exact ⟨retB_no rfl HNO.out, (below_step (below_alloc HINV.out.below _) HB3.out).setCell (Nat.le_refl _) _⟩
                    · have hso' : (sold != (e : Int)) = true := by simpa using hso
                      have HNO : Hid (¬ FitP sc an tr) := fit_no HTO.out (fun r h => by
                        rw [HDR.out] at h
                        exact ofs_nobegin (t := t) rfl rfl htl (fun h' => by have := h'.2.2.1; rw [HBT.out] at this; simp only at this; omega) h)
                      clear hso
                      go_wp2_with fail
                      go_ret
                      exact ⟨retB_no rfl HNO.out, (below_step (below_alloc HINV.out.below _) HB3.out).setCell (Nat.le_refl _) _⟩
                  · subst hop
                    have HNO : Hid (¬ FitP sc an tr) := fit_no HTO.out (fun r h => by
                      rw [HDR.out] at h
                      exact ofs_noend (t := t) rfl rfl htl (fun h' => by have := h'.1; rw [HBT.out, HET.out] at this; omega) h)
                    go_wp2_with fail
                    all_goals
                      go_ret
                      exact ⟨retB_no rfl HNO.out, (below_step (below_alloc HINV.out.below _) HB3.out).setCell (Nat.le_refl _) _⟩
                · have hr2 : (m : Int) % 2 = 1 := by have := HM.out; omega
                  rcases hop with hop | hop
                  · subst hop
                    have HNO : Hid (¬ FitP sc an tr) := fit_no HTO.out (fun r h => by
                      rw [HDR.out] at h
                      exact ofs_nobegin (t := t) rfl rfl htl (fun h' => by have := h'.1; rw [HBT.out, HET.out] at this; omega) h)
                    go_wp2_with fail
                    all_goals
                      go_ret
                      exact ⟨retB_no rfl HNO.out, (below_step (below_alloc HINV.out.below _) HB3.out).setCell (Nat.le_refl _) _⟩
                  · subst hop
                    have hel : e < nl := by omega
                    obtain ⟨cblk, coff, rfl, lcb, cr⟩ := HI3.out e _ (getD_some (by rw [HNL.out]; exact hel) (0, 0))
                    have cr3 := range_later (below_step (below_alloc HINV.out.below _) HB3.out) cr lcb
                    generalize hcl : (an.getD t []).getD e (0, 0) = cl at cr3
                    have HCL : Hid ((an.getD t []).getD e (0, 0) = cl) := hcl
                    have q0 : w3.cell? ⟨cblk, coff + e * 2, none⟩ = some (I cl.1) := by simpa using cr3 0 _ rfl
                    have n1 : ¬ w.heap.size = cblk := by omega
                    have n2 : ¬ cblk = w.heap.size := by omega
                    have n3 : ¬ ablk = w.heap.size := by omega
                    have n4 : ¬ w.heap.size = ablk := by omega
                    clear cr cr3 hcl
                    by_cases hso : sold = (e : Int)
                    · subst hso
                      by_cases hnw : snew = cl.1
                      · have HOK : Hid (endOk an st t ⟨t, scel, 10, e, snew⟩) := ⟨by rw [HBT.out, HET.out]; omega, by rw [HET.out], by rw [HET.out, HCL.out]; exact hnw⟩
                        subst hnw
                        go_wp2_with fail
                        go_quiet (fail)
                        go_wp2_with fail
                        go_roundw
                        case rel =>
                          have hb3 := below_step (below_alloc (Below.refl _ wo) _) HB3.out
                          have htab : (endSt an st t k).tab = upd st.tab t ((st.tab t).1, (st.tab t).2.1 + 1, (st.tab t).2.2) := rfl
                          refine ⟨k + 1, endSt an st t k, by omega, by go_num, fun r h => ?_, fun r h => HFR.out r ?_, ⟨?_, ?_, fun t' ht' => ?_⟩⟩
                          · have := HTO.out r h
                            rw [HDR.out] at this
                            exact ofs_end rfl rfl htl HOK.out this
                          · rw [HDR.out]
                            exact .inr (.inr (.inr (.inl ⟨t, rfl, htl, rfl, HOK.out, h⟩)))
                          · refine row_later (below_drewN (Below.refl (w.heap.size + 1) _) _) (note_set (row_later hb3 HINV.out.row HINV.out.row.lt) (m + 1) ?_ ?_) (Nat.lt_succ_self _)
                            · rw [htab]; simp only [upd, if_pos, HBT.out, HET.out]; have := HM.out; omega
                            · intro i hi; rw [htab]; simp [upd, hi]
                          · exact below_drewN ((HINV.out.below.trans (hb3.mono HINV.out.below.size)).setCell (Nat.le_refl _) _) _
                          · have hk' := HINV.out.ok t' ht'
                            rw [htab]
                            by_cases ee : t' = t
                            · subst ee
                              simp only [upd, if_pos]
                              rw [HBT.out, HET.out] at *
                              rw [HNL.out]
                              omega
                            · simp only [upd, if_neg ee]
                              exact hk'
                        case measure => simp [intOf]; omega
                      · have hnw' : (snew != cl.1) = true := by simpa using hnw
                        have HNO : Hid (¬ FitP sc an tr) := fit_no HTO.out (fun r h => by
                          rw [HDR.out] at h
                          exact ofs_noend (t := t) rfl rfl htl (fun h' => by have := h'.2.2; rw [HET.out, HCL.out] at this; exact hnw this) h)
                        clear hnw
                        go_wp2_with fail
                        go_quiet (fail)
                        go_wp2_with fail
                        go_ret
                        exact ⟨retB_no rfl HNO.out, below_drewN ((below_step (below_alloc HINV.out.below _) HB3.out).setCell (Nat.le_refl _) _) _⟩
                    · have hso' : (sold != (e : Int)) = true := by simpa using hso
                      have HNO : Hid (¬ FitP sc an tr) := fit_no HTO.out (fun r h => by
                        rw [HDR.out] at h
                        exact ofs_noend (t := t) rfl rfl htl (fun h' => by have := h'.2.1; rw [HET.out] at this; simp only at this; omega) h)
                      clear hso
                      go_wp2_with fail
                      go_ret
                      exact ⟨retB_no rfl HNO.out, (below_step (below_alloc HINV.out.below _) HB3.out).setCell (Nat.le_refl _) _⟩
            · have HOP : Hid (¬ (s.op = 9 ∨ s.op = 10)) := hop
              clear hop
              go_wp2_with ((with_reducible refine wp_load45 (.tmp 47) ?_ ?_ blk (off + k * 5) ?_ s ?_ ?_); rfl; rfl; rfl; exact HST.out)
              refine (note_any s _).mono ?_
              rintro e w3 ⟨⟨b3, rfl, hb⟩, hb3⟩
              have : b3 = false := by
                cases b3 with
                | false => rfl
                | true => exact absurd (hb.1 rfl) HOP.out
              subst this
              have HB3 : Hid (Below _ _ w3) := hb3
              clear hb hb3
              go_wp2_with fail
              go_roundw
              case rel =>
                have hn := HOP.out
                refine ⟨k + 1, st, by omega, by go_num, fun r h => ?_, fun r h => HFR.out r ?_, HINV.out.later (below_step (below_alloc (Below.refl _ _) _) HB3.out)⟩
                · have := HTO.out r h
                  rw [HDR.out] at this
                  exact ofs_skip (fun h => hn (.inl h)) (fun h => hn (.inr h)) this
                · rw [HDR.out]
                  exact .inl ⟨fun h => hn (.inl h), fun h => hn (.inr h), h⟩
              case measure => simp [intOf]; omega
          · have : k = tr.length := by omega
            subst this
            go_wp2_with fail
            go_ret
            exact ⟨retB_yes rfl ⟨HAL.out, st, HFR.out _ (by rw [List.drop_length]; rfl)⟩, HINV.out.below⟩
  · have hl' : ((an.length : Int) != (sc.length : Int)) = true := by simpa using (by omega : ¬ ((an.length : Int) = (sc.length : Int)))
    have HL : Hid (¬ an.length = sc.length) := hl
    clear hl
    go_enter Try.func86, Try.ntmps86
    go_wp2_with fail
    go_ret
    exact ⟨retB_no rfl (fun h => HL.out h.1.1.symm), Below.refl _ _⟩
end Go.Proofs.Ytehingmdmijedaa.R3
