/- LatchLinear: whatever the schedule, the number and the scripts, what a latch's calls are told could have been one call behind the other, as chapter 3's own functions say; no conditions. Part 2 of 39. (Joined, by program, of: R3b, R3Fit, R3Scan.) -/
import Derived.Test.YtehingmdmijedaaLatchLinear01
import Derived.Lib.SliceRun
import Derived.Deep.RegionHeld3
import Derived.Laws.CopyRow
import Derived.Laws.CopyOwn
set_option linter.unusedSimpArgs false
set_option linter.unusedVariables false
namespace Go.Proofs.Ytehingmdmijedaa.His
open Go.RowKit
def wayStack : Ways (List Int) := fun s e =>
  if e.op = 1 then [((0, 0), s ++ [e.a]), ((80, 0), s)] else if e.op = 2 then (match s.reverse with | [] => [((90, 0), s)] | v :: _ => [((0, v), s.dropLast)]) else []
def actOf (e : Ev) : Option (Int × Int) :=
  if e.op = 1 then some (0, e.b) else if e.op = 2 then some (70, e.b) else if e.op = 3 then some (71, e.b) else if e.op = 4 then some (70, 72) else none
end Go.Proofs.Ytehingmdmijedaa.His
namespace Go.Proofs.Ytehingmdmijedaa.His
open Go.RowKit
end Go.Proofs.Ytehingmdmijedaa.His
namespace Go.Proofs.Ytehingmdmijedaa.R3
open Go.RowKit Go.Proofs.Ytehingmdmijedaa.His Go.Deep Go.Maps
end Go.Proofs.Ytehingmdmijedaa.R3
namespace Go.Proofs.Ytehingmdmijedaa.R3
open Go.RowKit Go.Proofs.Ytehingmdmijedaa.His Go.Deep Go.Maps Go.BigFrame
section
variable {P : Program} {ops : Array Oper} {rest : List Oper} {op : Oper} {a : Act} {w w' : World} {Q : Exit → Act → World → Prop}
end
end Go.Proofs.Ytehingmdmijedaa.R3
namespace Go.Proofs.Ytehingmdmijedaa.R3
open Go.RowKit Go.Proofs.Ytehingmdmijedaa.His Go.Deep Go.Maps
section
variable {ops : Array Oper} {rest : List Oper} {op : Oper} {a : Act} {w : World} {Q : Exit → Act → World → Prop}
end
end Go.Proofs.Ytehingmdmijedaa.R3
namespace Go.Proofs.Ytehingmdmijedaa.R3
open Go.RowKit Go.Proofs.Ytehingmdmijedaa.His Go.Deep Go.Maps
section
variable {ops : Array Oper} {rest : List Oper} {op : Oper} {a : Act} {w : World} {Q : Exit → Act → World → Prop}
end
end Go.Proofs.Ytehingmdmijedaa.R3
namespace Go.Proofs.Ytehingmdmijedaa.R3
open Go.RowKit Go.Proofs.Ytehingmdmijedaa.His Go.Deep Go.Maps
end Go.Proofs.Ytehingmdmijedaa.R3
namespace Go.Proofs.Ytehingmdmijedaa.R3
open Go.RowKit Go.Proofs.Ytehingmdmijedaa.His Go.Deep Go.Maps
end Go.Proofs.Ytehingmdmijedaa.R3
namespace Go.Proofs.Ytehingmdmijedaa.R3
open Go.RowKit Go.Proofs.Ytehingmdmijedaa.His Go.Deep Go.Maps
end Go.Proofs.Ytehingmdmijedaa.R3
namespace Go.Proofs.Ytehingmdmijedaa.His
open Go.RowKit
def wayThree (n : Int) : Ways (List Int) := fun s e =>
  match actOf e with
  | none => []
  | some g =>
    if s.getD (3 * (e.a % n).toNat) 0 = 1 then [((s.getD (3 * (e.a % n).toNat + 1) 0, s.getD (3 * (e.a % n).toNat + 2) 0), s)]
    else [(g, ((s.set (3 * (e.a % n).toNat) 1).set (3 * (e.a % n).toNat + 1) g.1).set (3 * (e.a % n).toNat + 2) g.2)]
def refWays (obj n : Int) : Ways (List Int) := fun s e =>
  if obj = 1 then
    (if e.op = 1 then [((0, s.headD 0), [wrap64 (s.headD 0 + e.a)])] else if e.op = 2 then [((0, s.headD 0), [wrap64 (s.headD 0 + e.a)]), ((0, -1), s)] else [])
  else if obj = 2 then wayStack s e
  else if obj = 3 then
    (if e.op = 1 then [((0, 0), [wrap64 (s.headD 0 + e.a.tmod 1000)])] else if e.op = 2 then [((0, s.headD 0), s)] else [])
  else if obj = 4 then
    (if e.op = 1 then (if s.headD 0 > 0 then [((0, 0), [wrap64 (s.headD 0 - 1)])] else [((50, 0), s)]) else if e.op = 2 then (if s.headD 0 = 0 then [((0, 0), s)] else []) else [])
  else wayThree n s e
def firstOf (obj n : Int) : List Int := if obj = 2 then [] else if obj = 5 then List.replicate (3 * n.toNat) 0 else [n]
end Go.Proofs.Ytehingmdmijedaa.His
namespace Go.Proofs.Ytehingmdmijedaa.R3
open Go.RowKit Go.Proofs.Ytehingmdmijedaa.His Go.Deep Go.Maps
end Go.Proofs.Ytehingmdmijedaa.R3
namespace Go.Proofs.Ytehingmdmijedaa.R3
open Go.RowKit Go.Proofs.Ytehingmdmijedaa.His Go.Deep Go.Maps
end Go.Proofs.Ytehingmdmijedaa.R3
namespace Go.Proofs.Ytehingmdmijedaa.R3
open Go.RowKit Go.Proofs.Ytehingmdmijedaa.His Go.Deep Go.Maps
end Go.Proofs.Ytehingmdmijedaa.R3
namespace Go.Proofs.Ytehingmdmijedaa.R3
open Go.RowKit Go.Proofs.Ytehingmdmijedaa.His Go.Deep Go.Maps
section
variable {ops : Array Oper} {o : Oper} {a : Act} {w : World} {K : Act → World → Prop} {Q : Exit → Act → World → Prop} {E : Prop}
end
theorem kcell' {B : Nat} {u u' : World} (hb : Below B u u') {b o : Nat} (hn : b < B) {v : Value} (h : u.cell? ⟨b, o, none⟩ = some v) : u'.cell? ⟨b, o, none⟩ = some v := by rw [hb.cell (p := ⟨b, o, none⟩) hn]; exact h
end Go.Proofs.Ytehingmdmijedaa.R3
namespace Go.Proofs.Ytehingmdmijedaa.R3
open Go.RowKit Go.Proofs.Ytehingmdmijedaa.His Go.Deep Go.Maps
end Go.Proofs.Ytehingmdmijedaa.R3
namespace Go.Proofs.Ytehingmdmijedaa.R3
open Go.RowKit Go.Proofs.Ytehingmdmijedaa.His Go.Deep Go.Maps
end Go.Proofs.Ytehingmdmijedaa.R3
namespace Go.Proofs.Ytehingmdmijedaa.R3
open Go.RowKit Go.Proofs.Ytehingmdmijedaa.His Go.Deep Go.Maps
end Go.Proofs.Ytehingmdmijedaa.R3
namespace Go.Proofs.Ytehingmdmijedaa.R3
open Go.RowKit Go.Proofs.Ytehingmdmijedaa.His Go.Deep Go.Maps
def LinOut (ob st : Int) (l : List Ev) (b : Bool) (c : Int) : Prop :=
  (¬ Starts ob st ∧ b = false ∧ c = 1) ∨ (Starts ob st ∧ 12 < l.length ∧ b = false ∧ c = 3) ∨ (Starts ob st ∧ l.length ≤ 12 ∧ ¬ Hist l ∧ b = false ∧ c = 30) ∨
    (Starts ob st ∧ l.length ≤ 12 ∧ Hist l ∧ c = 0 ∧ (b = true ↔ Lin (refWays ob st) (firstOf ob st) l))
end Go.Proofs.Ytehingmdmijedaa.R3
namespace Go.Proofs.Ytehingmdmijedaa.R3
open Go.RowKit Go.Proofs.Ytehingmdmijedaa.His Go.Deep Go.Maps
theorem beg_fin {w : World} {b o : Nat} {x : Ev} (h : w.rangeAt b o (evC x).toList) : w.cell? ⟨b, o + 4, none⟩ = some (I x.beg) ∧ w.cell? ⟨b, o + 5, none⟩ = some (I x.fin) := ⟨h 4 _ rfl, h 5 _ rfl⟩
end Go.Proofs.Ytehingmdmijedaa.R3
namespace Go.Proofs.Ytehingmdmijedaa.R3
open Go.RowKit Go.Proofs.Ytehingmdmijedaa.His Go.Deep Go.Maps
end Go.Proofs.Ytehingmdmijedaa.R3
namespace Go.Proofs.Ytehingmdmijedaa.R3
open Go.RowKit Go.Proofs.Ytehingmdmijedaa.His Go.Deep Go.Maps
end Go.Proofs.Ytehingmdmijedaa.R3
namespace Go.Proofs.Ytehingmdmijedaa.R3
open Go.RowKit Go.Proofs.Ytehingmdmijedaa.His Go.Deep Go.Maps
end Go.Proofs.Ytehingmdmijedaa.R3
namespace Go.Proofs.Ytehingmdmijedaa.R3
open Go.RowKit Go.Proofs.Ytehingmdmijedaa.His Go.Deep Go.Maps
theorem grown_pre {W X w6 : World} {row : Option Nat} (hb : Below W.heap.size W X) (hg : X.grownBy w6 row) : W.grownBy w6 row :=
  ⟨hg.os.trans hb.os, hg.tape.trans hb.tape, hg.output.trans hb.output, Nat.le_trans hb.size hg.size, fun k hk hn => (hg.block k (Nat.lt_of_lt_of_le hk hb.size) hn).trans (hb.block k hk)⟩
end Go.Proofs.Ytehingmdmijedaa.R3
namespace Go.Proofs.Ytehingmdmijedaa.R3
open Go.RowKit Go.Proofs.Ytehingmdmijedaa.His Go.Deep Go.Maps
end Go.Proofs.Ytehingmdmijedaa.R3
namespace Go.Proofs.Ytehingmdmijedaa.R3
open Go.RowKit Go.Proofs.Ytehingmdmijedaa.His Go.Deep Go.Maps
end Go.Proofs.Ytehingmdmijedaa.R3
namespace Go.Proofs.Ytehingmdmijedaa.R3
open Go.RowKit Go.Proofs.Ytehingmdmijedaa.His Go.Deep Go.Maps
end Go.Proofs.Ytehingmdmijedaa.R3
namespace Go.Proofs.Ytehingmdmijedaa.R3
open Go.RowKit Go.Proofs.Ytehingmdmijedaa.His Go.Deep Go.Maps Go.BigFrame
section
variable {ops : Array Oper} {rest : List Oper} {op : Oper} {a : Act} {w : World} {Q : Exit → Act → World → Prop}
end
end Go.Proofs.Ytehingmdmijedaa.R3
namespace Go.Proofs.Ytehingmdmijedaa.R3
open Go.RowKit Go.Proofs.Ytehingmdmijedaa.His Go.Deep Go.Maps
end Go.Proofs.Ytehingmdmijedaa.R3
namespace Go.Proofs.Ytehingmdmijedaa.R3
open Go.RowKit Go.Proofs.Ytehingmdmijedaa.His Go.Deep Go.Maps
end Go.Proofs.Ytehingmdmijedaa.R3

namespace Go.Proofs.Ytehingmdmijedaa.R3
open Go.RowKit Go.Proofs.Ytehingmdmijedaa.His Go.Deep Go.Maps
def FitP (sc : List (List Call)) (an : List (List (Int × Int))) (tr : List Step) : Prop := Alike sc an ∧ ∃ st, Ofs sc an 0 tr st0 (some st)
set_option maxHeartbeats 400000 in
theorem note_any (s : Step) (w : World) :
    Calls Try.prog 104 #[stepV s] w fun e w' => RetB e (s.op = 9 ∨ s.op = 10) ∧ Below w.heap.size w w' := by
  by_cases h9 : s.op = 9
  · have g : (s.op == 9) = true := by simpa using h9
    have H : Hid (s.op = 9) := h9
    clear h9
    go_enter Try.func104, Try.ntmps104
    go_wp2
    go_ret
    exact ⟨retB_yes rfl (.inl H.out), below_alloc (Below.refl _ _) _⟩
  · have g : (s.op == 9) = false := by simpa using h9
    have H : Hid (¬ s.op = 9) := h9
    clear h9
    go_enter Try.func104, Try.ntmps104
    go_wp2
    go_ret
    exact ⟨⟨_, rfl, by have := H.out; simp [this]⟩, below_alloc (Below.refl _ _) _⟩
def noteC (tab : Nat → Nat × Nat × Nat) (t : Nat) : Value := I (((tab t).1 + (tab t).2.1 : Nat) : Int)
theorem make_ints (n : Nat) (hn : n ≤ 1048576) (w : World) :
    (Instr.makeSlice 22 (.int .i64 (n : Int)) (.int .i64 (n : Int))).run Try.prog w = .ok (.slice (some ⟨w.heap.size, 0, none⟩) n n) (w.alloc (.cells (madeCells #[I 0] n) 3)) := by
  have info3 : (Try.prog.info? 3).map (fun i => (i.zero, i.size, i.bytes)) = some (some (.int .i64 0), 1, 8) := by kernel_rfl
  cases hq : Try.prog.info? 3 with
  | none => rw [hq] at info3; cases info3
  | some i =>
    have hi := info3
    rw [hq] at hi
    simp only [Option.map_some, Option.some.injEq, Prod.mk.injEq] at hi
    obtain ⟨hz, hs, hb⟩ := hi
    have := run_make (P := Try.prog) w 22 3 i _ Try.underlying22 hq hz .i64 .i64 (n : Int) (n : Int) (by omega) (by omega) (by rw [hb]; omega) (by omega)
    rw [hs] at this
    rw [this]
    simp [Value.cells]
structure FitInv (w0 : World) (bt n : Nat) (an : List (List (Int × Int))) (st : St) (u : World) : Prop where
  row : u.rowIs bt 3 n (noteC st.tab)
  below : Below w0.heap.size w0 u
  ok : ∀ t, t < n → (st.tab t).2.1 ≤ (st.tab t).1 ∧ (st.tab t).1 ≤ (st.tab t).2.1 + 1 ∧ (st.tab t).1 ≤ (an.getD t []).length
theorem FitInv.later {w0 : World} {bt n : Nat} {an : List (List (Int × Int))} {st : St} {u u' : World} (h : FitInv w0 bt n an st u) (hb : Below u.heap.size u u') : FitInv w0 bt n an st u' :=
  ⟨row_later hb h.row h.row.lt, h.below.trans (hb.mono h.below.size), h.ok⟩
theorem fit_no {sc : List (List Call)} {an : List (List (Int × Int))} {tr : List Step} {k : Nat} {st : St} (hp : ∀ r, Ofs sc an 0 tr st0 r → Ofs sc an k (tr.drop k) st r) (h : ∀ r, Ofs sc an k (tr.drop k) st r → r = none) : ¬ FitP sc an tr := by
  rintro ⟨_, st', h'⟩
  have := h _ (hp _ h')
  cases this
theorem note_set {w : World} {bt n t : Nat} {tab tab' : Nat → Nat × Nat × Nat} (h : w.rowIs bt 3 n (noteC tab)) (m : Nat) (h0 : (tab' t).1 + (tab' t).2.1 = m) (h1 : ∀ i, i ≠ t → tab' i = tab i) : (w.setCell ⟨bt, t, none⟩ (I m)).rowIs bt 3 n (noteC tab') :=
  (h.set t (I m)).congr fun i _ => by
    by_cases e : i = t
    · subst e; rw [if_pos rfl]; unfold noteC; rw [h0]
    · rw [if_neg e]; unfold noteC; rw [h1 i e]
set_option maxHeartbeats 8000000 in
set_option maxRecDepth 100000 in
theorem fit_any (sv av tv : Value) (sc : List (List Call)) (an : List (List (Int × Int))) (tr : List Step) (w : World) (hs : SSw 4 callL w sv sc) (ha : SSw 2 ansL w av an) (ht : SLw 5 stepL w tv tr)
    (bn : sc.length ≤ 1048576) (ba : ∀ i, (an.getD i []).length ≤ 1048576) :
    Calls Try.prog 86 #[sv, av, tv] w fun e w' => RetB e (FitP sc an tr) ∧ Below w.heap.size w w' := by
  obtain ⟨p, cap, rfl, p1, p2, p3⟩ := hs
  obtain ⟨q, caq, rfl, q1, q2, q3⟩ := ha
  obtain ⟨o, cao, rfl, o1, o2, o3⟩ := ht
  unfold maxLen at p2 q2 o2
  have P3 : Hid (∀ i l, sc[i]? = some l → ∃ blk off vi, p = some ⟨blk, off, none⟩ ∧ w.cell? ⟨blk, off + i, none⟩ = some vi ∧ SLw 4 callL w vi l) := p3
  have Q3 : Hid (∀ i l, an[i]? = some l → ∃ blk off vi, q = some ⟨blk, off, none⟩ ∧ w.cell? ⟨blk, off + i, none⟩ = some vi ∧ SLw 2 ansL w vi l) := q3
  have O3 : Hid (∀ i a, tr[i]? = some a → ∃ blk off, o = some ⟨blk, off, none⟩ ∧ blk < w.heap.size ∧ w.rangeAt blk (off + i * 5) (stepL a)) := o3
  have BA : Hid (∀ i, (an.getD i []).length ≤ 1048576) := ba
  clear p3 q3 o3 ba
  by_cases hl : an.length = sc.length
  · have hl' : ((an.length : Int) != (sc.length : Int)) = false := by simp [hl]
    have HL : Hid (an.length = sc.length) := hl
    clear hl
    have hmk := make_ints sc.length bn
    go_enter Try.func86, Try.ntmps86
    go_wp2_with fail
    go_loopw [7] (fun i u => ∃ k : Nat, k ≤ sc.length ∧ i = .int .i64 k ∧ (∀ i, i < k → (sc.getD i []).length = (an.getD i []).length) ∧ ∃ q, u = w.drewN q) (fun i _ => sc.length - (intOf i).toNat)
    case atStart => exact ⟨0, Nat.zero_le _, rfl, fun i hi => absurd hi (Nat.not_lt_zero _), 0, rfl⟩
    case round =>
      obtain ⟨k, hk, rfl, hso, qn, rfl⟩ := hrel
      by_cases hlt : k < sc.length
      · have hlt2 : k < an.length := by have := HL.out; omega
        obtain ⟨blk, off, vi, rfl, hc, ⟨p2', cp2, rfl, i1, i2, _⟩⟩ := P3.out k _ (getD_some hlt [])
        obtain ⟨blk', off', vi', rfl, hc', ⟨p3', cp3, rfl, j1, j2, _⟩⟩ := Q3.out k _ (getD_some hlt2 [])
        unfold maxLen at i2 j2
        have HSO : Hid (∀ i, i < k → (sc.getD i []).length = (an.getD i []).length) := hso
        clear hso hmk
        generalize hna : (sc.getD k []).length = na at hc i1
        generalize hnb : (an.getD k []).length = nb at hc' j1
        have HNA : Hid ((sc.getD k []).length = na) := hna
        have HNB : Hid ((an.getD k []).length = nb) := hnb
        clear hna hnb
        by_cases he : na = nb
        · have HEQ : Hid (na = nb) := he
          have he' : ((nb : Int) != (na : Int)) = false := by simp [he]
          clear he
          go_wp2_with fail
          go_quiet (fail)
          go_wp2_with fail
          go_roundw
          case rel => exact ⟨k + 1, by omega, by go_num, upto_succ HSO.out (HNA.out.trans (HEQ.out.trans HNB.out.symm)), _, rfl⟩
          case measure => simp [intOf]; omega
        · have HEQ : Hid (¬ na = nb) := he
          have he' : ((nb : Int) != (na : Int)) = true := by simpa using (by omega : ¬ ((nb : Int) = (na : Int)))
          clear he
          go_wp2_with fail
          go_quiet (fail)
          go_wp2_with fail
          go_ret
          exact ⟨retB_no rfl (fun h => HEQ.out (HNA.out.symm.trans ((h.1.2 k hlt).trans HNB.out))), below_drewN (below_drewN (Below.refl _ _) _) _⟩
      · have : k = sc.length := by omega
        subst this
        have HAL : Hid (Alike sc an) := ⟨HL.out.symm, hso⟩
        clear hso
        go_wp2_with fail
        clear hmk
        go_loopw [9] (fun i u => ∃ (k : Nat) (st : St), k ≤ tr.length ∧ i = .int .i64 k ∧ (∀ r, Ofs sc an 0 tr st0 r → Ofs sc an k (tr.drop k) st r) ∧ (∀ r, Ofs sc an k (tr.drop k) st r → Ofs sc an 0 tr st0 r) ∧ FitInv w w.heap.size sc.length an st u) (fun i _ => tr.length - (intOf i).toNat)
        case atStart =>
          refine ⟨0, st0, Nat.zero_le _, rfl, fun r h => h, fun r h => h, ⟨?_, below_alloc (below_drewN (Below.refl _ _) _) _, fun t _ => ⟨Nat.le_refl _, Nat.zero_le _, Nat.zero_le _⟩⟩⟩
          exact (World.rowIs_made (w.drewN qn) (I 0) sc.length 3).congr fun i _ => rfl
        case round =>
          obtain ⟨k, st, hk, rfl, hto, hfro, hinv⟩ := hrel
          obtain ⟨wo, hwo⟩ : ∃ wo, wo = wr := ⟨wr, rfl⟩
          subst hwo
          have HTO : Hid (∀ r, Ofs sc an 0 tr st0 r → Ofs sc an k (tr.drop k) st r) := hto
          have HFR : Hid (∀ r, Ofs sc an k (tr.drop k) st r → Ofs sc an 0 tr st0 r) := hfro
          have HINV : Hid (FitInv w w.heap.size sc.length an st wo) := hinv
          by_cases hlt : k < tr.length
          · obtain ⟨s, hsk⟩ : ∃ s, tr[k]? = some s := ⟨_, List.getElem?_eq_getElem hlt⟩
            obtain ⟨blk, off, rfl, hblk, hr⟩ := O3.out k s hsk
            have HDR : Hid (tr.drop k = s :: tr.drop (k + 1)) := by
              rw [List.drop_eq_getElem_cons hlt]
              rw [List.getElem?_eq_getElem hlt] at hsk
              rw [Option.some.inj hsk]
              rfl
            have HST : Hid (wo.rangeAt blk (off + k * 5) (stepL s)) := range_later hinv.below hr hblk
            have hsz : w.heap.size < wo.heap.size := hinv.row.lt
            clear hto hfro hinv hsk hr
            by_cases hop : s.op = 9 ∨ s.op = 10
            · by_cases hth : s.thr < 0 ∨ (sc.length : Int) ≤ s.thr
              · have HNO : Hid (¬ FitP sc an tr) := fit_no HTO.out (fun r h => by rw [HDR.out] at h; exact ofs_out hop hth h)
                have HOP : Hid (s.op = 9 ∨ s.op = 10) := hop
                have g2 : s.thr < 0 ∨ (0 ≤ s.thr ∧ (sc.length : Int) ≤ s.thr) := by omega
                clear hop hth
                go_wp2_with ((with_reducible refine wp_load45 (.tmp 47) ?_ ?_ blk (off + k * 5) ?_ s ?_ ?_); rfl; rfl; rfl; exact HST.out)
                refine (note_any s _).mono ?_
                rintro e w3 ⟨⟨b3, rfl, hb⟩, hb3⟩
                have : b3 = true := hb.2 HOP.out
                subst this
                obtain ⟨hc3, hf3⟩ := bcell hb3
                have HB3 : Hid (Below _ _ w3) := hb3
                clear hb hb3
                rcases g2 with g2 | ⟨g2, g2'⟩
                all_goals
                  go_wp2_with fail
                  go_ret
                  exact ⟨retB_no rfl HNO.out, below_step (below_alloc HINV.out.below _) HB3.out⟩
              · obtain ⟨t, hte⟩ := Int.eq_ofNat_of_zero_le (show 0 ≤ s.thr by omega)
                have htl : t < sc.length := by omega
                obtain ⟨sthr, scel, sop, sold, snew⟩ := s
                simp only at hte hop hth
                subst hte
                have htla : t < an.length := by have := HL.out; omega
                obtain ⟨ablk, aoff, avi, rfl, ac0, ⟨ip, icap, rfl, i1, i2, i3⟩⟩ := Q3.out t _ (getD_some htla [])
                obtain ⟨sblk, soff, svi, rfl, sc0, ⟨jp, jcap, rfl, j1, j2, j3⟩⟩ := P3.out t _ (getD_some htl [])
                have labk : ablk < w.heap.size := World.block_lt_of_cell? _ _ ac0
                have lsbk : sblk < w.heap.size := World.block_lt_of_cell? _ _ sc0
                have hlen : (sc.getD t []).length = (an.getD t []).length := HAL.out.2 t htl
                have hbig := BA.out t
                obtain ⟨k1, k2, k3⟩ := HINV.out.ok t htl
                have HI3 : Hid (∀ i a, (an.getD t [])[i]? = some a → ∃ blk off, ip = some ⟨blk, off, none⟩ ∧ blk < w.heap.size ∧ w.rangeAt blk (off + i * 2) (ansL a)) := i3
                unfold maxLen at i2 j2
                have HOPP : Hid (sop = 9 ∨ sop = 10) := hop
                clear i3 j3 hth
                have c0 := HINV.out.row.cell (i := t) htl
                have f0 := HINV.out.row.frozen t
                unfold noteC at c0
                generalize hb : (st.tab t).1 = b at *
                generalize he : (st.tab t).2.1 = e at *
                generalize hm : b + e = m at c0
                have HBT : Hid ((st.tab t).1 = b) := hb
                have HET : Hid ((st.tab t).2.1 = e) := he
                have HM : Hid (b + e = m) := hm
                generalize hnl : (an.getD t []).length = nl at *
                have HNL : Hid ((an.getD t []).length = nl) := hnl
                rw [hlen] at sc0 j1
                have hq : (m : Int) / 2 = (e : Int) := by omega
                have hmb : (m : Int) ≤ 4194304 := by omega
                clear hb he hm hlen hnl
                go_wp2_with ((with_reducible refine wp_load45 (.tmp 47) ?_ ?_ blk (off + k * 5) ?_ ⟨t, scel, sop, sold, snew⟩ ?_ ?_); rfl; rfl; rfl; exact HST.out)
                refine (note_any ⟨t, scel, sop, sold, snew⟩ _).mono ?_
                rintro ed w3 ⟨⟨b3, rfl, hbb⟩, hb3⟩
                have : b3 = true := hbb.2 HOPP.out
                subst this
                have HB3 : Hid (Below _ _ w3) := hb3
                have hz3 : wo.heap.size + 1 ≤ w3.heap.size := by have := hb3.size; simpa using this
                have ac : w3.cell? ⟨ablk, aoff + t, none⟩ = some (.slice ip nl icap) := by
                  rw [(below_step (below_alloc HINV.out.below _) hb3).cell (p := ⟨ablk, aoff + t, none⟩) labk]; exact ac0
                have scc : w3.cell? ⟨sblk, soff + t, none⟩ = some (.slice jp nl jcap) := by
                  rw [(below_step (below_alloc HINV.out.below _) hb3).cell (p := ⟨sblk, soff + t, none⟩) lsbk]; exact sc0
                obtain ⟨hc3, hf3⟩ := bcell hb3
                clear hbb hb3 ac0 sc0
                by_cases hbe : b = e
                · have hr2 : (m : Int) % 2 = 0 := by have := HM.out; omega
                  rcases hop with hop | hop
                  · subst hop
                    by_cases hso : sold = (e : Int)
                    · subst hso
                      by_cases hel : e < nl
                      · by_cases hnw : snew = 0
                        · have hnw' : (snew != 0) = false := by rw [hnw]; rfl
                          have HOK : Hid (beginOk an st t ⟨t, scel, 9, e, snew⟩) := ⟨by rw [HBT.out, HET.out]; exact hbe, by rw [HBT.out, HNL.out]; omega, by rw [HBT.out]; simp; omega, hnw⟩
                          have HBE : Hid (b = e) := hbe
                          clear hnw hbe
                          go_wp2_with fail
                          go_quiet (fail)
                          go_wp2_with fail
                          go_roundw
                          case rel =>
                            have hbe := HBE.out
                            have hb3 := below_step (below_alloc (Below.refl _ wo) _) HB3.out
                            refine ⟨k + 1, beginSt sc st t k, by omega, by go_num, fun r h => ?_, fun r h => HFR.out r ?_, ⟨?_, ?_, fun t' ht' => ?_⟩⟩
                            · have := HTO.out r h
                              rw [HDR.out] at this
                              exact ofs_begin rfl rfl htl HOK.out this
                            · rw [HDR.out]
                              exact .inr (.inr (.inl ⟨t, rfl, htl, rfl, HOK.out, h⟩))
                            · refine row_later (below_drewN (Below.refl (w.heap.size + 1) _) _) (note_set (row_later hb3 HINV.out.row HINV.out.row.lt) (m + 1) ?_ ?_) (Nat.lt_succ_self _)
                              · simp only [beginSt, upd, if_pos, HBT.out, HET.out]; have := HM.out; omega
                              · intro i hi; simp [beginSt, upd, hi]
                            · exact below_drewN ((HINV.out.below.trans (hb3.mono HINV.out.below.size)).setCell (Nat.le_refl _) _) _
                            · have hk' := HINV.out.ok t' ht'
                              by_cases ee : t' = t
                              · subst ee
                                simp only [beginSt, upd, if_pos]
                                rw [HBT.out, HET.out] at *
                                rw [HNL.out]
                                omega
                              · simp only [beginSt, upd, if_neg ee]
                                exact hk'
                          case measure => simp [intOf]; omega
                        · have hnw' : (snew != 0) = true := by simpa using hnw
                          have HNO : Hid (¬ FitP sc an tr) := fit_no HTO.out (fun r h => by
                            rw [HDR.out] at h
                            exact ofs_nobegin (t := t) rfl rfl htl (fun h' => hnw h'.2.2.2) h)
                          clear hnw
                          go_wp2_with fail
                          go_quiet (fail)
                          go_wp2_with fail
                          go_ret
                          exact ⟨retB_no rfl HNO.out, below_drewN ((below_step (below_alloc HINV.out.below _) HB3.out).setCell (Nat.le_refl _) _) _⟩
                      · have HNO : Hid (¬ FitP sc an tr) := fit_no HTO.out (fun r h => by
                          rw [HDR.out] at h
                          exact ofs_nobegin (t := t) rfl rfl htl (fun h' => by have := h'.2.1; rw [HBT.out, HNL.out] at this; omega) h)
                        go_wp2_with fail
                        go_ret
                        exact ⟨retB_no rfl HNO.out, (below_step (below_alloc HINV.out.below _) HB3.out).setCell (Nat.le_refl _) _⟩
                    · have hso' : (sold != (e : Int)) = true := by simpa using hso
                      have HNO : Hid (¬ FitP sc an tr) := fit_no HTO.out (fun r h => by
                        rw [HDR.out] at h
                        exact ofs_nobegin (t := t) rfl rfl htl (fun h' => by have := h'.2.2.1; rw [HBT.out] at this; simp only at this; omega) h)
                      clear hso
                      go_wp2_with fail
                      go_ret
                      exact ⟨retB_no rfl HNO.out, (below_step (below_alloc HINV.out.below _) HB3.out).setCell (Nat.le_refl _) _⟩
                  · subst hop
                    have HNO : Hid (¬ FitP sc an tr) := fit_no HTO.out (fun r h => by
                      rw [HDR.out] at h
                      exact ofs_noend (t := t) rfl rfl htl (fun h' => by have := h'.1; rw [HBT.out, HET.out] at this; omega) h)
                    go_wp2_with fail
                    all_goals
                      go_ret
                      exact ⟨retB_no rfl HNO.out, (below_step (below_alloc HINV.out.below _) HB3.out).setCell (Nat.le_refl _) _⟩
                · have hr2 : (m : Int) % 2 = 1 := by have := HM.out; omega
                  rcases hop with hop | hop
                  · subst hop
                    have HNO : Hid (¬ FitP sc an tr) := fit_no HTO.out (fun r h => by
                      rw [HDR.out] at h
                      exact ofs_nobegin (t := t) rfl rfl htl (fun h' => by have := h'.1; rw [HBT.out, HET.out] at this; omega) h)
                    go_wp2_with fail
                    all_goals
                      go_ret
                      exact ⟨retB_no rfl HNO.out, (below_step (below_alloc HINV.out.below _) HB3.out).setCell (Nat.le_refl _) _⟩
                  · subst hop
                    have hel : e < nl := by omega
                    obtain ⟨cblk, coff, rfl, lcb, cr⟩ := HI3.out e _ (getD_some (by rw [HNL.out]; exact hel) (0, 0))
                    have cr3 := range_later (below_step (below_alloc HINV.out.below _) HB3.out) cr lcb
                    generalize hcl : (an.getD t []).getD e (0, 0) = cl at cr3
                    have HCL : Hid ((an.getD t []).getD e (0, 0) = cl) := hcl
                    have q0 : w3.cell? ⟨cblk, coff + e * 2, none⟩ = some (I cl.1) := by simpa using cr3 0 _ rfl
                    have n1 : ¬ w.heap.size = cblk := by omega
                    have n2 : ¬ cblk = w.heap.size := by omega
                    have n3 : ¬ ablk = w.heap.size := by omega
                    have n4 : ¬ w.heap.size = ablk := by omega
                    clear cr cr3 hcl
                    by_cases hso : sold = (e : Int)
                    · subst hso
                      by_cases hnw : snew = cl.1
                      · have HOK : Hid (endOk an st t ⟨t, scel, 10, e, snew⟩) := ⟨by rw [HBT.out, HET.out]; omega, by rw [HET.out], by rw [HET.out, HCL.out]; exact hnw⟩
                        subst hnw
                        go_wp2_with fail
                        go_quiet (fail)
                        go_wp2_with fail
                        go_roundw
                        case rel =>
                          have hb3 := below_step (below_alloc (Below.refl _ wo) _) HB3.out
                          have htab : (endSt an st t k).tab = upd st.tab t ((st.tab t).1, (st.tab t).2.1 + 1, (st.tab t).2.2) := rfl
                          refine ⟨k + 1, endSt an st t k, by omega, by go_num, fun r h => ?_, fun r h => HFR.out r ?_, ⟨?_, ?_, fun t' ht' => ?_⟩⟩
                          · have := HTO.out r h
                            rw [HDR.out] at this
                            exact ofs_end rfl rfl htl HOK.out this
                          · rw [HDR.out]
                            exact .inr (.inr (.inr (.inl ⟨t, rfl, htl, rfl, HOK.out, h⟩)))
                          · refine row_later (below_drewN (Below.refl (w.heap.size + 1) _) _) (note_set (row_later hb3 HINV.out.row HINV.out.row.lt) (m + 1) ?_ ?_) (Nat.lt_succ_self _)
                            · rw [htab]; simp only [upd, if_pos, HBT.out, HET.out]; have := HM.out; omega
                            · intro i hi; rw [htab]; simp [upd, hi]
                          · exact below_drewN ((HINV.out.below.trans (hb3.mono HINV.out.below.size)).setCell (Nat.le_refl _) _) _
                          · have hk' := HINV.out.ok t' ht'
                            rw [htab]
                            by_cases ee : t' = t
                            · subst ee
                              simp only [upd, if_pos]
                              rw [HBT.out, HET.out] at *
                              rw [HNL.out]
                              omega
                            · simp only [upd, if_neg ee]
                              exact hk'
                        case measure => simp [intOf]; omega
                      · have hnw' : (snew != cl.1) = true := by simpa using hnw
                        have HNO : Hid (¬ FitP sc an tr) := fit_no HTO.out (fun r h => by
                          rw [HDR.out] at h
                          exact ofs_noend (t := t) rfl rfl htl (fun h' => by have := h'.2.2; rw [HET.out, HCL.out] at this; exact hnw this) h)
                        clear hnw
                        go_wp2_with fail
                        go_quiet (fail)
                        go_wp2_with fail
                        go_ret
                        exact ⟨retB_no rfl HNO.out, below_drewN ((below_step (below_alloc HINV.out.below _) HB3.out).setCell (Nat.le_refl _) _) _⟩
                    · have hso' : (sold != (e : Int)) = true := by simpa using hso
                      have HNO : Hid (¬ FitP sc an tr) := fit_no HTO.out (fun r h => by
                        rw [HDR.out] at h
                        exact ofs_noend (t := t) rfl rfl htl (fun h' => by have := h'.2.1; rw [HET.out] at this; simp only at this; omega) h)
                      clear hso
                      go_wp2_with fail
                      go_ret
                      exact ⟨retB_no rfl HNO.out, (below_step (below_alloc HINV.out.below _) HB3.out).setCell (Nat.le_refl _) _⟩
            · have HOP : Hid (¬ (s.op = 9 ∨ s.op = 10)) := hop
              clear hop
              go_wp2_with ((with_reducible refine wp_load45 (.tmp 47) ?_ ?_ blk (off + k * 5) ?_ s ?_ ?_); rfl; rfl; rfl; exact HST.out)
              refine (note_any s _).mono ?_
              rintro e w3 ⟨⟨b3, rfl, hb⟩, hb3⟩
              have : b3 = false := by
                cases b3 with
                | false => rfl
                | true => exact absurd (hb.1 rfl) HOP.out
              subst this
              have HB3 : Hid (Below _ _ w3) := hb3
              clear hb hb3
              go_wp2_with fail
              go_roundw
              case rel =>
                have hn := HOP.out
                refine ⟨k + 1, st, by omega, by go_num, fun r h => ?_, fun r h => HFR.out r ?_, HINV.out.later (below_step (below_alloc (Below.refl _ _) _) HB3.out)⟩
                · have := HTO.out r h
                  rw [HDR.out] at this
                  exact ofs_skip (fun h => hn (.inl h)) (fun h => hn (.inr h)) this
                · rw [HDR.out]
                  exact .inl ⟨fun h => hn (.inl h), fun h => hn (.inr h), h⟩
              case measure => simp [intOf]; omega
          · have : k = tr.length := by omega
            subst this
            go_wp2_with fail
            go_ret
            exact ⟨retB_yes rfl ⟨HAL.out, st, HFR.out _ (by rw [List.drop_length]; rfl)⟩, HINV.out.below⟩
  · have hl' : ((an.length : Int) != (sc.length : Int)) = true := by simpa using (by omega : ¬ ((an.length : Int) = (sc.length : Int)))
    have HL : Hid (¬ an.length = sc.length) := hl
    clear hl
    go_enter Try.func86, Try.ntmps86
    go_wp2_with fail
    go_ret
    exact ⟨retB_no rfl (fun h => HL.out h.1.1.symm), Below.refl _ _⟩
end Go.Proofs.Ytehingmdmijedaa.R3

namespace Go.Proofs.Ytehingmdmijedaa.R3
open Go.RowKit Go.Proofs.Ytehingmdmijedaa.His Go.Deep Go.Maps
def step0 : Step := ⟨0, 0, 0, 0, 0⟩
def endsB (x b : Step) : Bool := x.op == 10 && x.thr == b.thr && x.old == b.old && x.new != 4
theorem ends_iff {x b : Step} : endsB x b = true ↔ x.op = 10 ∧ x.thr = b.thr ∧ x.old = b.old ∧ x.new ≠ 4 := by
  unfold endsB; simp [and_assoc]
def scan (sc : List (List Call)) (an : List (List (Int × Int))) (tr : List Step) (i : Nat) : Nat → Ev
  | 0 => begunEv (tr.getD i step0).thr i ((sc.getD (tr.getD i step0).thr.toNat []).getD (tr.getD i step0).old.toNat call0)
  | n + 1 => if endsB (tr.getD (i + 1 + n) step0) (tr.getD i step0) = true then ended (i + 1 + n) ((an.getD (tr.getD i step0).thr.toNat []).getD (tr.getD i step0).old.toNat (0, 0)) (scan sc an tr i n) else scan sc an tr i n
def begs (tr : List Step) (k : Nat) : List Nat := (List.range k).filter fun i => (tr.getD i step0).op == 9
theorem begs_succ (tr : List Step) (k : Nat) : begs tr (k + 1) = begs tr k ++ (if (tr.getD k step0).op = 9 then [k] else []) := by
  unfold begs
  rw [List.range_succ, List.filter_append]
  congr 1
  by_cases h : (tr.getD k step0).op = 9
  · rw [if_pos h, List.filter_cons_of_pos (by simpa using h)]; rfl
  · rw [if_neg h, List.filter_cons_of_neg (by simpa using h)]; rfl
theorem begs_lt {tr : List Step} {k i : Nat} (h : i ∈ begs tr k) : i < k := by
  unfold begs at h
  rw [List.mem_filter] at h
  exact List.mem_range.1 h.1
structure ScanInv (sc : List (List Call)) (an : List (List (Int × Int))) (tr : List Step) (k : Nat) (st : St) : Prop where
  evs : st.evs = (begs tr k).map fun i => scan sc an tr i (k - i - 1)
  ok : ∀ t, (st.tab t).2.1 ≤ (st.tab t).1 ∧ (st.tab t).1 ≤ (st.tab t).2.1 + 1
  its : ∀ i ∈ begs tr k, ∃ t o : Nat, (tr.getD i step0).thr = t ∧ (tr.getD i step0).old = o ∧ o < (st.tab t).1
  one : ∀ i ∈ begs tr k, ∀ j ∈ begs tr k, (tr.getD i step0).thr = (tr.getD j step0).thr → (tr.getD i step0).old = (tr.getD j step0).old → i = j
  last : ∀ t, (st.tab t).2.1 < (st.tab t).1 → ∃ i, (begs tr k)[(st.tab t).2.2]? = some i ∧ (tr.getD i step0).thr = t ∧ (tr.getD i step0).old = (st.tab t).2.1
theorem scanInv_start (sc : List (List Call)) (an : List (List (Int × Int))) (tr : List Step) : ScanInv sc an tr 0 st0 :=
  ⟨rfl, fun _ => ⟨Nat.le_refl _, Nat.zero_le _⟩, fun i hi => by simp [begs] at hi, fun i hi => by simp [begs] at hi, fun t h => absurd h (Nat.lt_irrefl _)⟩
theorem scan_step {sc : List (List Call)} {an : List (List (Int × Int))} {tr : List Step} {k i : Nat} (hi : i < k) :
    scan sc an tr i (k + 1 - i - 1) = if endsB (tr.getD k step0) (tr.getD i step0) = true then ended k ((an.getD (tr.getD i step0).thr.toNat []).getD (tr.getD i step0).old.toNat (0, 0)) (scan sc an tr i (k - i - 1)) else scan sc an tr i (k - i - 1) := by
  have e1 : k + 1 - i - 1 = (k - i - 1) + 1 := by omega
  have e2 : i + 1 + (k - i - 1) = k := by omega
  rw [e1, scan, e2]
theorem scanInv_skip {sc : List (List Call)} {an : List (List (Int × Int))} {tr : List Step} {k : Nat} {st : St} (h : ScanInv sc an tr k st) (h9 : (tr.getD k step0).op ≠ 9) (h10 : (tr.getD k step0).op ≠ 10) : ScanInv sc an tr (k + 1) st := by
  have hb : begs tr (k + 1) = begs tr k := by rw [begs_succ, if_neg h9, List.append_nil]
  refine ⟨?_, h.ok, by rw [hb]; exact h.its, by rw [hb]; exact h.one, by rw [hb]; exact h.last⟩
  rw [hb, h.evs]
  apply List.map_congr_left
  intro i hi
  rw [scan_step (begs_lt hi), if_neg (fun he => h10 (ends_iff.1 he).1)]
theorem scanInv_begin {sc : List (List Call)} {an : List (List (Int × Int))} {tr : List Step} {k t : Nat} {st : St} (h : ScanInv sc an tr k st) (h9 : (tr.getD k step0).op = 9) (ht : (tr.getD k step0).thr = t) (ho : beginOk an st t (tr.getD k step0)) :
    ScanInv sc an tr (k + 1) (beginSt sc st t k) := by
  have hb : begs tr (k + 1) = begs tr k ++ [k] := by rw [begs_succ, if_pos h9]
  have hold : (tr.getD k step0).old = (st.tab t).1 := ho.2.2.1
  have hbe := ho.1
  refine ⟨?_, fun t' => ?_, fun i hi => ?_, fun i hi j hj h1 h2 => ?_, fun t' h' => ?_⟩
  · rw [hb, List.map_append]
    show st.evs ++ [begunEv t k _] = _
    congr 1
    · rw [h.evs]
      apply List.map_congr_left
      intro i hi
      rw [scan_step (begs_lt hi), if_neg (fun he => by have := (ends_iff.1 he).1; omega)]
    · have e1 : k + 1 - k - 1 = 0 := by omega
      simp only [List.map_cons, List.map_nil, e1, scan, ht, hold]
      simp
  · by_cases e : t' = t
    · subst e; simp only [beginSt, upd, if_pos]; omega
    · simp only [beginSt, upd, if_neg e]; exact h.ok t'
  · rw [hb, List.mem_append] at hi
    rcases hi with hi | hi
    · obtain ⟨t', o, e1, e2, e3⟩ := h.its i hi
      refine ⟨t', o, e1, e2, ?_⟩
      by_cases e : t' = t
      · subst e; simp only [beginSt, upd, if_pos]; omega
      · simp only [beginSt, upd, if_neg e]; exact e3
    · simp at hi
      subst hi
      exact ⟨t, (st.tab t).1, ht, hold, by simp [beginSt, upd]⟩
  · rw [hb, List.mem_append] at hi hj
    rcases hi with hi | hi <;> rcases hj with hj | hj
    · exact h.one i hi j hj h1 h2
    · simp at hj
      subst hj
      obtain ⟨t', o, e1, e2, e3⟩ := h.its i hi
      have : t' = t := by omega
      subst this
      omega
    · simp at hi
      subst hi
      obtain ⟨t', o, e1, e2, e3⟩ := h.its j hj
      have : t' = t := by omega
      subst this
      omega
    · simp at hi hj; omega
  · have hlen : (begs tr k).length = st.evs.length := by rw [h.evs, List.length_map]
    by_cases e : t' = t
    · subst e
      refine ⟨k, ?_, ht, ?_⟩
      · simp only [beginSt, upd, if_pos]
        rw [hb, ← hlen]; simp
      · simp only [beginSt, upd, if_pos]; omega
    · simp only [beginSt, upd, if_neg e] at h' ⊢
      obtain ⟨i, e1, e2, e3⟩ := h.last t' h'
      refine ⟨i, ?_, e2, e3⟩
      rw [hb, List.getElem?_append_left (List.getElem?_eq_some_iff.1 e1).1]
      exact e1
theorem scanInv_end {sc : List (List Call)} {an : List (List (Int × Int))} {tr : List Step} {k t : Nat} {st : St} (h : ScanInv sc an tr k st) (h10 : (tr.getD k step0).op = 10) (ht : (tr.getD k step0).thr = t) (ho : endOk an st t (tr.getD k step0)) :
    ScanInv sc an tr (k + 1) (endSt an st t k) := by
  have hb : begs tr (k + 1) = begs tr k := by rw [begs_succ, if_neg (by omega), List.append_nil]
  obtain ⟨ho1, ho2, ho3⟩ := ho
  obtain ⟨iv, v1, v2, v3⟩ := h.last t ho1
  have htab : (endSt an st t k).tab = upd st.tab t ((st.tab t).1, (st.tab t).2.1 + 1, (st.tab t).2.2) := rfl
  have hok := h.ok t
  refine ⟨?_, fun t' => ?_, fun i hi => ?_, by rw [hb]; exact h.one, fun t' h' => ?_⟩
  · rw [hb]
    have hval : ∀ i ∈ begs tr k, endsB (tr.getD k step0) (tr.getD i step0) = true ↔ (i = iv ∧ ((an.getD t []).getD (st.tab t).2.1 (0, 0)).1 ≠ 4) := by
      intro i hi
      rw [ends_iff]
      constructor
      · rintro ⟨_, e2, e3, e4⟩
        refine ⟨h.one i hi iv (List.mem_of_getElem? v1) (by omega) (by omega), by rw [← ho3]; exact e4⟩
      · rintro ⟨rfl, e⟩
        exact ⟨h10, by omega, by omega, by rw [ho3]; exact e⟩
    show (if ((an.getD t []).getD (st.tab t).2.1 (0, 0)).1 = 4 then st.evs else st.evs.set (st.tab t).2.2 (ended k ((an.getD t []).getD (st.tab t).2.1 (0, 0)) (st.evs.getD (st.tab t).2.2 ev0))) = _
    by_cases h4 : ((an.getD t []).getD (st.tab t).2.1 (0, 0)).1 = 4
    · rw [if_pos h4, h.evs]
      apply List.map_congr_left
      intro i hi
      rw [scan_step (begs_lt hi), if_neg (fun he => ((hval i hi).1 he).2 h4)]
    · rw [if_neg h4]
      apply List.ext_getElem?
      intro m
      have hlen : (begs tr k).length = st.evs.length := by rw [h.evs, List.length_map]
      rw [List.getElem?_set, List.getElem?_map]
      by_cases em : (st.tab t).2.2 = m
      · subst em
        have hlt : (st.tab t).2.2 < st.evs.length := by rw [← hlen]; exact (List.getElem?_eq_some_iff.1 v1).1
        rw [if_pos rfl, if_pos hlt, v1]
        have hmem := List.mem_of_getElem? v1
        simp only [Option.map_some]
        rw [scan_step (begs_lt hmem), if_pos ((hval iv hmem).2 ⟨rfl, h4⟩)]
        have e1 : st.evs.getD (st.tab t).2.2 ev0 = scan sc an tr iv (k - iv - 1) := by
          rw [List.getD_eq_getElem?_getD, h.evs, List.getElem?_map, v1]; rfl
        rw [e1, v2, v3]
        simp
      · rw [if_neg em]
        cases hm : (begs tr k)[m]? with
        | none =>
          have : st.evs[m]? = none := by rw [h.evs, List.getElem?_map, hm]; rfl
          rw [this]; rfl
        | some i =>
          have hmem := List.mem_of_getElem? hm
          have hne : i ≠ iv := fun e => by
            subst e
            have hnd : (begs tr k).Nodup := List.Nodup.sublist List.filter_sublist List.nodup_range
            have l1 := (List.getElem?_eq_some_iff.1 v1)
            have l2 := (List.getElem?_eq_some_iff.1 hm)
            obtain ⟨p1, q1⟩ := l1
            obtain ⟨p2, q2⟩ := l2
            rcases Nat.lt_or_gt_of_ne em with hl | hl
            · exact List.pairwise_iff_getElem.1 hnd _ _ p1 p2 hl (q1.trans q2.symm)
            · exact List.pairwise_iff_getElem.1 hnd _ _ p2 p1 hl (q2.trans q1.symm)
          have : st.evs[m]? = some (scan sc an tr i (k - i - 1)) := by rw [h.evs, List.getElem?_map, hm]; rfl
          rw [this]
          simp only [Option.map_some]
          rw [scan_step (begs_lt hmem), if_neg (fun he => hne ((hval i hmem).1 he).1)]
  · rw [htab]
    by_cases e : t' = t
    · subst e; simp only [upd, if_pos]; omega
    · simp only [upd, if_neg e]; exact h.ok t'
  · rw [hb] at hi
    obtain ⟨t', o, e1, e2, e3⟩ := h.its i hi
    refine ⟨t', o, e1, e2, ?_⟩
    rw [htab]
    by_cases e : t' = t
    · subst e; simp only [upd, if_pos]; exact e3
    · simp only [upd, if_neg e]; exact e3
  · rw [htab] at h' ⊢
    rw [hb]
    by_cases e : t' = t
    · subst e; simp only [upd, if_pos] at h'; omega
    · simp only [upd, if_neg e] at h' ⊢; exact h.last t' h'
theorem scanInv_run {sc : List (List Call)} {an : List (List (Int × Int))} {tr : List Step} : ∀ (l : List Step) (k : Nat) (st r : St), k ≤ tr.length → tr.drop k = l → ScanInv sc an tr k st → Ofs sc an k l st (some r) → ScanInv sc an tr tr.length r
  | [], k, st, r, hk, hd, hi, h => by
    have hk' : tr.length ≤ k := List.drop_eq_nil_iff.1 hd
    have : k = tr.length := by omega
    subst this
    cases h
    exact hi
  | s :: l, k, st, r, hk, hd, hi, h => by
    have hlt : k < tr.length := by
      rcases Nat.lt_or_ge k tr.length with h' | h'
      · exact h'
      · rw [List.drop_eq_nil_iff.2 h'] at hd; cases hd
    rw [List.drop_eq_getElem_cons hlt] at hd
    have hs : tr.getD k step0 = s := by
      rw [List.getD_eq_getElem?_getD, List.getElem?_eq_getElem hlt]
      exact (List.cons.inj hd).1
    have hd' := (List.cons.inj hd).2
    rcases h with ⟨h1, h2, h⟩ | ⟨_, _, h⟩ | ⟨t, h1, h2, h3, h4, h⟩ | ⟨t, h1, h2, h3, h4, h⟩ | ⟨t, h1, h2, h3, h4, h⟩ | ⟨t, h1, h2, h3, h4, h⟩
    · exact scanInv_run l (k + 1) st r hlt hd' (scanInv_skip hi (by rw [hs]; exact h1) (by rw [hs]; exact h2)) h
    · cases h
    · exact scanInv_run l (k + 1) _ r hlt hd' (scanInv_begin hi (by rw [hs]; exact h3) (by rw [hs]; exact h1) (by rw [hs]; exact h4)) h
    · exact scanInv_run l (k + 1) _ r hlt hd' (scanInv_end hi (by rw [hs]; exact h3) (by rw [hs]; exact h1) (by rw [hs]; exact h4)) h
    · cases h
    · cases h
def refEvs (sc : List (List Call)) (an : List (List (Int × Int))) (tr : List Step) (k : Nat) : List Ev := (begs tr k).map fun i => scan sc an tr i (tr.length - i - 1)
theorem evs_ref {sc : List (List Call)} {an : List (List (Int × Int))} {tr : List Step} {r : St} (h : Ofs sc an 0 tr st0 (some r)) : r.evs = refEvs sc an tr tr.length :=
  (scanInv_run tr 0 st0 r (Nat.zero_le _) rfl (scanInv_start sc an tr) h).evs
end Go.Proofs.Ytehingmdmijedaa.R3
