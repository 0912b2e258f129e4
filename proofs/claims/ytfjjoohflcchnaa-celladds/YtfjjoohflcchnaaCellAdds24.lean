/- CellAdds returns true, whatever the schedule, the start and the numbers, and leaves what it was given as it was: of the law's statement as given, with no condition of our own. Part 24 of 34. (Joined, by program, of: Drive7.) -/
import Derived.Test.YtfjjoohflcchnaaCellAdds23
set_option linter.unusedSimpArgs false
set_option linter.unusedVariables false
namespace Go.Proofs.Ytfjjoohflcchnaa
open Go Go.Lift Go.Conc Go.RowKit
open Go.ConcN (upd upd_same upd_ne)

theorem born49 (main : Bool) (tb : Nat) (F : Value) (w : World) : stepG Try.prog main (born Try.prog (d49 tb F)) w =
    .go (G ((baseD 112).at { tmps := #[Pt tb 0, F] ++ Array.replicate 6 undef, defers := [] } [.code (Try.f112.body.getD .skip)]) [botP Try.prog]) w #[] := by
  simp [born, d49, stepG, unwind, callDeferred, invoke, callFunc, Try.func112, Try.f112, seen, GStep.after, G, Frame.enter, Frame.at, baseD, botP]

/-- A script as play.Run lays it, and where. -/
structure Scr where
  calls : List Cl
  ans : List (Int × Int)
  X : Nat → Nat → Nat → Nat → Fix
  p1 : Nat
  p2 : Nat
  p3 : Nat
  p4 : Nat
  rr : Nat
  m : Nat
  cp : Nat
  ix : Nat
  csl : Value
  asl : Value
  xb : Nat
abbrev Scr.F (s : Scr) : Value := .func (.func 84) #[] #[Pt s.p1 0, Pt s.p2 0, Pt s.p3 0, Pt s.p4 0]
structure Script (Mm : Nat → Option Obj) (Fut : Nat → Prop) (k bb : Nat) (kb : List Nat) (s : Scr) : Prop where
  ix : s.ix < s.m
  mem : ∀ v, Has Mm v → v.cell? ⟨bb, k, none⟩ = some s.F ∧ v.cell? ⟨s.p1, 0, none⟩ = some s.csl ∧ v.cell? ⟨s.p2, 0, none⟩ = some (.func (.func 55) #[] #[Pt s.xb 0]) ∧ v.cell? ⟨s.p3, 0, none⟩ = some (.slice (some ⟨s.rr, 0, none⟩) s.m s.cp) ∧ v.cell? ⟨s.p4, 0, none⟩ = some (I s.ix) ∧ v.cell? ⟨s.rr, s.ix, none⟩ = some s.asl
  fix : ∀ h tb gc b0, 0 < h → (∀ b, Mm b ≠ none → b ≠ b0) → (s.X h tb gc b0).Ok ∧ (s.X h tb gc b0).h = h ∧ (s.X h tb gc b0).i = k ∧ (s.X h tb gc b0).tb = tb ∧ (s.X h tb gc b0).gc = gc ∧ (s.X h tb gc b0).bb = b0 ∧ (s.X h tb gc b0).kb = kb ∧ (s.X h tb gc b0).calls = s.calls ∧ (s.X h tb gc b0).csl = s.csl ∧ (s.X h tb gc b0).asl = s.asl ∧ (s.X h tb gc b0).xb = s.xb ∧
    (∀ v, Has Mm v → v.cell? ⟨b0, 0, none⟩ = some (Pt tb 0) → PM (s.X h tb gc b0) s.ans v) ∧ (∀ b, (s.X h tb gc b0).Pr b → b = b0 ∨ Mm b ≠ none) ∧ (∀ b, (s.X h tb gc b0).Pr b → Fut b → b = (s.X h tb gc b0).ab) ∧ ((s.X h tb gc b0).ab = b0 ∨ Fut (s.X h tb gc b0).ab)

def contAdd (cont : Addr → Value) (tb gc : Nat) (a : Addr) : Value := if a.block = tb then .chan (some gc) else cont a

section
variable {k N : Nat} {X : Nat → Fix} {l : Nat → Ph} {E : Nat → Nat → Prop} {M : Nat → Nat → Option Obj} {Mm : Keep} {z : Nat → Option Nat} {cont : Addr → Value} {Ch : Nat → Prop} {S : TS} {K : List (Nat × Int)} {v : World} {B : Nat} {Mb : Nat → Prop} {Inb : Nat → Option Seat} {h : Nat} {T : Trace} {gs : Array Goroutine} {w : World} {q : Nat → Nat}

/-- The new row's cell is kept from here on. -/
theorem rel_hire (hvw : Rel z v w) {w2 : World} {w1 : World} (hr1 : Rel z { v with heap := v.heap.push (.chan 0 #[] false 0 0 false) } w1) (hh : w2.heap = w1.heap.push (.cells (trow S.wb S.thr.length v.heap.size 0 0 0 0) 97)) (ho : w2.os = w1.os) (hu : w2.output = w1.output) : Rel (zAdd z (v.heap.size + 1)) (hireV S v) w2 := by
  have hs1 : w1.heap.size = v.heap.size + 1 := by rw [hr1.size]; simp
  refine ⟨fun r => ?_, fun r n c e f hz hr => ?_, fun r n hz => ?_, ho.trans hr1.os, hu.trans hr1.output⟩
  · by_cases e : r = v.heap.size + 1
    · subst e
      rw [hireV_row, hh, ← hs1, Array.getElem?_push_size]
      unfold zAdd
      rw [hs1, if_pos rfl]
      rfl
    · unfold zAdd
      rw [if_neg e]
      by_cases hlt : r < v.heap.size + 1
      · have e1 : w2.heap[r]? = w1.heap[r]? := by rw [hh, Array.getElem?_push, if_neg (by omega)]
        have e2 : (hireV S v).heap[r]? = (v.heap.push (.chan 0 #[] false 0 0 false))[r]? := by
          show ((v.heap.push _).push _)[r]? = _
          rw [Array.getElem?_push, if_neg (by simp; omega)]
        rw [e1, e2]
        exact hr1.heap r
      · have h1 : w2.heap[r]? = none := by rw [hh]; simp; omega
        have h2 : (hireV S v).heap[r]? = none := by
          have := hireV_size S v
          simp; omega
        rw [h1, h2]
        rfl
  · unfold zAdd at hz
    split at hz
    · rename_i e
      cases hz
      subst e
      rw [hireV_row] at hr
      cases hr
      rfl
    · have hlt := hvw.low r n hz
      rw [hireV_old S v hlt] at hr
      exact hvw.kept r n c e f hz hr
  · rw [hireV_size]
    unfold zAdd at hz
    split at hz
    · omega
    · have := hvw.low r n hz; omega

set_option maxHeartbeats 2000000 in
theorem hire_one (hCD : CallDef) {u : Nat → Value} {cs : List Frame} {bb n cap : Nat} (H : Holds k N X l E M Mm z cont Ch S K v B Mb Inb 0 T gs w q) (hg : gs[0]? = some (G (hFr S.wb (.slice (some ⟨bb, 0, none⟩) n cap) n k u) cs)) (hkn : k < n) (hn8 : n ≤ 8) (sl : Option (Nat × Nat))
    {Fut : Nat → Prop} (hfm : ∀ b, Fut b → Mm.M b ≠ none) (hfut : ∀ i, i < k → ∀ b, Fut b → M i b = none) {s : Scr} (sc : Script Mm.M Fut k bb (K.map (·.1)) s)
    (hl : ∀ tv tb gc, (flow k K.length s.calls 0 false s.ans (nv (hiredS S tv tb gc))).1.n * 40 ≤ 140737488355328) :
    ∃ (N' : Nat) (gs' : Array Goroutine) (w' : World) (sl' : Option (Nat × Nat)) (T' : Trace) (q' : Nat → Nat) (B' : Nat) (Mb' : Nat → Prop) (Inb' : Nat → Option Seat) (z' : Nat → Option Nat) (cont' : Addr → Value) (Ch' : Nat → Prop) (S' : TS) (v' : World) (E' : Nat → Nat → Prop) (M' : Nat → Nat → Option Obj) (u' : Nat → Value) (tv : Value) (tb gc : Nat) (Y : Fix),
      runNT Try.prog N' (crowd gs w sl) T = (.next (crowd gs' w' sl'), T') ∧ gs'.size = gs.size + 1 ∧ gs'[0]? = some (G (hFr S'.wb (.slice (some ⟨bb, 0, none⟩) n cap) n (k + 1) u') cs) ∧ nv S' = (flow k K.length s.calls 0 false s.ans (nv (hiredS S tv tb gc))).1 ∧
      (∃ b0, Y = s.X gs.size tb gc b0 ∧ ∀ b, Mm.M b ≠ none → b ≠ b0) ∧ Holds (k + 1) N (upd X k Y) (upd l k (flow k K.length s.calls 0 false s.ans (nv (hiredS S tv tb gc))).2) E' M' { Mm with M := fun b => if b = Y.ab then none else Mm.M b } z' cont' Ch' S' K v' B' Mb' Inb' 0 T' gs' w' q' ∧
      ∀ i, i < k + 1 → ∀ b, Fut b → b ≠ Y.ab → M' i b = none := by
  have cr := H.crew
  have st := H.seats
  have hm := H.mem
  have hvs : w.heap.size = v.heap.size := H.rel.size
  have hztb : z (v.heap.size + 1) = none := by
    cases hzz : z (v.heap.size + 1) with
    | none => rfl
    | some n => have := H.rel.low _ _ hzz; omega
  have hch0 := seat_ch cr st
  have h0lt : 0 < gs.size := (Array.getElem?_eq_some_iff.1 hg).1
  -- TO THE NEW ROW
  have hG1 : GoesI Try.prog ((0 : Nat) == 0) (DT (ScZ z) Ch) (fun g w' => (∃ u', g = G (bFr1 S.wb (.slice (some ⟨bb, 0, none⟩) n cap) s.F n k bb v.heap.size u') cs) ∧ Rel z { v with heap := v.heap.push (.chan 0 #[] false 0 0 false) } w') (G (hFr S.wb (.slice (some ⟨bb, 0, none⟩) n cap) n k u) cs) w :=
    hire_a s.F bb n cap k u cs hkn (sc.mem v cr.mine.1).1 H.rel cr.noRow (fun v' w' u' hr hn he => GoesI.stop fun d => ⟨⟨u', rfl⟩, by subst he; exact hr.re rfl rfl rfl rfl rfl rfl⟩)
  obtain ⟨N1, gs1, a1, w1, sl1, T1, q1, B1, r1, z1, h1, ⟨⟨u1, rfl⟩, hr1⟩, ⟨hB1, hB1b, hB1c⟩, C1⟩ := hold_goes (fun w d h => kc_at w d h) (dh_of_dt hch0) hG1 gs sl T q B hg H.ring
  have hw1s : w1.heap.size = v.heap.size + 1 := by rw [hr1.size]; simp
  -- THE ROW
  have hG2 : GoesI Try.prog ((0 : Nat) == 0) (fun w w' es => es = #[] ∧ w'.heap = w.heap.push (.cells (trow S.wb k v.heap.size 0 0 0 0) 97)) (fun g w' => g = G (bFr2 S.wb (.slice (some ⟨bb, 0, none⟩) n cap) s.F n k bb v.heap.size (v.heap.size + 1) u1) cs ∧ w'.heap = w1.heap.push (.cells (trow S.wb k v.heap.size 0 0 0 0) 97) ∧ w'.os = w1.os ∧ w'.output = w1.output) (G (bFr1 S.wb (.slice (some ⟨bb, 0, none⟩) n cap) s.F n k bb v.heap.size u1) cs) w1 :=
    .step rfl (fun d => G (bFr2 S.wb (.slice (some ⟨bb, 0, none⟩) n cap) s.F n k bb v.heap.size (w1.at d).heap.size u1) cs) (fun d => (w1.at d).alloc (.cells (trow S.wb k v.heap.size 0 0 0 0) 97)) (fun _ => #[]) (fun d => hire_box _ _ _ _ _ _ _ _ _ _) (fun d => ⟨rfl, rfl⟩) (fun d => GoesI.stop fun d' => ⟨by rw [show (w1.at d).heap.size = v.heap.size + 1 from hw1s], rfl, rfl, rfl⟩)
  obtain ⟨N2, gs2, a2, w2, sl2, T2, q2, r2, z2, h2, ⟨rfl, hw2, hw2o, hw2u⟩, C2⟩ := hold_mute (fun w d h => kc_at w d h) (fun w w' es hD hK hc B => by
    obtain ⟨rfl, hh⟩ := hD
    refine ⟨fun hK a ha => ?_, fun i s c e hs => ?_, fun e he => by simp at he⟩
    · have := hK a ha
      have hlt := World.block_lt_of_cell? _ _ this
      rw [World.cell?_of_block (w := w) (w' := w') (by rw [hh, Array.getElem?_push_lt hlt, ← Array.getElem?_eq_getElem])]
      exact this
    · obtain ⟨o, ho⟩ := hc i s c e hs
      have hlt := (Array.getElem?_eq_some_iff.1 ho).1
      rw [hh, Array.getElem?_push_lt hlt, ← Array.getElem?_eq_getElem]) hG2 gs1 sl1 T1 q1 B1 h1 C1
  have hk : S.thr.length = k := H.len
  have hs2 : w2.heap.size = v.heap.size + 2 := by rw [hw2]; simp; omega
  have hB1' : B1 ≤ v.heap.size + 1 := by have := H.b; omega
  have hzne : ∀ b m, z b = some m → b ≠ v.heap.size + 1 := fun b m hb e => by rw [e, hztb] at hb; cases hb
  have hup : ∀ a, ScZ z a → ScZ (zAdd z (v.heap.size + 1)) a := fun a ha => ⟨ha.1, by unfold zAdd; rw [if_neg (hzne _ _ ha.2)]; exact ha.2⟩
  have C3 : Ring Try.prog (KC (ScZ (zAdd z (v.heap.size + 1))) (contAdd cont (v.heap.size + 1) v.heap.size)) (StillC (ScZ (zAdd z (v.heap.size + 1)))) (v.heap.size + 2) Mb Inb 0 T2 gs2 w2 q2 := by
    refine Ring.grow C2 (fun x hx => ?_) (by omega) (fun w hK a ha => ?_) (fun a ha => ?_) (fun i a hta hst hns => ?_)
    · obtain ⟨a, e, ha⟩ := hx
      exact ⟨a, e, hup a ha⟩
    · have := hK a (hup a ha)
      unfold contAdd at this
      rw [if_neg (hzne _ _ ha.2)] at this
      exact this
    · by_cases e : a.block = v.heap.size + 1
      · have hoff : a.off = 2 := by
          have := ha.2
          unfold zAdd at this
          rw [if_pos e] at this
          exact (Option.some.inj this).symm
        obtain ⟨b, o, sp⟩ := a
        have hsp : sp = none := ha.1
        simp only at e hoff
        subst e hoff hsp
        unfold contAdd
        rw [if_pos rfl]
        have : w2.heap[v.heap.size + 1]? = some (.cells (trow S.wb k v.heap.size 0 0 0 0) 97) := by rw [hw2, ← hw1s]; exact Array.getElem?_push_size
        simp [World.cell?, this]
      · have hz' : ScZ z a := ⟨ha.1, by
          have := ha.2
          unfold zAdd at this
          rw [if_neg e] at this
          exact this⟩
        unfold contAdd
        rw [if_neg e]
        exact C2.keep a hz'
    · exfalso
      obtain ⟨op, hop, hopa⟩ := touch_of hta
      have hlow := touch_low hopa (C2.past.seen op (mem_of_getElem? hop))
      obtain ⟨x, hx, hxs⟩ := hst
      rw [hx] at hlow
      have hlow' : x.block < B1 := hlow
      refine hns ⟨x, hx, hxs.1, ?_⟩
      have := hxs.2
      unfold zAdd at this
      rw [if_neg (by omega)] at this
      exact this
  have hr2 : Rel (zAdd z (v.heap.size + 1)) (hireV S v) w2 := rel_hire H.rel hr1 (by rw [hk]; exact hw2) hw2o hw2u
  have hChlt : ∀ c, Ch c → c < v.heap.size := fun c hc => by obtain ⟨cp, m, hh⟩ := cr.opn c hc; exact (Array.getElem?_eq_some_iff.1 hh).1
  have hn2 : NoRow (fun c => Ch c ∨ c = v.heap.size) (hireV S v) := fun c hc => by
    rcases hc with hc | rfl
    · obtain ⟨o, h1, h2⟩ := cr.noRow c hc
      exact ⟨o, by rw [hireV_old S v (hChlt c hc)]; exact h1, h2⟩
    · exact ⟨_, hireV_chan S v, fun _ _ _ h => by cases h⟩
  have hwbl : S.wb < v.heap.size := hm.rep.lt (k := 0) rfl
  have hths : ∀ b, S.ths.ownBlock = some b → b < v.heap.size := fun b hb => hm.rep.lt (k := 2) hb
  -- TO THE GO STATEMENT
  have hG4 : GoesI Try.prog ((0 : Nat) == 0) (DT (ScZ (zAdd z (v.heap.size + 1))) (fun c => Ch c ∨ c = v.heap.size)) (Lift.AtHire Try.prog (KC (ScZ (zAdd z (v.heap.size + 1))) (contAdd cont (v.heap.size + 1) v.heap.size)) (StillC (ScZ (zAdd z (v.heap.size + 1)))) 0 (some (Seat.one S.bk (.agg #[]) false (HBack S.wb (.slice (some ⟨bb, 0, none⟩) n cap) n (k + 1) cs))) (fun child w' => child = born Try.prog (d49 (v.heap.size + 1) s.F) ∧ ∃ v', Rel (zAdd z (v.heap.size + 1)) v' w' ∧ NoRow (fun c => Ch c ∨ c = v.heap.size) v' ∧ Threaded S.wb S.ths S.thr.length S.base (S.thr.map fun t => Pt t.tb 0) (Pt (v.heap.size + 1) 0) (hireV S v) v')) (G (bFr2 S.wb (.slice (some ⟨bb, 0, none⟩) n cap) s.F n k bb v.heap.size (v.heap.size + 1) u1) cs) w2 := by
    refine hire_b S.wb n k bb v.heap.size (v.heap.size + 1) S.bk _ s.F S.ths S.thr.length S.base (S.thr.map fun t => Pt t.tb 0) u1 cs _ (fun g h => h) (by omega) hkn hr2 hn2 ?_ ?_ ?_ ?_ (by omega) ?_ ?_ ?_ (fun g w' hg => hg)
    · rw [World.cell?_of_block (w := v) (hireV_old S v hwbl)]
      exact hm.rep.wcell.2.2.2.2.1
    · have := fz_off hm.rep 4 (by omega)
      unfold World.frozen? at this ⊢
      rw [hireV_old S v hwbl]
      exact this
    · exact own_stay (fun b hb => hireV_old S v (hths b hb)) hm.rep.ths
    · intro e
      have := hm.rep.apart 2 0 S.wb e rfl
      omega
    · have := hm.rep.bs
      rw [hireV_size]; omega
    · exact (hup ⟨S.wb, 8, none⟩ ⟨rfl, cr.z0.1⟩).2
    · unfold contAdd
      rw [if_neg (by show S.wb ≠ _; omega)]
      exact cr.z0.2.1
  have hbkO : ∀ v', Threaded S.wb S.ths S.thr.length S.base (S.thr.map fun t => Pt t.tb 0) (Pt (v.heap.size + 1) 0) (hireV S v) v' → Open v' S.bk := fun v' hT => by
    obtain ⟨cp, m, hh⟩ := cr.opn S.bk cr.z0.2.2
    have hlt := hChlt _ cr.z0.2.2
    obtain ⟨_, _, _, _, _, q5⟩ := hT
    refine ⟨cp, m, ?_⟩
    rw [q5.block S.bk (by rw [hireV_size]; omega) (fun h => ?_), hireV_old S v hlt, hh]
    rcases h with h | h
    · rw [h, hm.rep.wor] at hh; cases hh
    · obtain ⟨x, e, f, h1⟩ := hm.row (b := S.bk) (.inl ⟨2, h.symm⟩)
      rw [h1] at hh; cases hh
  have hup0 : ∀ g s' c, upd Inb 0 (some (Seat.one S.bk (.agg #[]) false (HBack S.wb (.slice (some ⟨bb, 0, none⟩) n cap) n (k + 1) cs))) g = some s' → s'.has c → Ch c ∨ c = v.heap.size := fun g s' c hg hc => by
    by_cases e : g = 0
    · subst e; rw [upd_same] at hg; cases hg
      rw [Seat.one_has.1 hc]; exact .inl cr.z0.2.2
    · rw [upd_ne _ _ e] at hg; exact .inl (hch0 g s' c hg hc)
  obtain ⟨N3, gs3, w3, child, d3, sl3, T3, q3, B3, r3, ⟨rfl, v3, hr3, hn3, hT3⟩, z3, h3, ⟨hB3, hB3b, hB3c⟩, C4⟩ := hire_on (Inb := Inb) (Mem := Mb) (h := 0) (fun w d h => kc_at w d h)
    (fun s' hs => by
      cases hs
      refine ⟨Seat.one_wf _ _ _ _, fun g s'' c hg hs' hc hc' => ?_, fun g w' hF c hc => ?_⟩
      · rw [Seat.one_has.1 hc'] at hc
        rcases st.who hs' hc with ⟨e, _⟩ | ⟨j, hj, _, e⟩
        · exact hg e
        · exact cr.gbk j hj e.symm
      · obtain ⟨_, v', k1, k2, k3⟩ := hF
        rw [Seat.one_has.1 hc]
        exact open_rel (Ch := fun c => Ch c ∨ c = v.heap.size) k1 k2 (.inl cr.z0.2.2) (hbkO v' k3))
    (dh_of_dt (fun g s' c hg hc => .inl (hch0 g s' c hg hc))) H.mb hG4 gs2 sl2 T2 q2 (v.heap.size + 2) (st.none gs2.size (by omega) (fun i hi e => by have := cr.hlt i hi; omega)) h2 C3
  have hgsz : gs2.size = gs.size := z2.trans z1
  -- THE MEMORY WITH THE NEW THREAD
  obtain ⟨tv, hm3, hkeep, hown3, hch3, hs3⟩ := thr_add hm hztb hT3
  have cr3 : Crew k X l E M Mm (zAdd z (v.heap.size + 1)) (contAdd cont (v.heap.size + 1) v.heap.size) (fun c => Ch c ∨ c = v.heap.size) (hiredS S tv (v.heap.size + 1) v.heap.size) K v3 (gs.size + 1) := by
    refine cr.move hkeep hown3 (fun i hi => List.getElem?_append_left (by omega)) (by show k ≤ (S.thr ++ [_]).length; simp; omega) rfl rfl (Nat.le_succ _) (fun b m hb => ⟨?_, ?_⟩) (fun c hc => .inl hc) (fun c hc => ?_) (fun c hc => ?_) (fun c hc => hc.imp id (fun e => by omega)) (by obtain ⟨_, _, _, _, _, q5⟩ := hT3; exact ⟨q5.os, q5.output⟩)
    · unfold zAdd; rw [if_neg (hzne b m hb)]; exact hb
    · unfold contAdd; rw [if_neg (hzne b m hb)]
    · unfold zAdd
      rcases hc with hc | rfl
      · rw [if_neg (by have := hChlt c hc; omega)]; exact cr.zc c hc
      · rw [if_neg (by omega)]
        cases hzz : z v.heap.size with
        | none => rfl
        | some m => have := H.rel.low _ _ hzz; omega
    · rcases hc with hc | rfl
      · obtain ⟨cp, m, hh⟩ := cr.opn c hc
        refine ⟨cp, m, ?_⟩
        rw [hkeep c (hChlt c hc) (fun ho => ?_), hh]
        obtain ⟨x, e, f, h1⟩ := hm.row ho
        rw [h1] at hh; cases hh
      · exact ⟨0, 0, hch3⟩
  -- THE CHILD's FIRST STRETCH
  have hb0 : ∀ b, Mm.M b ≠ none → b ≠ v3.heap.size := fun b hb e => by have := cr3.mine.1.lt hb; omega
  obtain ⟨f1, f2, f3, f4, f5, f6, f7, f8, f9, f10, f11, f12, f13, f14, f15⟩ := sc.fix gs.size (v.heap.size + 1) v.heap.size v3.heap.size h0lt hb0
  generalize hY : s.X gs.size (v.heap.size + 1) v.heap.size v3.heap.size = Y at f1 f2 f3 f4 f5 f6 f7 f8 f9 f10 f11 f12 f13 f14 f15
  have hkbl : Y.kb.length = K.length := by rw [f7, List.length_map]
  have htk : (hiredS S tv (v.heap.size + 1) v.heap.size).thr[k]? = some ⟨v.heap.size + 1, v.heap.size, 0, 0, 0, 0⟩ := by
    show (S.thr ++ [_])[k]? = _
    rw [← hk]; simp
  have hmm := sc.mem v3 cr3.mine.1
  have hYown : ∀ b, Y.Pr b → ¬ Own (hiredS S tv (v.heap.size + 1) v.heap.size) K b := fun b hb => by
    rcases f13 b hb with rfl | h1
    · intro ho
      have := hm3.lt ho; omega
    · exact cr3.mine.2.1 b h1
  have eR : flow Y.i Y.kb.length Y.calls 0 false s.ans (nv (hiredS S tv (v.heap.size + 1) v.heap.size)) = flow k K.length s.calls 0 false s.ans (nv (hiredS S tv (v.heap.size + 1) v.heap.size)) := by rw [f3, hkbl, f8]
  have hzY : zAdd z (v.heap.size + 1) Y.tb = some 2 := by unfold zAdd; rw [f4, if_pos rfl]
  have hcY : contAdd cont (v.heap.size + 1) v.heap.size ⟨Y.tb, 2, none⟩ = .chan (some Y.gc) := by unfold contAdd; rw [if_pos f4, f5]
  have hG5 : GoesI Try.prog (gs2.size == 0) (DT (ScZ (zAdd z (v.heap.size + 1))) (fun c => Ch c ∨ c = v.heap.size)) (fun g' w' => ∃ E' M', Gives Y (Home Y N) (zAdd z (v.heap.size + 1)) (contAdd cont (v.heap.size + 1) v.heap.size) (fun c => Ch c ∨ c = v.heap.size) (hiredS S tv (v.heap.size + 1) v.heap.size) K v3 (fun _ => False) (flow k K.length s.calls 0 false s.ans (nv (hiredS S tv (v.heap.size + 1) v.heap.size))).1 K (flow k K.length s.calls 0 false s.ans (nv (hiredS S tv (v.heap.size + 1) v.heap.size))).2 E' M' g' w') (born Try.prog (d49 (v.heap.size + 1) s.F)) (w3.at d3) := by
    refine GoesI.ctl rfl (fun w => born49 _ _ _ w) (dt_idle _ _) ?_
    rw [hgsz, ← f2]
    have := birth_goes (z := zAdd z (v.heap.size + 1)) (Ch := fun c => Ch c ∨ c = v.heap.size) (S := hiredS S tv (v.heap.size + 1) v.heap.size) (K := K) (v := v3) (w := w3.at d3) (ans := s.ans) (Stop := fun g' w' => ∃ E' M', Gives Y (Home Y N) (zAdd z (v.heap.size + 1)) (contAdd cont (v.heap.size + 1) v.heap.size) (fun c => Ch c ∨ c = v.heap.size) (hiredS S tv (v.heap.size + 1) v.heap.size) K v3 (fun _ => False) (flow k K.length s.calls 0 false s.ans (nv (hiredS S tv (v.heap.size + 1) v.heap.size))).1 K (flow k K.length s.calls 0 false s.ans (nv (hiredS S tv (v.heap.size + 1) v.heap.size))).2 E' M' g' w') f1 hCD N hzY hcY s.p1 s.p2 s.p3 s.p4 s.rr s.m s.cp s.ix sc.ix (hr3.re rfl rfl rfl rfl rfl rfl) hn3 hm3 (by rw [f3]; exact htk) f4.symm f5.symm f7.symm f6 (by rw [f9]; exact hmm.2.1) (by show _ = some (Value.func _ _ #[Pt Y.xb 0]); rw [f11]; exact hmm.2.2.1) hmm.2.2.2.1 hmm.2.2.2.2.1 (by rw [f10]; exact hmm.2.2.2.2.2)
      (fun v1 hg1 hbx => f12 v1 (fun b o hb => by rw [hg1.old b (cr3.mine.1.lt (by rw [hb]; simp))]; exact cr3.mine.1 b o hb) (by rw [← f6, ← f4]; exact hbx)) hYown (by rw [eR]; exact hl _ _ _) (fun g' w' E' M' hgv => ⟨E', M', by rw [eR] at hgv; exact hgv⟩) _ rfl
    rw [f4] at this
    exact this
  have sR := flow_sta k K.length s.calls 0 false s.ans (nv (hiredS S tv (v.heap.size + 1) v.heap.size))
  have fR := flow_fits k K.length s.calls 0 false s.ans (nv (hiredS S tv (v.heap.size + 1) v.heap.size)) _ htk
  have gR := flow_st k K.length s.calls 0 false s.ans (nv (hiredS S tv (v.heap.size + 1) v.heap.size)) _ htk
  generalize hR : flow k K.length s.calls 0 false s.ans (nv (hiredS S tv (v.heap.size + 1) v.heap.size)) = R at hG5 sR fR gR
  obtain ⟨N4, gs4, a4, w4, sl4, T4, q4, B4, r4, z4, h4, ⟨E', M', hs', hnew', hat⟩, ⟨hB4, hB4b, hB4c⟩, C5⟩ := hold_goes (fun w d h => kc_at w d h) (dh_of_dt hup0) hG5 gs3 sl3 T3 q3 B3 h3 C4
  have hYh : Y.h = gs2.size := by rw [f2, hgsz]
  rw [hYh] at hat
  have hbkl := hChlt _ cr.z0.2.2
  have habne : ∀ c, (Ch c ∨ c = v.heap.size) → c ≠ Y.ab := fun c hc e => by
    obtain ⟨cp, m, hh⟩ := cr3.opn c hc
    have hlt := (Array.getElem?_eq_some_iff.1 hh).1
    rcases f13 Y.ab (.inr (.inr (.inl rfl))) with h1 | h1
    · omega
    · exact cr3.mine.2.2.1 _ h1 (e ▸ hc)
  have hopS : ∀ {S' : TS} {v' : World}, EvoP (fun b => b = Y.ab ∨ False) (zAdd z (v.heap.size + 1)) (hiredS S tv (v.heap.size + 1) v.heap.size) K v3 S' K v' → ∀ c, (Ch c ∨ c = v.heap.size) → Open v' c := fun he c hc => by
    have hne := habne c hc
    obtain ⟨cp, m, hh⟩ := cr3.opn c hc
    refine ⟨cp, m, ?_⟩
    rw [(he.keeps (Array.getElem?_eq_some_iff.1 hh).1 (fun h => ?_) (fun h => h.elim hne id)).1, hh]
    obtain ⟨x, e, f, h1⟩ := hm3.row h
    rw [h1] at hh; cases hh
  have hupd2 : ∀ g s' c, upd (upd Inb 0 (some (Seat.one S.bk (.agg #[]) false (HBack S.wb (.slice (some ⟨bb, 0, none⟩) n cap) n (k + 1) cs)))) gs2.size (seatOf Y (Home Y N) R.2 E' M') g = some s' → s'.has c → Ch c ∨ c = v.heap.size := fun g s' c hg hc => by
    by_cases e : g = gs2.size
    · subst e; rw [upd_same] at hg
      obtain ⟨rfl, _⟩ := seatOf_has hg
      rw [Seat.one_has.1 hc]; exact .inr f5
    · rw [upd_ne _ _ e] at hg; exact hup0 g s' c hg hc
  have h0ne : (0 : Nat) ≠ gs2.size := by omega
  obtain ⟨N5, gs5, w5, g₃, d5, kk5, cap5, sl5, T5, q5, B5, r5, hF5, z5, h5, hh5, hch5, ⟨hB5, hB5b, hB5c⟩, C6⟩ := pass_on (Inb := upd Inb 0 (some (Seat.one S.bk (.agg #[]) false (HBack S.wb (.slice (some ⟨bb, 0, none⟩) n cap) n (k + 1) cs)))) (h := gs2.size) (j := 0) (c := S.bk) (kk := 0) (z := .agg #[]) (s := Seat.one S.bk (.agg #[]) false (HBack S.wb (.slice (some ⟨bb, 0, none⟩) n cap) n (k + 1) cs)) (fun w d h => kc_at w d h)
    (fun s' hs => by
      obtain ⟨rfl, _⟩ := seatOf_has hs
      refine ⟨Seat.one_wf _ _ _ _, fun g s'' c hg hs'' hc hc' => ?_, fun w' hF c hc => ?_⟩
      · have ec : c = Y.gc := Seat.one_has.1 hc'
        rw [ec, f5] at hc
        by_cases e : g = 0
        · subst e; rw [upd_same] at hs''; cases hs''
          have := Seat.one_has.1 hc
          omega
        · rw [upd_ne _ _ e] at hs''
          have := hChlt _ (hch0 g s'' _ hs'' hc)
          omega
      · obtain ⟨v4, S', k1, k2, k3, k4, k5⟩ := hF
        rw [show c = Y.gc from Seat.one_has.1 hc, f5]
        exact open_rel (Ch := fun c => Ch c ∨ c = v.heap.size) k1 k2 (.inr rfl) (hopS k4 _ (.inr rfl)))
    (fun w g s' c cap buf cl a b tm hg hc hK => kc_chan (cr3.zc c (hupd2 g s' c hg hc)) hK cap buf cl a b tm)
    (fun w g s' c cap buf cl a b tm hg hc hK => kc_chan (cr3.zc c (hup0 g s' c hg hc)) hK cap buf cl a b tm)
    (D := DT (ScZ (zAdd z (v.heap.size + 1))) (fun c => Ch c ∨ c = v.heap.size)) (dh_of_dt hup0) h0ne (upd_same _ _ _) rfl (.inr rfl)
    (GoesI.stop (fun d => atGive_at (fun d hF => by obtain ⟨v4, S', k1, k2⟩ := hF; exact ⟨v4, S', k1.re rfl rfl rfl rfl rfl rfl, k2⟩) hat d)) gs4 sl4 T4 q4 B4 (by omega) h4 C5
  obtain ⟨v4, S', hr4, hn4, hS', he4, hM4, hfar4⟩ := hF5
  rw [← hS'] at sR fR gR
  have sR' : Sta k (hiredS S tv (v.heap.size + 1) v.heap.size) S' := ⟨sR.wb, sR.bk, sR.base, sR.us, sR.la, sR.sc, sR.cv, sR.ths, sR.sched, sR.stk, sR.ran, sR.n, sR.chg, sR.len, sR.oth, sR.own⟩
  have hrd : ∀ b, Fut b → b < v3.heap.size := fun b hb => cr3.mine.1.lt (hfm b hb)
  have cr4 : Crew (k + 1) (upd X k Y) (upd l k R.2) (upd E k E') (upd M k M') { Mm with M := fun b => if b = Y.ab then none else Mm.M b } (zAdd z (v.heap.size + 1)) (contAdd cont (v.heap.size + 1) v.heap.size) (fun c => Ch c ∨ c = v.heap.size) S' K v4 (gs.size + 1) := by
    refine cr3.add he4 sR' (by rw [hkbl]; exact fR) hs' hM4 hfar4 hnew' ⟨f1, f3, f7.symm⟩ ⟨_, htk, f4.symm, f5.symm⟩ hm3 (fun j hj e => ?_) (fun j hj e => ?_) ?_ (by rw [f2]; omega) ⟨hzY, hcY, .inr f5⟩ (fun j hj b hb e => ?_) (fun b hb e => ?_) (fun b o hb => ?_) (fun b hb => ?_) ⟨rfl, rfl⟩
    · have := cr.hlt j hj
      rw [e, f2] at this; omega
    · have := hChlt _ (cr.zs j hj).2.2
      rw [e, f5] at this; omega
    · rw [f5]
      show v.heap.size ≠ S.bk
      omega
    · rcases f15 with h1 | h1
      · have := (cr3.sees j hj).2.1.lt hb
        omega
      · exact hb (hfut j hj b (by rw [e]; exact h1))
    · simp only at hb
      rw [if_pos e] at hb; exact hb rfl
    · simp only at hb
      split at hb
      · cases hb
      · exact hb
    · rcases f13 b hb with rfl | h1
      · exact .inl (Nat.le_refl _)
      · exact .inr h1
  have hwb' : S'.wb = S.wb := sR'.wb
  have hbk' : S'.bk = S.bk := sR'.bk
  have hv4c : v4.heap[S.bk]? = some (.chan cap5 #[] false kk5 kk5 false) := by rw [← noRow_rel (Ch := fun c => Ch c ∨ c = v.heap.size) hr4 hn4 (.inl cr.z0.2.2)]; exact hch5
  have cr5 := cr4.chan (.inl cr.z0.2.2) cap5 (kk5 + 1)
  have hm5 : Mem (zAdd z (v.heap.size + 1)) S' K (v4.setChan S.bk cap5 #[] false (kk5 + 1) (kk5 + 1) false) := he4.mem.chan hv4c (fun _ _ _ h => by cases h) cap5 #[] false (kk5 + 1) (kk5 + 1) false
  have hr5 := rel_chan hr4 (cr3.zc _ (.inl cr.z0.2.2)) cap5 #[] false (kk5 + 1) (kk5 + 1) false d5
  generalize hv5 : v4.setChan S.bk cap5 #[] false (kk5 + 1) (kk5 + 1) false = v5 at cr5 hm5 hr5
  generalize hw6 : (w5.at d5).setChan S.bk cap5 #[] false (kk5 + 1) (kk5 + 1) false = w6 at hr5 C6 r5
  have hw6s : w6.heap.size = w5.heap.size := by rw [← hw6]; simp [World.setChan, World.at]
  have hG6 : GoesI Try.prog ((0 : Nat) == 0) (DT (ScZ (zAdd z (v.heap.size + 1))) (fun c => Ch c ∨ c = v.heap.size)) (fun g w' => (∃ u, g = G (hFr S.wb (.slice (some ⟨bb, 0, none⟩) n cap) n (k + 1) u) cs) ∧ Rel (zAdd z (v.heap.size + 1)) v5 w') (Go.Conc.served g₃ (commResult (Seat.one S.bk (.agg #[]) false (HBack S.wb (.slice (some ⟨bb, 0, none⟩) n cap) n (k + 1) cs)).cases (Seat.one S.bk (.agg #[]) false (HBack S.wb (.slice (some ⟨bb, 0, none⟩) n cap) n (k + 1) cs)).shape ((0 : Nat) : Int) (.agg #[]) true)) w6 := by
    have hhome : HBack S.wb (.slice (some ⟨bb, 0, none⟩) n cap) n (k + 1) cs g₃ := hh5
    exact hhome _ _ _ w6 (dt_idle _ _) (fun u => GoesI.stop fun d => ⟨⟨u, rfl⟩, hr5.re rfl rfl rfl rfl rfl rfl⟩)
  obtain ⟨N6, gs6, a6, w7, sl6, T6, q6, B6, r6, z6, h6, ⟨⟨u6, rfl⟩, hr7⟩, ⟨hB6, hB6b, hB6c⟩, C7⟩ := hold_goes (fun w d h => kc_at w d h) (dh_of_dt hupd2) hG6 gs5 sl5 T5 q5 B5 h5 C6
  have hsz : gs6.size = gs.size + 1 := by omega
  refine ⟨N1 + N2 + N3 + N4 + N5 + N6, gs6, w7, sl6, T6, q6, B6, _, _, _, _, _, S', v5, upd E k E', upd M k M', u6, tv, v.heap.size + 1, v.heap.size, Y, runNT_then (runNT_then (runNT_then (runNT_then (runNT_then r1 r2) r3) r4) r5) r6, hsz, by rw [hwb']; exact h6, by rw [hR]; exact hS', ⟨v3.heap.size, hY.symm, hb0⟩, ⟨C7, ⟨.inl ⟨H.mb, by rw [upd_same]; simp⟩, .inr rfl⟩, ?_, hr7, hm5, by rw [hsz, hR]; exact cr5, ?_, ?_, fun j hj t0 hj0 => ?_⟩, fun j hj b hb hne => ?_⟩
  · have h9 : (w3.at d3).heap.size = w3.heap.size := rfl
    omega
  · rw [hbk', hR]
    refine ⟨fun j hj => ?_, fun g hg0 hgn => ?_, fun s' c hs hc => ?_⟩
    · by_cases e : j = k
      · subst e
        exact ⟨N, Nat.le_refl _, by rw [upd_same, upd_same, upd_same, upd_same, hYh, upd_same]⟩
      · have hjk : j < k := by omega
        have hlt := cr.hlt j hjk
        obtain ⟨m, hm', hsm⟩ := st.seat j hjk
        have hj0 := (cr.ok j hjk).1.h
        exact ⟨m, hm', by rw [upd_ne _ _ e, upd_ne _ _ e, upd_ne _ _ e, upd_ne _ _ e, upd_ne _ _ (by omega), upd_ne _ _ (by omega)]; exact hsm⟩
    · have hk' := hgn k (by omega)
      rw [upd_same, hYh] at hk'
      rw [upd_ne _ _ (Ne.symm hk'), upd_ne _ _ hg0]
      refine st.none g hg0 (fun i hi => ?_)
      have := hgn i (by omega)
      rw [upd_ne _ _ (by omega)] at this
      exact this
    · rw [upd_ne _ _ h0ne, upd_same] at hs
      cases hs
      exact Seat.one_has.1 hc
  · rw [sR'.len]
    show (S.thr ++ [_]).length = k + 1
    simp; omega
  · rw [hR]
    by_cases e : j = k
    · subst e
      rw [upd_same]
      obtain ⟨t', k1, k2⟩ := gR
      have e2 : some t0 = some t' := hj0.symm.trans k1
      cases e2
      exact k2
    · have hjk : j < k := by omega
      rw [upd_ne _ _ e]
      rw [sR'.oth j e] at hj0
      have hj1 : (S.thr ++ [_])[j]? = some t0 := hj0
      rw [List.getElem?_append_left (by omega)] at hj1
      exact H.stt j hjk t0 hj1
  · by_cases e : j = k
    · subst e
      rw [upd_same]
      cases hMb : M' b with
      | none => rfl
      | some o =>
        exfalso
        have hne' : M' b ≠ none := by rw [hMb]; simp
        rcases hs'.dom b hne' with h1 | h1
        · exact hne (f14 b h1 hb)
        · rcases hnew' b h1 with h2 | h2
          · exact h2
          · have := hrd b hb; omega
    · rw [upd_ne _ _ e]
      exact hfut j (by omega) b hb
end
end Go.Proofs.Ytfjjoohflcchnaa
