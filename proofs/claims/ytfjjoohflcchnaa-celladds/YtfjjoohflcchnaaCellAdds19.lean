/- CellAdds returns true, whatever the schedule, the start and the numbers, and leaves what it was given as it was: of the law's statement as given, with no condition of our own. Part 19 of 34. (Joined, by program, of: Home, Flow, Flow2.) -/
import Derived.Test.YtfjjoohflcchnaaCellAdds18
set_option linter.unusedSimpArgs false
set_option linter.unusedVariables false
namespace Go.Proofs.Ytfjjoohflcchnaa
open Go Go.Lift Go.Conc Go.RowKit

/-- The place at which a row begins in its block. -/
def roOf : Option Addr → Nat
  | some a => a.off
  | none => 0
/-- What stays of a thread: its goroutine h, its number i, its row, channel and box, its script, its row of answers, the Play's cells. -/
structure Fix where
  h : Nat
  i : Nat
  tb : Nat
  gc : Nat
  bb : Nat
  calls : List Cl
  pc : Option Addr
  rb : Nat
  cap : Nat
  asl : Value
  ab : Nat
  cap2 : Nat
  aty : TypeId
  xb : Nat
  rk : Nat
  ck : Nat
  kb : List Nat
namespace Fix
def csl (X : Fix) : Value := .slice X.pc X.calls.length X.cap
abbrev ro (X : Fix) : Nat := roOf X.pc
abbrev F (X : Fix) : Value := .func (.func 55) #[] #[Pt X.xb 0]
/-- What it reads of its own. -/
abbrev Pr (X : Fix) (b : Nat) : Prop := b = X.bb ∨ b = X.rb ∨ b = X.ab ∨ b = X.xb ∨ b = X.rk
structure Ok (X : Fix) : Prop where
  h : 0 < X.h
  kb : 0 < X.kb.length ∧ (X.kb.length : Int) < 9223372036854775808
  n : (X.calls.length : Int) < 9223372036854775808
  ca : ∀ c ∈ X.calls, -9223372036854775808 ≤ c.ca ∧ c.ca < 9223372036854775808
  pc : 0 < X.calls.length → X.pc = some ⟨X.rb, X.ro, none⟩
  asl : 0 < X.calls.length → X.asl = .slice (some ⟨X.ab, 0, none⟩) X.calls.length X.cap2
  e0 : X.calls.length = 0 → X.rb = X.bb ∧ X.ab = X.bb
  ne : 0 < X.calls.length → X.ab ≠ X.bb ∧ X.ab ≠ X.rb ∧ X.ab ≠ X.xb ∧ X.ab ≠ X.rk
end Fix

structure PM (X : Fix) (ans : List (Int × Int)) (v : World) : Prop where
  box : v.cell? ⟨X.bb, 0, none⟩ = some (Pt X.tb 0)
  call : ∀ (k : Nat) (c : Cl), X.calls[k]? = some c → v.cell? ⟨X.rb, X.ro + k * 4, none⟩ = some (I c.po) ∧ v.cell? ⟨X.rb, X.ro + k * 4 + 1, none⟩ = some (I c.ca) ∧ v.cell? ⟨X.rb, X.ro + k * 4 + 2, none⟩ = some (I c.cb) ∧ v.cell? ⟨X.rb, X.ro + k * 4 + 3, none⟩ = some (I c.cc)
  row : 0 < X.calls.length → v.heap[X.ab]? = some (.cells (arow ans).toArray X.aty (0, 0))
  len : ans.length = X.calls.length
  xb : v.cell? ⟨X.xb, 0, none⟩ = some (.slice (some ⟨X.rk, 0, none⟩) X.kb.length X.ck)
  rk : ∀ (j b : Nat), X.kb[j]? = some b → v.cell? ⟨X.rk, j, none⟩ = some (Pt b 0)
theorem PM.stay {X : Fix} {ans : List (Int × Int)} {v v' : World} (h : PM X ans v) (hs : ∀ b, X.Pr b → v'.heap[b]? = v.heap[b]?) : PM X ans v' := by
  have hc : ∀ (a : Addr) (x : Value), X.Pr a.block → v.cell? a = some x → v'.cell? a = some x := fun a x hb ha => by rw [World.cell?_of_block (hs a.block hb)]; exact ha
  refine ⟨hc _ _ (.inl rfl) h.box, fun k c hk => ?_, fun h0 => by rw [hs X.ab (.inr (.inr (.inl rfl)))]; exact h.row h0, h.len, hc _ _ (.inr (.inr (.inr (.inl rfl)))) h.xb, fun j b hj => hc _ _ (.inr (.inr (.inr (.inr rfl)))) (h.rk j b hj)⟩
  have := h.call k c hk
  exact ⟨hc _ _ (.inr (.inl rfl)) this.1, hc _ _ (.inr (.inl rfl)) this.2.1, hc _ _ (.inr (.inl rfl)) this.2.2.1, hc _ _ (.inr (.inl rfl)) this.2.2.2⟩

/-- What a thread has in mind lies there. -/
def Has (M : Nat → Option Obj) (v : World) : Prop := ∀ b o, M b = some o → v.heap[b]? = some o
/-- What it has in mind tells it all that it reads. -/
structure Sees (X : Fix) (E : Nat → Prop) (M : Nat → Option Obj) (ans : List (Int × Int)) : Prop where
  ex : ∀ b, E b → M b ≠ none
  dom : ∀ b, M b ≠ none → X.Pr b ∨ E b
  apart : ∀ b, E b → ¬ X.Pr b
  pm : ∀ v, Has M v → PM X ans v
  pr : ∀ b, X.Pr b → M b ≠ none
  row : ∀ b o, M b = some o → ∃ c e f, o = .cells c e f
/-- The world where it gives the turn back. -/
def Gv (X : Fix) (z : Nat → Option Nat) (Ch : Nat → Prop) (S : TS) (K : List (Nat × Int)) (v : World) (E : Nat → Prop) (σ : TS) (κ : List (Nat × Int)) (M' : Nat → Option Obj) (w' : World) : Prop :=
  ∃ v' S', Rel z v' w' ∧ NoRow Ch v' ∧ nv S' = σ ∧ EvoP (fun b => b = X.ab ∨ E b) z S K v S' κ v' ∧ Has M' v' ∧ ∀ b, M' b ≠ none → ¬ Own S' κ b
noncomputable def seatOf (X : Fix) (Hm : Ph → (Nat → Prop) → (Nat → Option Obj) → Goroutine → Prop) : Ph → (Nat → Prop) → (Nat → Option Obj) → Option Seat
  | .done _, _, _ => none
  | l, E, M => some (seatT X.gc (Hm l E M))
def Gives (X : Fix) (Hm : Ph → (Nat → Prop) → (Nat → Option Obj) → Goroutine → Prop) (z : Nat → Option Nat) (cont : Addr → Value) (Ch : Nat → Prop) (S : TS) (K : List (Nat × Int)) (v : World) (E : Nat → Prop) (σ : TS) (κ : List (Nat × Int)) (l' : Ph) (E' : Nat → Prop) (M' : Nat → Option Obj) (g' : Goroutine) (w' : World) : Prop :=
  Sees X E' M' l'.ans ∧ (∀ b, E' b → E b ∨ v.heap.size ≤ b) ∧ Lift.AtGive Try.prog (KC (ScZ z) cont) (StillC (ScZ z)) X.h S.bk (.agg #[]) (seatOf X Hm l' E' M') (Gv X z Ch S K v E σ κ M') g' w'
def Fits (X : Fix) : Ph → Thr → Prop
  | .turn (c :: _) _ _, t => t.op = opn c.po ∧ t.ce = which c.ca X.kb.length
  | _, _ => True
/-- Served, it goes on; this holds n times. -/
def Home (X : Fix) : Nat → Ph → (Nat → Prop) → (Nat → Option Obj) → Goroutine → Prop
  | 0, _, _, _, _ => True
  | n + 1, l, E, M, g => ∀ (z : Nat → Option Nat) (Ch : Nat → Prop) (Stop : Goroutine → World → Prop) (cont : Addr → Value) (y : Value) (w v : World) (S : TS) (K : List (Nat × Int)) (t : Thr), Rel z v w → NoRow Ch v → Mem z S K v → S.thr[X.i]? = some t → t.tb = X.tb → t.gc = X.gc → Fits X l t → K.map (·.1) = X.kb → z X.tb = some 2 → cont ⟨X.tb, 2, none⟩ = .chan (some X.gc) →
      Has M v → (∀ b, M b ≠ none → ¬ Own S K b) → (resume X.i X.kb.length l (nv S) K).1.n * 40 ≤ 140737488355328 →
      (∀ g' w' E' M', Gives X (Home X n) z cont Ch S K v E (resume X.i X.kb.length l (nv S) K).1 (resume X.i X.kb.length l (nv S) K).2.1 (resume X.i X.kb.length l (nv S) K).2.2 E' M' g' w' → Stop g' w') →
      GoesI Try.prog (X.h == 0) (DT (ScZ z) Ch) Stop (Go.Conc.served g y) w

theorem atGive_mono {K : World → Prop} {Still : Loc → Prop} {h c : Nat} {v : Value} {o : Option Seat} {F F' : World → Prop} {a : Goroutine} {w : World} (hF : F w → F' w) (hg : Lift.AtGive Try.prog K Still h c v o F a w) : Lift.AtGive Try.prog K Still h c v o F' a w :=
  ⟨hg.1, hF hg.2.1, hg.2.2⟩

section
variable {Pr Pr' : Nat → Prop} {z : Nat → Option Nat} {S S' S'' : TS} {K K' K'' : List (Nat × Int)} {v v' v'' : World}
/-- Stretches add up, what is new counting as one's own. -/
theorem EvoP.join (h : EvoP Pr z S K v S' K' v') (k : EvoP Pr' z S' K' v' S'' K'' v'') (hp : ∀ b, Pr' b → Pr b ∨ v.heap.size ≤ b) : EvoP Pr z S K v S'' K'' v'' := by
  refine ⟨k.mem, k.blks.trans h.blks, ⟨k.fr.os.trans h.fr.os, k.fr.output.trans h.fr.output, Nat.le_trans h.fr.size k.fr.size, fun x hx hs => ?_⟩, fun b hb => ?_⟩
  · rw [k.fr.block x (Nat.lt_of_lt_of_le hx h.fr.size) (fun hi => ?_), h.fr.block x hx hs]
    rcases hi with hi | hi
    · exact (h.new x hi).elim (fun h => hs (.inl h)) (fun hle => by omega)
    · exact (hp x hi).elim (fun h => hs (.inr h)) (fun hle => by omega)
  · rcases k.new b hb with h1 | h1
    · exact h.new b h1
    · exact .inr (Nat.le_trans h.fr.size h1)
theorem EvoP.grows (h : EvoP Pr z S K v S' K' v') {u : World} (g : Grows v' u) (k : EvoP Pr' z S' K' u S'' K'' v'') (hp : ∀ b, Pr' b → Pr b ∨ v.heap.size ≤ b) : EvoP Pr z S K v S'' K'' v'' := by
  refine ⟨k.mem, k.blks.trans h.blks, ⟨(k.fr.os.trans g.os).trans h.fr.os, (k.fr.output.trans g.output).trans h.fr.output, Nat.le_trans h.fr.size (Nat.le_trans g.size k.fr.size), fun x hx hs => ?_⟩, fun b hb => ?_⟩
  · have hx' := Nat.lt_of_lt_of_le hx h.fr.size
    rw [k.fr.block x (Nat.lt_of_lt_of_le hx' g.size) (fun hi => ?_), g.old x hx', h.fr.block x hx hs]
    rcases hi with hi | hi
    · exact (h.new x hi).elim (fun h => hs (.inl h)) (fun hle => by omega)
    · exact (hp x hi).elim (fun h => hs (.inr h)) (fun hle => by omega)
  · rcases k.new b hb with h1 | h1
    · exact h.new b h1
    · exact .inr (Nat.le_trans h.fr.size (Nat.le_trans g.size h1))
theorem EvoP.keeps (h : EvoP Pr z S K v S' K' v') {b : Nat} (hb : b < v.heap.size) (ho : ¬ Own S K b) (hp : ¬ Pr b) : v'.heap[b]? = v.heap[b]? ∧ ¬ Own S' K' b :=
  ⟨h.fr.block b hb (fun hi => hi.elim ho hp), fun hi => (h.new b hi).elim ho (fun hle => by omega)⟩
theorem Grows.trans' {a b c : World} (h : Grows a b) (k : Grows b c) : Grows a c := ⟨Nat.le_trans h.size k.size, fun x hx => by rw [k.old x (Nat.lt_of_lt_of_le hx h.size), h.old x hx], k.os.trans h.os, k.output.trans h.output⟩
theorem Gives.join {X : Fix} {Hm : Ph → (Nat → Prop) → (Nat → Option Obj) → Goroutine → Prop} {cont : Addr → Value} {Ch : Nat → Prop} {E E1 E' : Nat → Prop} {M' : Nat → Option Obj} {σ : TS} {κ : List (Nat × Int)} {l' : Ph} {g' : Goroutine} {w' : World}
    (h : EvoP (fun b => b = X.ab ∨ E b) z S K v S' K' v') (hbk : S'.bk = S.bk) (he : ∀ b, E1 b → E b ∨ v.heap.size ≤ b) (k : Gives X Hm z cont Ch S' K' v' E1 σ κ l' E' M' g' w') : Gives X Hm z cont Ch S K v E σ κ l' E' M' g' w' := by
  obtain ⟨k1, k2, k3⟩ := k
  rw [hbk] at k3
  refine ⟨k1, fun b hb => ?_, atGive_mono (fun hF => ?_) k3⟩
  · rcases k2 b hb with h1 | h1
    · exact he b h1
    · exact .inr (Nat.le_trans h.fr.size h1)
  · obtain ⟨v2, S2, q1, q2, q3, q4, q5⟩ := hF
    refine ⟨v2, S2, q1, q2, q3, h.join q4 (fun b hb => ?_), q5⟩
    rcases hb with rfl | hb
    · exact .inl (.inl rfl)
    · exact (he b hb).imp .inr id
end

/-- What a world holds of what it reads. -/
def mind (X : Fix) (v : World) (b : Nat) : Option Obj := if X.Pr b then v.heap[b]? else none
abbrev box0 : Obj := .cells #[I 0, I 0] 42 (0, 0)
/-- .. and two boxes of a call that is under way. -/
def mind2 (X : Fix) (v : World) (pb ab2 : Nat) (b : Nat) : Option Obj := if b = pb ∨ b = ab2 then some box0 else mind X v b

/-- A script's last word: behind its last call the thread ends. -/
def CarryEnds (X : Fix) (cs : List Frame) : Prop :=
  ∀ (z : Nat → Option Nat) (Ch : Nat → Prop) (Stop : Goroutine → World → Prop) (cont : Addr → Value) (w v : World) (S : TS) (K : List (Nat × Int)) (t : Thr) (sk : Bool) (u : Nat → Value), Rel z v w → NoRow Ch v → Mem z S K v → S.thr[X.i]? = some t → t.tb = X.tb → v.cell? ⟨X.bb, 0, none⟩ = some (Pt X.tb 0) → ¬ Own S K X.bb →
    (∀ g w', GiveE z cont X.h S.bk (Then z Ch S K v (ended S X.i t) K) g w' → Stop g w') →
    GoesI Try.prog (X.h == 0) (DT (ScZ z) Ch) Stop (G (cFr X.tb X.csl X.F X.asl X.calls.length X.calls.length sk u) cs) w
/-- A call has its answer: it is noted and written down. -/
def Answers (X : Fix) (cs : List Frame) (ii : Nat) (ans : List (Int × Int)) (pb : Nat) (cu : Value → Goroutine) : Prop :=
  ∀ (z : Nat → Option Nat) (Ch : Nat → Prop) (Stop : Goroutine → World → Prop) (w v : World) (S : TS) (K : List (Nat × Int)) (t : Thr) (e x : Int), Rel z v w → NoRow Ch v → Mem z S K v → S.thr[X.i]? = some t → t.tb = X.tb → (S.n + 1) * 40 ≤ 140737488355328 → v.heap[pb]? = some box0 → ¬ Own S K pb → ¬ X.Pr pb → PM X ans v → (∀ b, X.Pr b → ¬ Own S K b) →
    (∀ v' w' tv u', Rel z v' w' → NoRow Ch v' → EvoP (fun b => b = X.ab ∨ b = pb) z S K v (noted S tv X.i 10 (-1) ii e) K v' → PM X (ans.set ii (e, x)) v' → GoesI Try.prog (X.h == 0) (DT (ScZ z) Ch) Stop (G (cFr X.tb X.csl X.F X.asl X.calls.length (ii + 1) (e == 4) u') cs) w') →
    GoesI Try.prog (X.h == 0) (DT (ScZ z) Ch) Stop (cu (.agg #[I e, I x])) w

section
variable {X : Fix} {ans : List (Int × Int)} {v v' : World}
theorem row_of_cell {a : Addr} {x : Value} (h : v.cell? a = some x) : ∃ c e f, v.heap[a.block]? = some (.cells c e f) := by
  unfold World.cell? at h
  cases hh : v.heap[a.block]? with
  | none => rw [hh] at h; cases h
  | some o =>
    rw [hh] at h
    cases o with
    | cells c e f => exact ⟨c, e, f, rfl⟩
    | _ => cases h
theorem PM.isrow (h : PM X ans v) (ok : X.Ok) {b : Nat} (hb : X.Pr b) : ∃ c e f, v.heap[b]? = some (.cells c e f) := by
  have hbb := row_of_cell h.box
  rcases hb with rfl | rfl | rfl | rfl | rfl
  · exact hbb
  · by_cases hc : X.calls.length = 0
    · rw [(ok.e0 hc).1]; exact hbb
    · have h0 : 0 < X.calls.length := by omega
      exact row_of_cell (h.call 0 (X.calls[0]) (by simp [h0])).1
  · by_cases hc : X.calls.length = 0
    · rw [(ok.e0 hc).2]; exact hbb
    · exact ⟨_, _, _, h.row (by omega)⟩
  · exact row_of_cell h.xb
  · exact row_of_cell (h.rk 0 (X.kb[0]'ok.kb.1) (by simp [ok.kb.1]))
theorem PM.lt (h : PM X ans v) (ok : X.Ok) {b : Nat} (hb : X.Pr b) : b < v.heap.size := by
  obtain ⟨c, e, f, hh⟩ := h.isrow ok hb
  exact (Array.getElem?_eq_some_iff.1 hh).1
theorem mind_row (h : PM X ans v) (ok : X.Ok) {b : Nat} {o : Obj} (hb : mind X v b = some o) : ∃ c e f, o = .cells c e f := by
  unfold mind at hb
  split at hb
  · rename_i hp
    obtain ⟨c, e, f, hh⟩ := h.isrow ok hp
    rw [hh] at hb
    cases hb
    exact ⟨c, e, f, rfl⟩
  · cases hb
theorem PM.set (h : PM X ans v) {ii : Nat} (hi : ii < X.calls.length) (e x : Int) (hab : v'.heap[X.ab]? = ((v.setCell ⟨X.ab, ii * 2, none⟩ (I e)).setCell ⟨X.ab, ii * 2 + 1, none⟩ (I x)).heap[X.ab]?) (hs : ∀ b, X.Pr b → b ≠ X.ab → v'.heap[b]? = v.heap[b]?) (hne : X.ab ≠ X.bb ∧ X.ab ≠ X.rb ∧ X.ab ≠ X.xb ∧ X.ab ≠ X.rk) : PM X (ans.set ii (e, x)) v' := by
  have h0 : 0 < X.calls.length := by omega
  have hc : ∀ (a : Addr) (y : Value), X.Pr a.block → a.block ≠ X.ab → v.cell? a = some y → v'.cell? a = some y := fun a y hb hn ha => by rw [World.cell?_of_block (hs a.block hb hn)]; exact ha
  refine ⟨hc _ _ (.inl rfl) (Ne.symm hne.1) h.box, fun k c hk => ?_, fun _ => ?_, by simpa using h.len, hc _ _ (.inr (.inr (.inr (.inl rfl)))) (Ne.symm hne.2.2.1) h.xb, fun j b hj => hc _ _ (.inr (.inr (.inr (.inr rfl)))) (Ne.symm hne.2.2.2) (h.rk j b hj)⟩
  · have := h.call k c hk
    exact ⟨hc _ _ (.inr (.inl rfl)) (Ne.symm hne.2.1) this.1, hc _ _ (.inr (.inl rfl)) (Ne.symm hne.2.1) this.2.1, hc _ _ (.inr (.inl rfl)) (Ne.symm hne.2.1) this.2.2.1, hc _ _ (.inr (.inl rfl)) (Ne.symm hne.2.1) this.2.2.2⟩
  · rw [hab, heap_setCell_same (heap_setCell_same (h.row h0) (I e)) (I x), arow_set _ _ _ _ (by rw [h.len]; exact hi)]
    simp
theorem PM.cells (h : PM X ans v) {ii : Nat} (hi : ii < X.calls.length) : ∃ y0 y1, v.cell? ⟨X.ab, ii * 2, none⟩ = some (I y0) ∧ v.cell? ⟨X.ab, ii * 2 + 1, none⟩ = some (I y1) ∧ v.frozen? ⟨X.ab, ii * 2, none⟩ = false ∧ v.frozen? ⟨X.ab, ii * 2 + 1, none⟩ = false := by
  have h0 := h.row (by omega)
  have hl : ii < ans.length := by rw [h.len]; exact hi
  have := arow_get ans ii ans[ii] (by simp [hl])
  refine ⟨ans[ii].1, ans[ii].2, ?_, ?_, ?_, ?_⟩
  · simp [World.cell?, h0, this.1]
  · simp [World.cell?, h0, this.2]
  · simp [World.frozen?, h0]
  · simp [World.frozen?, h0]
theorem has_mind (hl : ∀ b, X.Pr b → b < v.heap.size) {M : Nat → Option Obj} (hM : ∀ b o, mind X v b = some o → M b = some o) (h : Has M v') : ∀ b, X.Pr b → v'.heap[b]? = v.heap[b]? := fun b hb => by
  have e : v.heap[b]? = some v.heap[b]! := by simp [hl b hb]
  rw [e]
  exact h b _ (hM b _ (by unfold mind; rw [if_pos hb, e]))
theorem sees_mind (h : PM X ans v) (ok : X.Ok) : Sees X (fun _ => False) (mind X v) ans := by
  refine ⟨fun _ h => h.elim, fun b hb => ?_, fun _ h => h.elim, fun v' hM => h.stay (has_mind (fun b hb => h.lt ok hb) (fun _ _ h => h) hM), fun b hb => ?_, fun b o hb => mind_row h ok hb⟩
  · unfold mind at hb
    split at hb
    · exact .inl ‹_›
    · exact absurd rfl hb
  · unfold mind
    rw [if_pos hb]
    simp [h.lt ok hb]
theorem sees_mind2 (h : PM X ans v) (ok : X.Ok) {pb ab2 : Nat} (h1 : ¬ X.Pr pb) (h2 : ¬ X.Pr ab2) : Sees X (fun b => b = pb ∨ b = ab2) (mind2 X v pb ab2) ans := by
  have hne : ∀ b, X.Pr b → ¬ (b = pb ∨ b = ab2) := fun b hb e => e.elim (fun e => h1 (e ▸ hb)) (fun e => h2 (e ▸ hb))
  refine ⟨fun b hb => ?_, fun b hb => ?_, fun b hb hp => hne b hp hb, fun v' hM => h.stay (has_mind (fun b hb => h.lt ok hb) (fun b o hb => ?_) hM), fun b hb => ?_, fun b o hb => ?_⟩
  · unfold mind2; rw [if_pos hb]; simp
  · unfold mind2 at hb
    split at hb
    · exact .inr ‹_›
    · unfold mind at hb
      split at hb
      · exact .inl ‹_›
      · exact absurd rfl hb
  · unfold mind2
    have hpr : X.Pr b := by
      unfold mind at hb
      split at hb
      · assumption
      · cases hb
    rw [if_neg (hne b hpr)]
    exact hb
  · unfold mind2 mind
    rw [if_neg (hne b hb), if_pos hb]
    simp [h.lt ok hb]
  · unfold mind2 at hb
    split at hb
    · cases hb; exact ⟨_, _, _, rfl⟩
    · exact mind_row h ok hb
end
end Go.Proofs.Ytfjjoohflcchnaa

namespace Go.Proofs.Ytfjjoohflcchnaa
open Go Go.Lift Go.Conc Go.RowKit

/-- A call with an Op that there is not: ErrArg, without a step. -/
def CallDef : Prop := ∀ (z : Nat → Option Nat) (Ch : Nat → Prop) (Stop : Goroutine → World → Prop) (main : Bool) (v w : World) (cb tb : Nat) (po ca n cc : Int) (cs : List Frame) (bc : Frame) (ac : Act) (ops : Array Oper) (q : Nat) (rest : List Nat) (oc : Oper) (k : List Item), ops[q]? = some oc → ¬ (1 ≤ po ∧ po ≤ 6) → Rel z v w → NoRow Ch v →
  (∀ v' w', Rel z v' w' → NoRow Ch v' → Grows v v' → GoesI Try.prog main (DT (ScZ z) Ch) Stop (G (bc.at (ac.put oc.dst (.agg #[I 1, I 0])) (.inRegion ops rest :: k)) cs) w') → ∀ (code : Code), Try.f57.body = some code →
  GoesI Try.prog main (DT (ScZ z) Ch) Stop (G ((base 57).at { tmps := #[Pt cb 0, Pt tb 0, .agg #[I po, I ca, I n, I cc]] ++ Array.replicate 57 undef, defers := [] } [.code code]) (bc.at ac (.inRegion ops (q :: rest) :: k) :: cs)) w

theorem dst5 : ops347[5]? = some (ops347.getD 5 default) := by kernel_rfl
theorem dst5' : (ops347.getD 5 default).dst = some 31 := by kernel_rfl

theorem answers_of {X : Fix} (ok : X.Ok) {cs : List Frame} {ii : Nat} {ans : List (Int × Int)} {pb N : Nat} {V : Value} {u : Nat → Value} {cu : Value → Goroutine} (hi : ii < X.calls.length)
    (h : C21Back (X.h == 0) pb cu (fun r => G ((base 85).at ((cAct X.tb X.csl X.F X.asl X.rb X.ro X.calls.length ii N V u).put (some 31) r) [.inRegion ops347 [6, 7], .code R89, .inBlock 1, .code R10, .inLoop L34, .inBlock 0]) cs)) : Answers X cs ii ans pb cu := by
  intro z Ch Stop w v S K t e x hvw hn hm ht htb hl hpb hpo hpp hp hfar hk
  have h0 : 0 < X.calls.length := by omega
  refine h z Ch Stop w v S K e x hvw hn hm hpb hpo (fun v1 w1 hvw1 hn1 he1 => ?_)
  have st : ∀ b, X.Pr b → v1.heap[b]? = v.heap[b]? ∧ ¬ Own S K b := fun b hb => he1.keeps (hp.lt ok hb) (hfar b hb) (fun e => hpp (e ▸ hb))
  have hp1 : PM X ans v1 := hp.stay (fun b hb => (st b hb).1)
  obtain ⟨y0, y1, c1, c2, c3, c4⟩ := hp1.cells hi
  rw [← htb, ok.asl h0]
  refine carry_back (S := S) (K := K) (v := v1) (i := X.i) (t := t) X.csl X.F X.rb X.ro X.ab X.calls.length X.cap2 ii N V e x y0 y1 u cs hi ok.n c1 c2 c3 c4 (st X.ab (.inr (.inr (.inl rfl)))).2 hvw1 hn1 he1.mem ht hl (fun v2 w2 tv u' hvw2 hn2 he2 hab => ?_)
  have := hk v2 w2 tv u' hvw2 hn2 ((he1.wider (fun b _ e => .inr e)).join he2 (fun b e => .inl (.inl e))) (hp1.set hi e x hab (fun b hb hne => (he2.keeps (hp1.lt ok hb) (st b hb).2 hne).1) (ok.ne h0))
  rw [← htb, ok.asl h0] at this
  exact this

/-- What is known of the record of a thread that sits. -/
structure Mid (X : Fix) (c : Cl) (rest : List Cl) (ii : Nat) (ans : List (Int × Int)) (E : Nat → Prop) (M : Nat → Option Obj) (cs : List Frame) (pb ab2 cb : Nat) (cu : Value → Goroutine) : Prop where
  sees : Sees X E M ans
  drop : X.calls.drop ii = c :: rest
  ends : CarryEnds X cs
  kb : X.kb[which c.ca X.kb.length]? = some cb
  answers : Answers X cs ii ans pb cu
  e : E = fun b => b = pb ∨ b = ab2
  ne : pb ≠ ab2
  m1 : M pb = some box0
  m2 : M ab2 = some box0
def HomeBack (X : Fix) : Ph → (Nat → Prop) → (Nat → Option Obj) → Goroutine → Prop
  | .turn (c :: rest) ii ans, E, M, g => ∃ cs pb ab2 cb cu, Mid X c rest ii ans E M cs pb ab2 cb cu ∧
      ((c.po ≠ 6 ∧ ∃ ansf : Value → Array Value, (∀ x, ansf (effC c x).2.2 = #[I (ansC c x).1, I (ansC c x).2]) ∧ CallBack (X.h == 0) X.i (which c.ca X.kb.length) cb X.tb ab2 (opn c.po) (effC c) ansf cu g) ∨
       (c.po = 6 ∧ ∃ (fs : List Frame) (bd : Frame) (ad : Act) (od : Array Oper) (qd : Nat) (rd : List Nat) (oe : Oper) (kd : List Item) (u : Nat → Value), od[qd]? = some oe ∧ C6Back (X.h == 0) ab2 (fun b => G (bd.at (ad.put oe.dst (.bool b)) (.inRegion od rd :: kd)) fs) cu ∧
          OpBack (X.h == 0) X.i (which c.ca X.kb.length) cb X.tb 1 effLoad (fun r => G (uSeen cb X.tb c.cb u r) (bd.at ad (.inRegion od (qd :: rd) :: kd) :: fs)) g))
  | .wait (c :: rest) ii ans, E, M, g => ∃ cs pb ab2 cb cu, Mid X c rest ii ans E M cs pb ab2 cb cu ∧ c.po = 6 ∧
      ∃ (fs : List Frame) (bd : Frame) (ad : Act) (od : Array Oper) (qd : Nat) (rd : List Nat) (oe : Oper) (kd : List Item) (u : Nat → Value), od[qd]? = some oe ∧ C6Back (X.h == 0) ab2 (fun b => G (bd.at (ad.put oe.dst (.bool b)) (.inRegion od rd :: kd)) fs) cu ∧
        WakeBack (X.h == 0) X.i X.tb (which c.ca X.kb.length) (fun r => G (uWoke cb X.tb c.cb (which c.ca X.kb.length) u r) (bd.at ad (.inRegion od (qd :: rd) :: kd) :: fs)) g
  | _, _, _, _ => False

/-- A call's first seat: what the world is there. -/
theorem seat_here {X : Fix} (ok : X.Ok) {z : Nat → Option Nat} {E : Nat → Prop} {S S1 S' : TS} {K : List (Nat × Int)} {v v1 v2 v3 v' : World} {ans : List (Int × Int)} (hp : PM X ans v) (hfar : ∀ b, X.Pr b → ¬ Own S K b)
    (h1 : Evo z S K v S1 K v1) (g2 : Grows v1 v2) (hb2 : v2.heap[v1.heap.size + 1]? = some box0) (hs2 : v2.heap.size = v1.heap.size + 2) (g3 : Grows v2 v3) (hb3 : v3.heap[v2.heap.size + 1]? = some box0) (h4 : Evo z S1 K v3 S' K v') :
    EvoP (fun b => b = X.ab ∨ E b) z S K v S' K v' ∧ Has (mind2 X v (v1.heap.size + 1) (v2.heap.size + 1)) v' ∧ (∀ b, mind2 X v (v1.heap.size + 1) (v2.heap.size + 1) b ≠ none → ¬ Own S' K b) := by
  have e1 : EvoP (fun b => b = X.ab ∨ E b) z S K v S1 K v1 := h1.toP
  have e2 : EvoP (fun _ => False) z S1 K v3 S' K v' := h4.toP
  have hbig : ∀ b, v1.heap.size ≤ b → ¬ Own S1 K b := fun b hb ho => by have := h1.mem.lt ho; omega
  have hlt3 : v2.heap.size + 1 < v3.heap.size := (Array.getElem?_eq_some_iff.1 hb3).1
  have k1 := e2.keeps (b := v1.heap.size + 1) (by have := g3.size; omega) (hbig _ (by omega)) (fun h => h)
  have k2 := e2.keeps (b := v2.heap.size + 1) hlt3 (hbig _ (by omega)) (fun h => h)
  have q1 : v'.heap[v1.heap.size + 1]? = some box0 := by rw [k1.1, g3.old _ (by omega), hb2]
  have q2 : v'.heap[v2.heap.size + 1]? = some box0 := by rw [k2.1, hb3]
  have kp : ∀ b, X.Pr b → v'.heap[b]? = v.heap[b]? ∧ ¬ Own S' K b := fun b hb => by
    have hlt := hp.lt ok hb
    have a1 := (Evo.toP (Pr := fun _ => False) h1).keeps hlt (hfar b hb) (fun h => h)
    have hlt1 := Nat.lt_of_lt_of_le hlt h1.fr.size
    have a2 := e2.keeps (b := b) (by have := g2.size; have := g3.size; omega) a1.2 (fun h => h)
    exact ⟨by rw [a2.1, g3.old b (by have := g2.size; omega), g2.old b hlt1, a1.1], a2.2⟩
  refine ⟨e1.grows (g2.trans' g3) e2 (fun _ h => h.elim), fun b o hb => ?_, fun b hb => ?_⟩
  · unfold mind2 at hb
    split at hb
    · rename_i hc
      cases hb
      rcases hc with rfl | rfl
      · exact q1
      · exact q2
    · unfold mind at hb
      split at hb
      · rename_i hc
        rw [(kp b hc).1]; exact hb
      · cases hb
  · unfold mind2 at hb
    split at hb
    · rename_i hc
      rcases hc with rfl | rfl
      · exact k1.2
      · exact k2.2
    · unfold mind at hb
      split at hb
      · rename_i hc
        exact (kp b hc).2
      · exact absurd rfl hb
end Go.Proofs.Ytfjjoohflcchnaa

namespace Go.Proofs.Ytfjjoohflcchnaa
open Go Go.Lift Go.Conc Go.RowKit

theorem kb_at {X : Fix} {K : List (Nat × Int)} (hK : K.map (·.1) = X.kb) {j cb : Nat} (h : X.kb[j]? = some cb) : K[j]? = some (cb, (cellAt K j).2) ∧ cellAt K j = (cb, (cellAt K j).2) := by
  rw [← hK, List.getElem?_map, Option.map_eq_some_iff] at h
  obtain ⟨p, h1, rfl⟩ := h
  have : cellAt K j = p := by unfold cellAt; rw [h1]; rfl
  rw [this]
  exact ⟨h1, rfl⟩

set_option maxHeartbeats 1000000 in
set_option maxRecDepth 100000 in
theorem flow_goes {X : Fix} (ok : X.Ok) (hD : CallDef) (Hm : Ph → (Nat → Prop) → (Nat → Option Obj) → Goroutine → Prop) (hHm : ∀ l E M g, HomeBack X l E M g → Hm l E M g) {cs : List Frame} (hce : CarryEnds X cs) {z : Nat → Option Nat} {Ch : Nat → Prop} {Stop : Goroutine → World → Prop} {cont : Addr → Value} (hz : z X.tb = some 2) (hcont : cont ⟨X.tb, 2, none⟩ = .chan (some X.gc)) :
    ∀ (rest : List Cl) (ii : Nat) (sk : Bool) (ans : List (Int × Int)) (E : Nat → Prop) (S : TS) (K : List (Nat × Int)) (v w : World) (t : Thr) (u : Nat → Value), X.calls.drop ii = rest → ii ≤ X.calls.length → Rel z v w → NoRow Ch v → Mem z S K v → S.thr[X.i]? = some t → t.tb = X.tb → t.gc = X.gc → K.map (·.1) = X.kb → PM X ans v → (∀ b, X.Pr b → ¬ Own S K b) →
      (flow X.i X.kb.length rest ii sk ans (nv S)).1.n * 40 ≤ 140737488355328 →
      (∀ g' w' E' M', Gives X Hm z cont Ch S K v E (flow X.i X.kb.length rest ii sk ans (nv S)).1 K (flow X.i X.kb.length rest ii sk ans (nv S)).2 E' M' g' w' → Stop g' w') →
      GoesI Try.prog (X.h == 0) (DT (ScZ z) Ch) Stop (G (cFr X.tb X.csl X.F X.asl X.calls.length ii sk u) cs) w := by
  intro rest
  induction rest with
  | nil =>
    intro ii sk ans E S K v w t u hd hi hvw hn hm ht htb hgc hK hp hfar hl hstop
    obtain rfl : ii = X.calls.length := by have := List.drop_eq_nil_iff.1 hd; omega
    refine hce z Ch Stop cont w v S K t sk u hvw hn hm ht htb hp.box (hfar X.bb (.inl rfl)) (fun g w' hg => hstop g w' (fun _ => False) (mind X v) ⟨sees_mind hp ok, fun _ h => h.elim, ?_⟩)
    refine atGive_mono (fun hF => ?_) hg
    obtain ⟨v', k1, k2, k3⟩ := hF
    have kp : ∀ b, X.Pr b → v'.heap[b]? = v.heap[b]? ∧ ¬ Own (ended S X.i t) K b := fun b hb => (Evo.toP (Pr := fun _ => False) k3).keeps (hp.lt ok hb) (hfar b hb) (fun h => h)
    refine ⟨v', _, k1, k2, ?_, k3.toP, fun b o hb => ?_, fun b hb => ?_⟩
    · show nv (ended S X.i t) = ended (nv S) X.i (thrI (nv S) X.i)
      rw [show thrI (nv S) X.i = t from thrI_of ht]
      rfl
    · unfold mind at hb
      split at hb
      · rename_i hc; rw [(kp b hc).1]; exact hb
      · cases hb
    · unfold mind at hb
      split at hb
      · rename_i hc; exact (kp b hc).2
      · exact absurd rfl hb
  | cons c rest ih =>
    intro ii sk ans E S K v w t u hd hi hvw hn hm ht htb hgc hK hp hfar hl hstop
    have hlt : ii < X.calls.length := by
      rcases Nat.lt_or_ge ii X.calls.length with h | h
      · exact h
      · rw [List.drop_eq_nil_iff.2 h] at hd; cases hd
    have h0 : 0 < X.calls.length := by omega
    have hc : X.calls[ii]? = some c := by
      have := congrArg (·[0]?) hd
      simpa using this
    have hd' : X.calls.drop (ii + 1) = rest := by
      have := congrArg List.tail hd
      simpa using this
    have ecs : X.csl = .slice (some ⟨X.rb, X.ro, none⟩) X.calls.length X.cap := by unfold Fix.csl; exact congrArg (fun p => Value.slice p X.calls.length X.cap) (ok.pc h0)
    obtain ⟨p0, p1, p2, p3⟩ := hp.call ii c hc
    obtain ⟨y0, y1, c1, c2, c3, c4⟩ := hp.cells hlt
    cases sk with
    | true =>
      have hab : X.Pr X.ab := .inr (.inr (.inl rfl))
      rw [ecs, ok.asl h0]
      refine carry_skip (S := S) (K := K) (v := v) X.F X.rb X.ro X.ab X.calls.length X.cap X.cap2 ii c.po c.ca c.cb c.cc y0 y1 u cs hlt ok.n p0 p1 p2 p3 c1 c2 c3 c4 (hfar X.ab hab) hvw hn hm (fun v1 w1 u1 hvw1 hn1 he1 hab1 => ?_)
      have st : ∀ b, X.Pr b → ¬ Own S K b := hfar
      have hp1 : PM X (ans.set ii (4, 0)) v1 := hp.set hlt 4 0 hab1 (fun b hb hne => (he1.keeps (hp.lt ok hb) (hfar b hb) hne).1) (ok.ne h0)
      have := ih (ii + 1) true (ans.set ii (4, 0)) E S K v1 w1 t u1 hd' (by omega) hvw1 hn1 he1.mem ht htb hgc hK hp1 hfar hl (fun g' w' E' M' hg => hstop g' w' E' M' (hg.join (he1.wider (fun b _ e => .inl e)) rfl (fun b e => .inl e)))
      rw [ecs, ok.asl h0] at this
      exact this
    | false =>
      have hn1 : (S.n + 1) * 40 ≤ 140737488355328 := by
        refine Nat.le_trans (Nat.mul_le_mul_right 40 ?_) hl
        rw [flow_cons]
        split
        · exact Nat.le_refl _
        · have := (flow_sta X.i X.kb.length rest (ii + 1) false (ans.set ii (1, 0)) (noted (noted (nv S) undef X.i 9 (-1) ii 0) undef X.i 10 (-1) ii 1)).n
          exact Nat.le_trans (Nat.le_succ _) this
      have hca := ok.ca c (List.mem_of_getElem? hc)
      have hKl : K.length = X.kb.length := by rw [← hK, List.length_map]
      have hj : which c.ca X.kb.length < X.kb.length := which_lt _ ok.kb.1
      obtain ⟨cb, hcb⟩ : ∃ cb, X.kb[which c.ca X.kb.length]? = some cb := ⟨_, List.getElem?_eq_getElem hj⟩
      obtain ⟨hKj, _⟩ := kb_at hK hcb
      generalize hx : (cellAt K (which c.ca X.kb.length)).2 = x at hKj
      rw [ecs, ← htb]
      refine carry_step (S := S) (K := K) (v := v) (i := X.i) (t := t) X.asl 55 Try.f55 #[Pt X.xb 0] Try.func55 (by kernel_rfl) _ rfl X.rb X.ro X.calls.length X.cap ii c.po c.ca c.cb c.cc u cs hlt p0 p1 p2 p3 hvw hn hm ht hn1 (fun v1 w1 tv hvw1 hn1 he1 hbx1 => ?_)
      have st1 : ∀ b, X.Pr b → v1.heap[b]? = v.heap[b]? ∧ ¬ Own (noted S tv X.i 9 (-1) ii 0) K b := fun b hb => (Evo.toP (Pr := fun _ => False) he1).keeps (hp.lt ok hb) (hfar b hb) (fun h => h)
      have hp1 : PM X ans v1 := hp.stay (fun b hb => (st1 b hb).1)
      refine play_goes (K := K) (v := v1) (cb := cb) (tb := t.tb) (xb := X.xb) (rb := X.rk) (cap := X.ck) c.po c.ca c.cb c.cc hca (by rw [hKl]; exact ok.kb) (by rw [hKl]; exact hp1.xb) (by rw [hKl]; exact hp1.rk _ _ hcb) cs dst5 hvw1 hn1 (fun v2 w2 bd ad od qd rd oe kd hvw2 hn2 hg2 hb2 hs2 hoe hC code hcode => ?_) _ rfl
      have hans : Answers X cs ii ans (v1.heap.size + 1) (fun r => G (bd.at (ad.put oe.dst r) (.inRegion od rd :: kd)) ((base 85).at (cAct t.tb (.slice (some ⟨X.rb, X.ro, none⟩) X.calls.length X.cap) (.func (.func 55) #[] #[Pt X.xb 0]) X.asl X.rb X.ro X.calls.length ii v.heap.size (.agg #[I c.po, I c.ca, I c.cb, I c.cc]) u) [.inRegion ops347 [5, 6, 7], .code R89, .inBlock 1, .code R10, .inLoop L34, .inBlock 0] :: cs)) :=
        answers_of (N := v.heap.size) (V := .agg #[I c.po, I c.ca, I c.cb, I c.cc]) (u := u) ok hlt (by rw [dst5'] at hC; rw [htb, ← ecs] at hC; rw [htb, ← ecs]; exact hC)
      generalize ((base 85).at (cAct t.tb (.slice (some ⟨X.rb, X.ro, none⟩) X.calls.length X.cap) (.func (.func 55) #[] #[Pt X.xb 0]) X.asl X.rb X.ro X.calls.length ii v.heap.size (.agg #[I c.po, I c.ca, I c.cb, I c.cc]) u) [.inRegion ops347 [5, 6, 7], .code R89, .inBlock 1, .code R10, .inLoop L34, .inBlock 0] :: cs) = frs at hans ⊢
      clear hC
      have hlow : ∀ b, X.Pr b → b < v1.heap.size := fun b hb => hp1.lt ok hb
      have npb : ¬ X.Pr (v1.heap.size + 1) := fun h => by have := hlow _ h; omega
      have nab : ¬ X.Pr (v2.heap.size + 1) := fun h => by have := hlow _ h; omega
      have hmem2 : Mem z (noted S tv X.i 9 (-1) ii 0) K v2 := (he1.mem.grows hg2).mem
      have ht1 : (noted S tv X.i 9 (-1) ii 0).thr[X.i]? = some t := ht
      by_cases hpo : 1 ≤ c.po ∧ c.po ≤ 6
      · have hfl : flow X.i X.kb.length (c :: rest) ii false ans (nv S) = (waiting (noted (nv S) undef X.i 9 (-1) ii 0) X.i (thrI (nv S) X.i) 1 (opn c.po) (which c.ca X.kb.length), .turn (c :: rest) ii ans) := by
          rw [flow_cons, if_pos hpo]
        rw [hfl, show thrI (nv S) X.i = t from thrI_of ht] at hstop
        have hsees := sees_mind2 (v := v) hp ok npb nab
        have hmid : Mid X c rest ii ans (fun b => b = v1.heap.size + 1 ∨ b = v2.heap.size + 1) (mind2 X v (v1.heap.size + 1) (v2.heap.size + 1)) cs (v1.heap.size + 1) (v2.heap.size + 1) cb _ := ⟨hsees, hd, hce, hcb, hans, rfl, by omega, by unfold mind2; rw [if_pos (.inl rfl)], by unfold mind2; rw [if_pos (.inr rfl)]⟩
        have hnew : ∀ b, (fun b => b = v1.heap.size + 1 ∨ b = v2.heap.size + 1) b → E b ∨ v.heap.size ≤ b := fun b hb => by
          have := he1.fr.size
          rcases hb with rfl | rfl <;> right <;> omega
        by_cases h6 : c.po = 6
        · rw [show opn c.po = 1 by rw [h6]; rfl] at hstop
          rw [h6]
          refine call6_goes (S := noted S tv X.i 9 (-1) ii 0) (K := K) (t := t) c.ca c.cb c.cc _ hoe hvw2 hn2 hmem2 (fun v3 w3 u3 bd3 ad3 od3 qd3 rd3 oe3 kd3 hvw3 hn3 hg3 hb3 hoe3 hC6 => ?_) code hcode
          refine until_loop (h := X.h) (S := noted S tv X.i 9 (-1) ii 0) (K := K) (v := v3) (i := X.i) (j := which c.ca X.kb.length) (t := t) c.cb x u3 _ (Hm (.turn (c :: rest) ii ans) (fun b => b = v1.heap.size + 1 ∨ b = v2.heap.size + 1) (mind2 X v (v1.heap.size + 1) (v2.heap.size + 1))) (fun g hg => hHm _ _ _ _ ⟨cs, _, _, cb, _, hmid, .inr ⟨h6, _, bd3, ad3, od3, qd3, rd3, oe3, kd3, u3, hoe3, hC6, by rw [← htb]; exact hg⟩⟩) hvw3 hn3 (hmem2.grows hg3).mem ht1 hKj (by rw [htb]; exact hz) (by rw [htb, hgc]; exact hcont) (fun g w' hg => ?_)
          refine hstop g w' (fun b => b = v1.heap.size + 1 ∨ b = v2.heap.size + 1) (mind2 X v (v1.heap.size + 1) (v2.heap.size + 1)) ⟨hsees, hnew, atGive_mono (fun hF => ?_) (by rw [hgc] at hg; exact hg)⟩
          obtain ⟨v4, k1, k2, k3⟩ := hF
          have := seat_here (E := E) ok hp hfar he1 hg2 hb2 hs2 hg3 hb3 k3
          exact ⟨v4, _, k1, k2, rfl, this.1, this.2⟩
        · have key : ∀ (ansf : Value → Array Value), (∀ x, ansf (effC c x).2.2 = #[I (ansC c x).1, I (ansC c x).2]) → ∀ g, CallBack (X.h == 0) X.i (which c.ca X.kb.length) cb t.tb (v2.heap.size + 1) (opn c.po) (effC c) ansf (fun r => G (bd.at (ad.put oe.dst r) (.inRegion od rd :: kd)) frs) g →
              Hm (.turn (c :: rest) ii ans) (fun b => b = v1.heap.size + 1 ∨ b = v2.heap.size + 1) (mind2 X v (v1.heap.size + 1) (v2.heap.size + 1)) g := fun ansf ha g hg => hHm _ _ _ _ ⟨cs, _, _, cb, _, hmid, .inl ⟨h6, ansf, ha, by rw [← htb]; exact hg⟩⟩
          have fin : ∀ (o : Int), opn c.po = o → ∀ v3 g w', Grows v2 v3 → v3.heap[v2.heap.size + 1]? = some (.cells #[I 0, I 0] 42 (0, 0)) → GiveT z cont X.h (noted S tv X.i 9 (-1) ii 0).bk t.gc (Hm (.turn (c :: rest) ii ans) (fun b => b = v1.heap.size + 1 ∨ b = v2.heap.size + 1) (mind2 X v (v1.heap.size + 1) (v2.heap.size + 1))) (Then z Ch (noted S tv X.i 9 (-1) ii 0) K v3 (waiting (noted S tv X.i 9 (-1) ii 0) X.i t 1 o (which c.ca X.kb.length)) K) g w' → Stop g w' := fun o ho v3 g w' hg3 hb3 hg => by
            refine hstop g w' (fun b => b = v1.heap.size + 1 ∨ b = v2.heap.size + 1) (mind2 X v (v1.heap.size + 1) (v2.heap.size + 1)) ⟨hsees, hnew, atGive_mono (fun hF => ?_) (by rw [hgc] at hg; exact hg)⟩
            obtain ⟨v4, k1, k2, k3⟩ := hF
            have := seat_here (E := E) ok hp hfar he1 hg2 hb2 hs2 hg3 hb3 k3
            rw [ho]
            exact ⟨v4, _, k1, k2, rfl, this.1, this.2⟩
          have hcases : c.po = 1 ∨ c.po = 2 ∨ c.po = 3 ∨ c.po = 4 ∨ c.po = 5 := by omega
          rcases hcases with e | e | e | e | e
          · have ef : effC c = effLoad := by funext x; simp [effC, e]
            have eo : opn c.po = 1 := by simp [opn, e]
            rw [ef, eo] at key
            rw [e]
            exact call1_goes (h := X.h) (S := noted S tv X.i 9 (-1) ii 0) (K := K) (v := v2) (i := X.i) (j := which c.ca X.kb.length) (t := t) c.ca c.cb c.cc x _ (fun ab2 g => Hm (.turn (c :: rest) ii ans) (fun b => b = v1.heap.size + 1 ∨ b = ab2) (mind2 X v (v1.heap.size + 1) ab2) g) hoe (fun g hg => key _ (fun x => by simp [effLoad, ansC, e]) g hg) hvw2 hn2 hmem2 ht1 hKj (by rw [htb]; exact hz) (by rw [htb, hgc]; exact hcont) (fin 1 eo) code hcode
          · have ef : effC c = effStore c.cb := by funext x; simp [effC, e]
            have eo : opn c.po = 2 := by simp [opn, e]
            rw [ef, eo] at key
            rw [e]
            exact call2_goes (h := X.h) (S := noted S tv X.i 9 (-1) ii 0) (K := K) (v := v2) (i := X.i) (j := which c.ca X.kb.length) (t := t) c.ca c.cb c.cc x _ (fun ab2 g => Hm (.turn (c :: rest) ii ans) (fun b => b = v1.heap.size + 1 ∨ b = ab2) (mind2 X v (v1.heap.size + 1) ab2) g) hoe (fun g hg => key _ (fun x => by simp [effStore, ansC, e]) g hg) hvw2 hn2 hmem2 ht1 hKj (by rw [htb]; exact hz) (by rw [htb, hgc]; exact hcont) (fin 2 eo) code hcode
          · have ef : effC c = effSwap c.cb := by funext x; simp [effC, e]
            have eo : opn c.po = 3 := by simp [opn, e]
            rw [ef, eo] at key
            rw [e]
            exact call3_goes (h := X.h) (S := noted S tv X.i 9 (-1) ii 0) (K := K) (v := v2) (i := X.i) (j := which c.ca X.kb.length) (t := t) c.ca c.cb c.cc x _ (fun ab2 g => Hm (.turn (c :: rest) ii ans) (fun b => b = v1.heap.size + 1 ∨ b = ab2) (mind2 X v (v1.heap.size + 1) ab2) g) hoe (fun g hg => key _ (fun x => by simp [effSwap, ansC, e]) g hg) hvw2 hn2 hmem2 ht1 hKj (by rw [htb]; exact hz) (by rw [htb, hgc]; exact hcont) (fin 3 eo) code hcode
          · have ef : effC c = effCas c.cb c.cc := by funext x; simp [effC, e]
            have eo : opn c.po = 4 := by simp [opn, e]
            rw [ef, eo] at key
            rw [e]
            exact call4_goes (h := X.h) (S := noted S tv X.i 9 (-1) ii 0) (K := K) (v := v2) (i := X.i) (j := which c.ca X.kb.length) (t := t) c.ca c.cb c.cc x _ (fun ab2 g => Hm (.turn (c :: rest) ii ans) (fun b => b = v1.heap.size + 1 ∨ b = ab2) (mind2 X v (v1.heap.size + 1) ab2) g) hoe (fun g hg => key _ (fun x => by by_cases hx : x = c.cb <;> simp [effCas, ansC, ansCas, e, hx]) g hg) hvw2 hn2 hmem2 ht1 hKj (by rw [htb]; exact hz) (by rw [htb, hgc]; exact hcont) (fin 4 eo) code hcode
          · have ef : effC c = effAdd c.cb := by funext x; simp [effC, e]
            have eo : opn c.po = 5 := by simp [opn, e]
            rw [ef, eo] at key
            rw [e]
            exact call5_goes (h := X.h) (S := noted S tv X.i 9 (-1) ii 0) (K := K) (v := v2) (i := X.i) (j := which c.ca X.kb.length) (t := t) c.ca c.cb c.cc x _ (fun ab2 g => Hm (.turn (c :: rest) ii ans) (fun b => b = v1.heap.size + 1 ∨ b = ab2) (mind2 X v (v1.heap.size + 1) ab2) g) hoe (fun g hg => key _ (fun x => by simp [effAdd, ansC, e]) g hg) hvw2 hn2 hmem2 ht1 hKj (by rw [htb]; exact hz) (by rw [htb, hgc]; exact hcont) (fin 5 eo) code hcode
      · have hfl : flow X.i X.kb.length (c :: rest) ii false ans (nv S) = flow X.i X.kb.length rest (ii + 1) false (ans.set ii (1, 0)) (noted (noted (nv S) undef X.i 9 (-1) ii 0) undef X.i 10 (-1) ii 1) := by
          rw [flow_cons, if_neg hpo]
        rw [hfl] at hstop hl
        have hl2 : ((noted S tv X.i 9 (-1) ii 0).n + 1) * 40 ≤ 140737488355328 := Nat.le_trans (Nat.mul_le_mul_right 40 (flow_sta X.i X.kb.length rest (ii + 1) false (ans.set ii (1, 0)) (noted (noted (nv S) undef X.i 9 (-1) ii 0) undef X.i 10 (-1) ii 1)).n) hl
        refine hD z Ch Stop (X.h == 0) v2 w2 cb t.tb c.po c.ca c.cb c.cc _ bd ad od qd rd oe kd hoe hpo hvw2 hn2 (fun v3 w3 hvw3 hn3 hg3 => ?_) code hcode
        have hbig : ∀ b, v1.heap.size ≤ b → ¬ Own (noted S tv X.i 9 (-1) ii 0) K b := fun b hb ho => by have := he1.mem.lt ho; omega
        have g13 : Grows v1 v3 := hg2.trans' hg3
        refine hans z Ch Stop w3 v3 (noted S tv X.i 9 (-1) ii 0) K t 1 0 hvw3 hn3 (hmem2.grows hg3).mem ht1 htb hl2 (by rw [hg3.old _ (by omega), hb2]) (hbig _ (by omega)) npb (hp1.stay (fun b hb => g13.old b (hlow b hb))) (fun b hb => (st1 b hb).2) (fun v4 w4 tv4 u4 hvw4 hn4 he4 hp4 => ?_)
        have ej : EvoP (fun b => b = X.ab ∨ E b) z S K v (noted (noted S tv X.i 9 (-1) ii 0) tv4 X.i 10 (-1) ii 1) K v4 := (Evo.toP he1).grows g13 he4 (fun b hb => by
          rcases hb with rfl | rfl
          · exact .inl (.inl rfl)
          · right; have := he1.fr.size; omega)
        have hfar4 : ∀ b, X.Pr b → ¬ Own (noted (noted S tv X.i 9 (-1) ii 0) tv4 X.i 10 (-1) ii 1) K b := fun b hb ho => by
          rcases he4.new b ho with h1 | h1
          · exact (st1 b hb).2 h1
          · have := hlow b hb; have := g13.size; omega
        exact ih (ii + 1) false (ans.set ii (1, 0)) E _ K v4 w4 t u4 hd' (by omega) hvw4 hn4 he4.mem ht htb hgc hK hp4 hfar4 hl (fun g' w' E' M' hg => hstop g' w' E' M' (hg.join ej rfl (fun b e => .inl e)))
end Go.Proofs.Ytfjjoohflcchnaa
