/- LatchAlone is true of the program at this commit: by one free thread alone, of a latch of no world, Down and Wait answer as a number says that is counted down, whatever the number and the calls; no conditions. Part 20 of 35. (Joined, by program, of: GHome, GDrive1, GDrive2.) -/
import Derived.Test.YtehingmdmijedaaLatchAlone16
import Derived.Test.YtehingmdmijedaaLatchAlone19

/- What is known of a thread that sits: served, it goes on to its next seat, or to its end. -/
set_option linter.unusedSimpArgs false
set_option linter.unusedVariables false
namespace Go.Proofs.Ytehingmdmijedaa.Gen
open Go Go.Lift Go.Conc Go.RowKit
variable {mc : Mc}

/-- The place at which a row begins in its block. -/
def roOf : Option Addr → Nat
  | some a => a.off
  | none => 0
/-- What stays of a thread: its goroutine h, its number i, its row, channel and box, its script, its row of answers, the function that carries its calls out, what of the Play's memory it reads (it stays as it is), the world's cells, the package's calls. -/
structure Fix (mc : Mc) where
  h : Nat
  i : Nat
  tb : Nat
  gc : Nat
  bb : Nat
  calls : List Cl
  pc : Option Addr
  rb : Nat
  cap : Nat
  asl : Value
  ab : Nat
  cap2 : Nat
  aty : TypeId
  fid : FuncId
  caps : Array Value
  pk : Nat → Option Obj
  kb : List Nat
namespace Fix
def csl (X : Fix mc) : Value := .slice X.pc X.calls.length X.cap
abbrev ro (X : Fix mc) : Nat := roOf X.pc
abbrev F (X : Fix mc) : Value := .func (.func X.fid) #[] X.caps
/-- What it reads of its own. -/
abbrev Pr (X : Fix mc) (b : Nat) : Prop := b = X.bb ∨ b = X.rb ∨ b = X.ab ∨ X.pk b ≠ none
structure Ok (X : Fix mc) : Prop where
  h : 0 < X.h
  n : (X.calls.length : Int) < 9223372036854775808
  ca : ∀ c ∈ X.calls, -9223372036854775808 ≤ c.ca ∧ c.ca < 9223372036854775808
  pc : 0 < X.calls.length → X.pc = some ⟨X.rb, X.ro, none⟩
  asl : 0 < X.calls.length → X.asl = .slice (some ⟨X.ab, 0, none⟩) X.calls.length X.cap2
  e0 : X.calls.length = 0 → X.rb = X.bb ∧ X.ab = X.bb
  ne : 0 < X.calls.length → X.ab ≠ X.bb ∧ X.ab ≠ X.rb ∧ X.pk X.ab = none
  pk : ∀ b o, X.pk b = some o → ∃ c e f, o = .cells c e f
end Fix

/-- What a thread has in mind lies there. -/
def Has (M : Nat → Option Obj) (v : World) : Prop := ∀ b o, M b = some o → v.heap[b]? = some o
structure PM (X : Fix mc) (ans : List (Int × Int)) (v : World) : Prop where
  box : v.cell? ⟨X.bb, 0, none⟩ = some (Pt X.tb 0)
  call : ∀ (k : Nat) (c : Cl), X.calls[k]? = some c → v.cell? ⟨X.rb, X.ro + k * 4, none⟩ = some (I c.po) ∧ v.cell? ⟨X.rb, X.ro + k * 4 + 1, none⟩ = some (I c.ca) ∧ v.cell? ⟨X.rb, X.ro + k * 4 + 2, none⟩ = some (I c.cb) ∧ v.cell? ⟨X.rb, X.ro + k * 4 + 3, none⟩ = some (I c.cc)
  row : 0 < X.calls.length → v.heap[X.ab]? = some (.cells (arow ans).toArray X.aty (0, 0))
  len : ans.length = X.calls.length
  pk : Has X.pk v
theorem PM.stay {X : Fix mc} {ans : List (Int × Int)} {v v' : World} (h : PM X ans v) (hs : ∀ b, X.Pr b → v'.heap[b]? = v.heap[b]?) : PM X ans v' := by
  have hc : ∀ (a : Addr) (x : Value), X.Pr a.block → v.cell? a = some x → v'.cell? a = some x := fun a x hb ha => by rw [World.cell?_of_block (hs a.block hb)]; exact ha
  refine ⟨hc _ _ (.inl rfl) h.box, fun k c hk => ?_, fun h0 => by rw [hs X.ab (.inr (.inr (.inl rfl)))]; exact h.row h0, h.len, fun b o hb => by rw [hs b (.inr (.inr (.inr (by rw [hb]; simp))))]; exact h.pk b o hb⟩
  have := h.call k c hk
  exact ⟨hc _ _ (.inr (.inl rfl)) this.1, hc _ _ (.inr (.inl rfl)) this.2.1, hc _ _ (.inr (.inl rfl)) this.2.2.1, hc _ _ (.inr (.inl rfl)) this.2.2.2⟩

/-- What it has in mind tells it all that it reads. -/
structure Sees (X : Fix mc) (E : Nat → Prop) (M : Nat → Option Obj) (ans : List (Int × Int)) : Prop where
  ex : ∀ b, E b → M b ≠ none
  dom : ∀ b, M b ≠ none → X.Pr b ∨ E b
  apart : ∀ b, E b → ¬ X.Pr b
  pm : ∀ v, Has M v → PM X ans v
  pr : ∀ b, X.Pr b → M b ≠ none
  row : ∀ b o, M b = some o → ∃ c e f, o = .cells c e f
/-- The world where it gives the turn back. -/
def Gv (X : Fix mc) (z : Nat → Option Nat) (Ch : Nat → Prop) (S : TS) (K : List (Nat × Int)) (v : World) (E : Nat → Prop) (σ : TS) (κ : List (Nat × Int)) (M' : Nat → Option Obj) (w' : World) : Prop :=
  ∃ v' S', Rel z v' w' ∧ NoRow Ch v' ∧ nv S' = σ ∧ EvoP (fun b => b = X.ab ∨ E b) z S K v S' κ v' ∧ Has M' v' ∧ ∀ b, M' b ≠ none → ¬ Own S' κ b
noncomputable def seatOf (X : Fix mc) (Hm : Ph → (Nat → Prop) → (Nat → Option Obj) → Goroutine → Prop) : Ph → (Nat → Prop) → (Nat → Option Obj) → Option Seat
  | .done _, _, _ => none
  | l, E, M => some (seatT X.gc (Hm l E M))
def Gives (X : Fix mc) (Hm : Ph → (Nat → Prop) → (Nat → Option Obj) → Goroutine → Prop) (z : Nat → Option Nat) (cont : Addr → Value) (Ch : Nat → Prop) (S : TS) (K : List (Nat × Int)) (v : World) (E : Nat → Prop) (σ : TS) (κ : List (Nat × Int)) (l' : Ph) (E' : Nat → Prop) (M' : Nat → Option Obj) (g' : Goroutine) (w' : World) : Prop :=
  Sees X E' M' l'.ans ∧ (∀ b, E' b → E b ∨ v.heap.size ≤ b) ∧ Lift.AtGive Try.prog (KC (ScZ z) cont) (StillC (ScZ z)) X.h S.bk (.agg #[]) (seatOf X Hm l' E' M') (Gv X z Ch S K v E σ κ M') g' w'
def Fits (X : Fix mc) : Ph → Thr → Prop
  | .turn op j _ _ _ _, t => t.op = op ∧ t.ce = j
  | _, _ => True
/-- Served, it goes on; this holds n times. -/
def Home (X : Fix mc) : Nat → Ph → (Nat → Prop) → (Nat → Option Obj) → Goroutine → Prop
  | 0, _, _, _, _ => True
  | n + 1, l, E, M, g => ∀ (z : Nat → Option Nat) (Ch : Nat → Prop) (Stop : Goroutine → World → Prop) (cont : Addr → Value) (y : Value) (w v : World) (S : TS) (K : List (Nat × Int)) (t : Thr), Rel z v w → NoRow Ch v → Mem z S K v → S.thr[X.i]? = some t → t.tb = X.tb → t.gc = X.gc → Fits X l t → K.map (·.1) = X.kb → z X.tb = some 2 → cont ⟨X.tb, 2, none⟩ = .chan (some X.gc) →
      Has M v → (∀ b, M b ≠ none → ¬ Own S K b) → (resume X.i mc l (nv S) K).1.n * 40 ≤ 140737488355328 →
      (∀ g' w' E' M', Gives X (Home X n) z cont Ch S K v E (resume X.i mc l (nv S) K).1 (resume X.i mc l (nv S) K).2.1 (resume X.i mc l (nv S) K).2.2 E' M' g' w' → Stop g' w') →
      GoesI Try.prog (X.h == 0) (DT (ScZ z) Ch) Stop (Go.Conc.served g y) w

theorem atGive_mono {K : World → Prop} {Still : Loc → Prop} {h c : Nat} {v : Value} {o : Option Seat} {F F' : World → Prop} {a : Goroutine} {w : World} (hF : F w → F' w) (hg : Lift.AtGive Try.prog K Still h c v o F a w) : Lift.AtGive Try.prog K Still h c v o F' a w :=
  ⟨hg.1, hF hg.2.1, hg.2.2⟩

section
variable {Pr Pr' : Nat → Prop} {z : Nat → Option Nat} {S S' S'' : TS} {K K' K'' : List (Nat × Int)} {v v' v'' : World}
/-- Stretches add up, what is new counting as one's own. -/
theorem _root_.Go.Proofs.Ytehingmdmijedaa.EvoP.join (h : EvoP Pr z S K v S' K' v') (k : EvoP Pr' z S' K' v' S'' K'' v'') (hp : ∀ b, Pr' b → Pr b ∨ v.heap.size ≤ b) : EvoP Pr z S K v S'' K'' v'' := by
  refine ⟨k.mem, k.blks.trans h.blks, ⟨k.fr.os.trans h.fr.os, k.fr.output.trans h.fr.output, Nat.le_trans h.fr.size k.fr.size, fun x hx hs => ?_⟩, fun b hb => ?_⟩
  · rw [k.fr.block x (Nat.lt_of_lt_of_le hx h.fr.size) (fun hi => ?_), h.fr.block x hx hs]
    rcases hi with hi | hi
    · exact (h.new x hi).elim (fun h => hs (.inl h)) (fun hle => by omega)
    · exact (hp x hi).elim (fun h => hs (.inr h)) (fun hle => by omega)
  · rcases k.new b hb with h1 | h1
    · exact h.new b h1
    · exact .inr (Nat.le_trans h.fr.size h1)
theorem _root_.Go.Proofs.Ytehingmdmijedaa.EvoP.grows (h : EvoP Pr z S K v S' K' v') {u : World} (g : Grows v' u) (k : EvoP Pr' z S' K' u S'' K'' v'') (hp : ∀ b, Pr' b → Pr b ∨ v.heap.size ≤ b) : EvoP Pr z S K v S'' K'' v'' := by
  refine ⟨k.mem, k.blks.trans h.blks, ⟨(k.fr.os.trans g.os).trans h.fr.os, (k.fr.output.trans g.output).trans h.fr.output, Nat.le_trans h.fr.size (Nat.le_trans g.size k.fr.size), fun x hx hs => ?_⟩, fun b hb => ?_⟩
  · have hx' := Nat.lt_of_lt_of_le hx h.fr.size
    rw [k.fr.block x (Nat.lt_of_lt_of_le hx' g.size) (fun hi => ?_), g.old x hx', h.fr.block x hx hs]
    rcases hi with hi | hi
    · exact (h.new x hi).elim (fun h => hs (.inl h)) (fun hle => by omega)
    · exact (hp x hi).elim (fun h => hs (.inr h)) (fun hle => by omega)
  · rcases k.new b hb with h1 | h1
    · exact h.new b h1
    · exact .inr (Nat.le_trans h.fr.size (Nat.le_trans g.size h1))
theorem _root_.Go.Proofs.Ytehingmdmijedaa.EvoP.keeps (h : EvoP Pr z S K v S' K' v') {b : Nat} (hb : b < v.heap.size) (ho : ¬ Own S K b) (hp : ¬ Pr b) : v'.heap[b]? = v.heap[b]? ∧ ¬ Own S' K' b :=
  ⟨h.fr.block b hb (fun hi => hi.elim ho hp), fun hi => (h.new b hi).elim ho (fun hle => by omega)⟩
theorem _root_.Go.Proofs.Ytehingmdmijedaa.Grows.trans' {a b c : World} (h : Grows a b) (k : Grows b c) : Grows a c := ⟨Nat.le_trans h.size k.size, fun x hx => by rw [k.old x (Nat.lt_of_lt_of_le hx h.size), h.old x hx], k.os.trans h.os, k.output.trans h.output⟩
theorem Gives.join {X : Fix mc} {Hm : Ph → (Nat → Prop) → (Nat → Option Obj) → Goroutine → Prop} {cont : Addr → Value} {Ch : Nat → Prop} {E E1 E' : Nat → Prop} {M' : Nat → Option Obj} {σ : TS} {κ : List (Nat × Int)} {l' : Ph} {g' : Goroutine} {w' : World}
    (h : EvoP (fun b => b = X.ab ∨ E b) z S K v S' K' v') (hbk : S'.bk = S.bk) (he : ∀ b, E1 b → E b ∨ v.heap.size ≤ b) (k : Gives X Hm z cont Ch S' K' v' E1 σ κ l' E' M' g' w') : Gives X Hm z cont Ch S K v E σ κ l' E' M' g' w' := by
  obtain ⟨k1, k2, k3⟩ := k
  rw [hbk] at k3
  refine ⟨k1, fun b hb => ?_, atGive_mono (fun hF => ?_) k3⟩
  · rcases k2 b hb with h1 | h1
    · exact he b h1
    · exact .inr (Nat.le_trans h.fr.size h1)
  · obtain ⟨v2, S2, q1, q2, q3, q4, q5⟩ := hF
    refine ⟨v2, S2, q1, q2, q3, h.join q4 (fun b hb => ?_), q5⟩
    rcases hb with rfl | hb
    · exact .inl (.inl rfl)
    · exact (he b hb).imp .inr id
end

/-- What a world holds of what it reads. -/
def mind (X : Fix mc) (v : World) (b : Nat) : Option Obj := if X.Pr b then v.heap[b]? else none
/-- .. and what a call that is under way has for its own. -/
def mindO (X : Fix mc) (v : World) (Mo : Nat → Option Obj) (b : Nat) : Option Obj := if Mo b ≠ none then Mo b else mind X v b

/-- A script's last word: behind its last call the thread ends. -/
def CarryEnds (X : Fix mc) (cs : List Frame) : Prop :=
  ∀ (z : Nat → Option Nat) (Ch : Nat → Prop) (Stop : Goroutine → World → Prop) (cont : Addr → Value) (w v : World) (S : TS) (K : List (Nat × Int)) (t : Thr) (sk : Bool) (u : Nat → Value), Rel z v w → NoRow Ch v → Mem z S K v → S.thr[X.i]? = some t → t.tb = X.tb → v.cell? ⟨X.bb, 0, none⟩ = some (Pt X.tb 0) → ¬ Own S K X.bb →
    (∀ g w', GiveE z cont X.h S.bk (Then z Ch S K v (ended S X.i t) K) g w' → Stop g w') →
    GoesI Try.prog (X.h == 0) (DT (ScZ z) Ch) Stop (G (cFr X.tb X.csl X.F X.asl X.calls.length X.calls.length sk u) cs) w
/-- A call has its answer: it is noted and written down. -/
def Answers (X : Fix mc) (cs : List Frame) (ii : Nat) (ans : List (Int × Int)) (cu : Value → Goroutine) : Prop :=
  ∀ (z : Nat → Option Nat) (Ch : Nat → Prop) (Stop : Goroutine → World → Prop) (w v : World) (S : TS) (K : List (Nat × Int)) (t : Thr) (e x : Int), Rel z v w → NoRow Ch v → Mem z S K v → S.thr[X.i]? = some t → t.tb = X.tb → (S.n + 1) * 40 ≤ 140737488355328 → PM X ans v → (∀ b, X.Pr b → ¬ Own S K b) →
    (∀ v' w' tv u', Rel z v' w' → NoRow Ch v' → EvoP (fun b => b = X.ab) z S K v (noted S tv X.i 10 (-1) ii e) K v' → PM X (ans.set ii (e, x)) v' → GoesI Try.prog (X.h == 0) (DT (ScZ z) Ch) Stop (G (cFr X.tb X.csl X.F X.asl X.calls.length (ii + 1) (e == 4) u') cs) w') →
    GoesI Try.prog (X.h == 0) (DT (ScZ z) Ch) Stop (cu (.agg #[I e, I x])) w

section
variable {X : Fix mc} {ans : List (Int × Int)} {v v' : World}
theorem row_of_cell {a : Addr} {x : Value} (h : v.cell? a = some x) : ∃ c e f, v.heap[a.block]? = some (.cells c e f) := by
  unfold World.cell? at h
  cases hh : v.heap[a.block]? with
  | none => rw [hh] at h; cases h
  | some o =>
    rw [hh] at h
    cases o with
    | cells c e f => exact ⟨c, e, f, rfl⟩
    | _ => cases h
theorem PM.isrow (h : PM X ans v) (ok : X.Ok) {b : Nat} (hb : X.Pr b) : ∃ c e f, v.heap[b]? = some (.cells c e f) := by
  have hbb := row_of_cell h.box
  rcases hb with rfl | rfl | rfl | hb
  · exact hbb
  · by_cases hc : X.calls.length = 0
    · rw [(ok.e0 hc).1]; exact hbb
    · have h0 : 0 < X.calls.length := by omega
      exact row_of_cell (h.call 0 (X.calls[0]) (by simp [h0])).1
  · by_cases hc : X.calls.length = 0
    · rw [(ok.e0 hc).2]; exact hbb
    · exact ⟨_, _, _, h.row (by omega)⟩
  · obtain ⟨o, ho⟩ := Option.ne_none_iff_exists'.1 hb
    obtain ⟨c, e, f, rfl⟩ := ok.pk b o ho
    exact ⟨c, e, f, h.pk b _ ho⟩
theorem PM.lt (h : PM X ans v) (ok : X.Ok) {b : Nat} (hb : X.Pr b) : b < v.heap.size := by
  obtain ⟨c, e, f, hh⟩ := h.isrow ok hb
  exact (Array.getElem?_eq_some_iff.1 hh).1
theorem mind_row (h : PM X ans v) (ok : X.Ok) {b : Nat} {o : Obj} (hb : mind X v b = some o) : ∃ c e f, o = .cells c e f := by
  unfold mind at hb
  split at hb
  · rename_i hp
    obtain ⟨c, e, f, hh⟩ := h.isrow ok hp
    rw [hh] at hb
    cases hb
    exact ⟨c, e, f, rfl⟩
  · cases hb
theorem PM.set (h : PM X ans v) {ii : Nat} (hi : ii < X.calls.length) (e x : Int) (hab : v'.heap[X.ab]? = ((v.setCell ⟨X.ab, ii * 2, none⟩ (I e)).setCell ⟨X.ab, ii * 2 + 1, none⟩ (I x)).heap[X.ab]?) (hs : ∀ b, X.Pr b → b ≠ X.ab → v'.heap[b]? = v.heap[b]?) (hne : X.ab ≠ X.bb ∧ X.ab ≠ X.rb ∧ X.pk X.ab = none) : PM X (ans.set ii (e, x)) v' := by
  have h0 : 0 < X.calls.length := by omega
  have hc : ∀ (a : Addr) (y : Value), X.Pr a.block → a.block ≠ X.ab → v.cell? a = some y → v'.cell? a = some y := fun a y hb hn ha => by rw [World.cell?_of_block (hs a.block hb hn)]; exact ha
  refine ⟨hc _ _ (.inl rfl) (Ne.symm hne.1) h.box, fun k c hk => ?_, fun _ => ?_, by simpa using h.len, fun b o hb => by rw [hs b (.inr (.inr (.inr (by rw [hb]; simp)))) (fun e => by rw [e, hne.2.2] at hb; cases hb)]; exact h.pk b o hb⟩
  · have := h.call k c hk
    exact ⟨hc _ _ (.inr (.inl rfl)) (Ne.symm hne.2.1) this.1, hc _ _ (.inr (.inl rfl)) (Ne.symm hne.2.1) this.2.1, hc _ _ (.inr (.inl rfl)) (Ne.symm hne.2.1) this.2.2.1, hc _ _ (.inr (.inl rfl)) (Ne.symm hne.2.1) this.2.2.2⟩
  · rw [hab, heap_setCell_same (heap_setCell_same (h.row h0) (I e)) (I x), arow_set _ _ _ _ (by rw [h.len]; exact hi)]
    simp
theorem PM.cells (h : PM X ans v) {ii : Nat} (hi : ii < X.calls.length) : ∃ y0 y1, v.cell? ⟨X.ab, ii * 2, none⟩ = some (I y0) ∧ v.cell? ⟨X.ab, ii * 2 + 1, none⟩ = some (I y1) ∧ v.frozen? ⟨X.ab, ii * 2, none⟩ = false ∧ v.frozen? ⟨X.ab, ii * 2 + 1, none⟩ = false := by
  have h0 := h.row (by omega)
  have hl : ii < ans.length := by rw [h.len]; exact hi
  have := arow_get ans ii ans[ii] (by simp [hl])
  refine ⟨ans[ii].1, ans[ii].2, ?_, ?_, ?_, ?_⟩
  · simp [World.cell?, h0, this.1]
  · simp [World.cell?, h0, this.2]
  · simp [World.frozen?, h0]
  · simp [World.frozen?, h0]
theorem has_mind (hl : ∀ b, X.Pr b → b < v.heap.size) {M : Nat → Option Obj} (hM : ∀ b o, mind X v b = some o → M b = some o) (h : Has M v') : ∀ b, X.Pr b → v'.heap[b]? = v.heap[b]? := fun b hb => by
  have e : v.heap[b]? = some v.heap[b]! := by simp [hl b hb]
  rw [e]
  exact h b _ (hM b _ (by unfold mind; rw [if_pos hb, e]))
theorem sees_mind (h : PM X ans v) (ok : X.Ok) : Sees X (fun _ => False) (mind X v) ans := by
  refine ⟨fun _ h => h.elim, fun b hb => ?_, fun _ h => h.elim, fun v' hM => h.stay (has_mind (fun b hb => h.lt ok hb) (fun _ _ h => h) hM), fun b hb => ?_, fun b o hb => mind_row h ok hb⟩
  · unfold mind at hb
    split at hb
    · exact .inl ‹_›
    · exact absurd rfl hb
  · unfold mind
    rw [if_pos hb]
    simp [h.lt ok hb]
theorem sees_mindO (h : PM X ans v) (ok : X.Ok) {Mo : Nat → Option Obj} (h1 : ∀ b, Mo b ≠ none → ¬ X.Pr b) (h2 : ∀ b o, Mo b = some o → ∃ c e f, o = .cells c e f) : Sees X (fun b => Mo b ≠ none) (mindO X v Mo) ans := by
  refine ⟨fun b hb => ?_, fun b hb => ?_, fun b hb hp => h1 b hb hp, fun v' hM => h.stay (has_mind (fun b hb => h.lt ok hb) (fun b o hb => ?_) hM), fun b hb => ?_, fun b o hb => ?_⟩
  · unfold mindO; rw [if_pos hb]; exact hb
  · unfold mindO at hb
    split at hb
    · exact .inr ‹_›
    · unfold mind at hb
      split at hb
      · exact .inl ‹_›
      · exact absurd rfl hb
  · unfold mindO
    have hpr : X.Pr b := by
      unfold mind at hb
      split at hb
      · assumption
      · cases hb
    rw [if_neg (fun e => h1 b e hpr)]
    exact hb
  · unfold mindO mind
    rw [if_neg (fun e => h1 b e hb), if_pos hb]
    simp [h.lt ok hb]
  · unfold mindO at hb
    split at hb
    · exact h2 b o hb
    · exact mind_row h ok hb
end
end Go.Proofs.Ytehingmdmijedaa.Gen

/- The run of a cell's Play as a function of its state; and what a channel that turns leaves as it is. -/
set_option linter.unusedSimpArgs false
set_option linter.unusedVariables false
namespace Go.Proofs.Ytehingmdmijedaa.Gen
open Go Go.Lift Go.Conc Go.RowKit
open Go.ConcN (upd upd_same upd_ne)
variable {mc : Mc}

/-- A thread's row tells where it sits. -/
def FitsN : Ph → Thr → Prop
  | .turn op j _ _ _ _, t => t.op = op ∧ t.ce = j
  | .wait _ _ _ _ _, _ => True
  | .done _, t => t.st = 3
theorem FitsN.fits {X : Fix mc} {l : Ph} {t : Thr} (h : FitsN l t) : Fits X l t := by
  match l, h with
  | .turn _ _ _ _ _ _, h => exact h
  | .wait _ _ _ _ _, _ => trivial
  | .done _, _ => trivial
/-- .. and how it waits. -/
def StN : Ph → Thr → Prop
  | .turn _ _ _ _ _ _, t => t.st = 1
  | .wait _ _ _ _ _, t => t.st = 2
  | .done _, t => t.st = 3
theorem set_get {S : TS} {i : Nat} {t t' : Thr} (ht : S.thr[i]? = some t) : (S.thr.set i t')[i]? = some t' := by
  have hi : i < S.thr.length := (List.getElem?_eq_some_iff.1 ht).1
  rw [List.getElem?_set, if_pos rfl, if_pos hi]
theorem did_thr {S : TS} {i : Nat} {tv : Value} {t t0 : Thr} {b a : Int} (ht : S.thr[i]? = some t0) : (didS S tv i t b a).thr[i]? = some t0 := by
  unfold didS
  split <;> exact ht
theorem flow_fs (i : Nat) (m : Mc) : ∀ (rest : List Cl) (ii : Nat) (sk : Bool) (ans : List (Int × Int)) (S : TS) (t : Thr), S.thr[i]? = some t → ∃ t', (flow i m rest ii sk ans S).1.thr[i]? = some t' ∧ FitsN (flow i m rest ii sk ans S).2 t' ∧ StN (flow i m rest ii sk ans S).2 t'
  | [], ii, sk, ans, S, t, ht => ⟨{ thrI S i with st := 3 }, set_get ht, rfl, rfl⟩
  | c :: rest, ii, true, ans, S, t, ht => flow_fs i m rest (ii + 1) true _ S t ht
  | c :: rest, ii, false, ans, S, t, ht => by
    unfold flow
    split
    · exact flow_fs i m rest (ii + 1) _ _ _ t ht
    · exact ⟨_, set_get (S := noted S undef i 9 (-1) ii 0) ht, ⟨rfl, rfl⟩, rfl⟩
    · split
      · exact flow_fs i m rest (ii + 1) _ _ _ t ht
      · exact ⟨_, set_get (S := noted S undef i 9 (-1) ii 0) ht, trivial, rfl⟩
theorem on_fs (i : Nat) (m : Mc) (rest : List Cl) (ii : Nat) (ans : List (Int × Int)) (S : TS) (K : List (Nat × Int)) (x : Nx) (t : Thr) (ht : S.thr[i]? = some t) : ∃ t', (on i m rest ii ans S K x).1.thr[i]? = some t' ∧ FitsN (on i m rest ii ans S K x).2.2 t' ∧ StN (on i m rest ii ans S K x).2.2 t' := by
  cases x with
  | ans e x => exact flow_fs i m rest (ii + 1) _ _ (noted S undef i 10 (-1) ii e) t ht
  | turn op j q => exact ⟨_, set_get ht, ⟨rfl, rfl⟩, rfl⟩
  | wait j q =>
    rw [on_wait]
    split
    · exact flow_fs i m rest (ii + 1) _ _ (noted S undef i 10 (-1) ii _) t ht
    · exact ⟨_, set_get ht, trivial, rfl⟩
theorem resume_fs (i : Nat) (m : Mc) (S : TS) (K : List (Nat × Int)) (t : Thr) (ht : S.thr[i]? = some t) (l : Ph) (hl : ∀ a, l ≠ .done a) : ∃ t', (resume i m l S K).1.thr[i]? = some t' ∧ FitsN (resume i m l S K).2.2 t' ∧ StN (resume i m l S K).2.2 t' := by
  match l, hl with
  | .turn op j q rest ii ans, _ => rw [resume_turn]; exact on_fs _ _ _ _ _ _ _ _ t (did_thr ht)
  | .wait j q rest ii ans, _ =>
    rw [resume_wait]
    split
    · exact flow_fs i m rest (ii + 1) _ _ (noted S undef i 10 (-1) ii _) t ht
    · exact on_fs _ _ _ _ _ _ _ _ t ht
  | .done a, hl => exact absurd rfl (hl a)

/-- The run's state: the world, its cells, where the threads sit. -/
structure PSt where
  S : TS
  K : List (Nat × Int)
  l : Nat → Ph
/-- Who goes next. -/
def nextI (S : TS) : Nat := ((rdyIds S S.thr.length)[pickAt S (rdyIds S S.thr.length)]?).getD 0
/-- A turn; none: all have ended. -/
def pturn (nk : Mc) (p : PSt) : Option PSt :=
  if rdyIds p.S p.S.thr.length = [] then
    if waits2 p.S p.S.thr.length then some ⟨stuckS p.S undef, p.K, p.l⟩ else none
  else
    some ⟨(resume (nextI p.S) nk (p.l (nextI p.S)) (going p.S (nextI p.S) (thrI p.S (nextI p.S))) p.K).1, (resume (nextI p.S) nk (p.l (nextI p.S)) (going p.S (nextI p.S) (thrI p.S (nextI p.S))) p.K).2.1, upd p.l (nextI p.S) (resume (nextI p.S) nk (p.l (nextI p.S)) (going p.S (nextI p.S) (thrI p.S (nextI p.S))) p.K).2.2⟩

section
variable {z : Nat → Option Nat} {Ch : Nat → Prop} {cont : Addr → Value} {v w : World} {c : Nat}
theorem kc_chan (hz : z c = none) (h : KC (ScZ z) cont w) (cap : Nat) (buf : Array Value) (cl : Bool) (a b : Nat) (tm : Bool) : KC (ScZ z) cont (w.setChan c cap buf cl a b tm) := fun x hx => by
  have hne : c ≠ x.block := fun e => by rw [e, hx.2] at hz; cases hz
  rw [World.cell?_of_block (heap_setChan_ne w cap buf cl a b tm hne)]
  exact h x hx
theorem rel_chan (hr : Rel z v w) (hz : z c = none) (cap : Nat) (buf : Array Value) (cl : Bool) (a b : Nat) (tm : Bool) (d : Nat) : Rel z (v.setChan c cap buf cl a b tm) ((w.at d).setChan c cap buf cl a b tm) := by
  refine ⟨fun r => ?_, fun r n x e f hzr hh => ?_, fun r n hzr => by simpa [World.setChan] using hr.low r n hzr, hr.os, hr.output⟩
  · by_cases e : c = r
    · subst e
      rw [hz]
      have hs := hr.size
      by_cases hlt : c < v.heap.size
      · have hlw : c < (w.at d).heap.size := by show c < w.heap.size; omega
        rw [heap_setChan_self (w.at d) (Array.getElem?_eq_getElem hlw), heap_setChan_self v (Array.getElem?_eq_getElem hlt)]
        rfl
      · have : ¬ c < w.heap.size := by omega
        simp [World.setChan, World.at, hlt, this]
    · rw [heap_setChan_ne _ _ _ _ _ _ _ e, heap_setChan_ne _ _ _ _ _ _ _ e]
      exact hr.heap r
  · have hne : c ≠ r := fun e => by rw [e, hzr] at hz; cases hz
    rw [heap_setChan_ne _ _ _ _ _ _ _ hne] at hh
    exact hr.kept r n x e f hzr hh
theorem noRow_chan (hn : NoRow Ch v) (hc : ∃ o, v.heap[c]? = some o) (cap : Nat) (buf : Array Value) (cl : Bool) (a b : Nat) (tm : Bool) : NoRow Ch (v.setChan c cap buf cl a b tm) := fun x hx => by
  by_cases e : c = x
  · subst e
    obtain ⟨o, ho⟩ := hc
    exact ⟨_, heap_setChan_self v ho cap buf cl a b tm, fun _ _ _ h => by cases h⟩
  · rw [heap_setChan_ne _ _ _ _ _ _ _ e]
    exact hn x hx
theorem has_chan {M : Nat → Option Obj} (h : Has M v) (hrow : ∀ b o, M b = some o → ∃ x e f, o = .cells x e f) (hc : ∃ o, v.heap[c]? = some o ∧ ∀ x e f, o ≠ .cells x e f) (cap : Nat) (buf : Array Value) (cl : Bool) (a b : Nat) (tm : Bool) : Has M (v.setChan c cap buf cl a b tm) := fun y o ho => by
  have hne : c ≠ y := fun e => by
    subst e
    obtain ⟨x, e, f, rfl⟩ := hrow _ o ho
    obtain ⟨o', h1, h2⟩ := hc
    rw [h _ _ ho] at h1
    cases h1
    exact h2 _ _ _ rfl
  rw [heap_setChan_ne _ _ _ _ _ _ _ hne]
  exact h y o ho
end
end Go.Proofs.Ytehingmdmijedaa.Gen

/- The crew of a cell's Play: what is known of all threads together, while somebody holds the turn. -/
set_option linter.unusedSimpArgs false
set_option linter.unusedVariables false
namespace Go.Proofs.Ytehingmdmijedaa.Gen
open Go Go.Lift Go.Conc Go.RowKit
open Go.ConcN (upd upd_same upd_ne)
variable {mc : Mc}

section
variable {Wr : Nat → Prop} {z : Nat → Option Nat} {S S' : TS} {K K' : List (Nat × Int)} {v v' : World}
/-- The world's blocks are rows. -/
theorem _root_.Go.Proofs.Ytehingmdmijedaa.Mem.row (h : Mem z S K v) {b : Nat} (hb : Own S K b) : ∃ c e f, v.heap[b]? = some (.cells c e f) := by
  have own : ∀ {base : Nat} {e : TypeId} {size : Nat} {x : Value} {n : Nat} {xs : List Value}, v.ownsRow base e size x n xs → x.ownBlock = some b → ∃ c e f, v.heap[b]? = some (.cells c e f) := fun {base e size x n xs} ho hx => by
    rcases ho.2 with ⟨rfl, _⟩ | ⟨g, cap, cur, rfl, _, h3, _⟩
    · cases hx
    · cases Option.some.inj hx
      exact ⟨_, _, _, h3⟩
  rcases hb with ⟨k, hk⟩ | ⟨j, c, hc, rfl⟩
  · match k, hk with
    | 0, hk => cases hk; exact ⟨_, _, _, h.rep.wor⟩
    | 1, hk => exact own h.rep.chg hk
    | 2, hk => exact own h.rep.ths hk
    | 3, hk => exact own h.rep.own hk
    | 4, hk => exact own h.rep.sch hk
    | k + 5, hk =>
      simp only [blk, Option.map_eq_some_iff] at hk
      obtain ⟨t, ht, rfl⟩ := hk
      exact ⟨_, _, _, h.rep.thr k t ht⟩
  · exact ⟨_, _, _, h.cel j c hc⟩
theorem keepM (he : EvoP Wr z S K v S' K' v') {M : Nat → Option Obj} (hM : Has M v) (hfar : ∀ b, M b ≠ none → ¬ Own S K b) (hd : ∀ b, M b ≠ none → ¬ Wr b) : Has M v' ∧ ∀ b, M b ≠ none → ¬ Own S' K' b := by
  have k : ∀ b o, M b = some o → v'.heap[b]? = v.heap[b]? ∧ ¬ Own S' K' b := fun b o hb => he.keeps (Array.getElem?_eq_some_iff.1 (hM b o hb)).1 (hfar b (by rw [hb]; simp)) (hd b (by rw [hb]; simp))
  refine ⟨fun b o hb => by rw [(k b o hb).1]; exact hM b o hb, fun b hb => ?_⟩
  obtain ⟨o, ho⟩ := Option.ne_none_iff_exists'.1 hb
  exact (k b o ho).2
theorem Has.lt {M : Nat → Option Obj} (hM : Has M v) {b : Nat} (hb : M b ≠ none) : b < v.heap.size := by
  obtain ⟨o, ho⟩ := Option.ne_none_iff_exists'.1 hb
  exact (Array.getElem?_eq_some_iff.1 (hM b o ho)).1
end

/-- What main has in mind: blocks, and what was said to the outside. -/
structure Keep where
  M : Nat → Option Obj
  os : Os
  out : Array (Nat × ByteArray)
theorem has_ne {v : World} {M : Nat → Option Obj} {c : Nat} (h : Has M v) (hne : ∀ b, M b ≠ none → b ≠ c) (cap : Nat) (buf : Array Value) (cl : Bool) (a b : Nat) (tm : Bool) : Has M (v.setChan c cap buf cl a b tm) := fun y o ho => by
  rw [heap_setChan_ne _ _ _ _ _ _ _ (fun e => hne y (by rw [ho]; simp) e.symm)]
  exact h y o ho
def Open (v : World) (c : Nat) : Prop := ∃ cap n, v.heap[c]? = some (.chan cap #[] false n n false)
structure Crew (k : Nat) (X : Nat → Fix mc) (l : Nat → Ph) (E : Nat → Nat → Prop) (M : Nat → Nat → Option Obj) (Mm : Keep) (z : Nat → Option Nat) (cont : Addr → Value) (Ch : Nat → Prop) (S : TS) (K : List (Nat × Int)) (v : World) (gsz : Nat) : Prop where
  len : k ≤ S.thr.length
  ok : ∀ i, i < k → (X i).Ok ∧ (X i).i = i ∧ K.map (·.1) = (X i).kb
  thr : ∀ i, i < k → ∃ t, S.thr[i]? = some t ∧ t.tb = (X i).tb ∧ t.gc = (X i).gc ∧ FitsN (l i) t
  hinj : ∀ i j, i < k → j < k → (X i).h = (X j).h → i = j
  ginj : ∀ i j, i < k → j < k → (X i).gc = (X j).gc → i = j
  gbk : ∀ i, i < k → (X i).gc ≠ S.bk
  hlt : ∀ i, i < k → (X i).h < gsz
  zs : ∀ i, i < k → z (X i).tb = some 2 ∧ cont ⟨(X i).tb, 2, none⟩ = .chan (some (X i).gc) ∧ Ch (X i).gc
  z0 : z S.wb = some 8 ∧ cont ⟨S.wb, 8, none⟩ = .chan (some S.bk) ∧ Ch S.bk
  zc : ∀ c, Ch c → z c = none
  opn : ∀ c, Ch c → Open v c
  sees : ∀ i, i < k → Sees (X i) (E i) (M i) (l i).ans ∧ Has (M i) v ∧ ∀ b, M i b ≠ none → ¬ Own S K b
  apart : ∀ i j, i < k → j < k → i ≠ j → ∀ b, M j b ≠ none → ¬ (b = (X i).ab ∨ E i b)
  mine : Has Mm.M v ∧ (∀ b, Mm.M b ≠ none → ¬ Own S K b) ∧ (∀ b, Mm.M b ≠ none → ¬ Ch b) ∧ (∀ i, i < k → ∀ b, Mm.M b ≠ none → ¬ (b = (X i).ab ∨ E i b)) ∧ v.os = Mm.os ∧ v.output = Mm.out

section
variable {k : Nat} {X : Nat → Fix mc} {l : Nat → Ph} {E : Nat → Nat → Prop} {M : Nat → Nat → Option Obj} {Mm : Keep} {z : Nat → Option Nat} {cont : Addr → Value} {Ch : Nat → Prop} {S S' : TS} {K K' : List (Nat × Int)} {v v' : World} {gsz : Nat}
theorem Crew.noRow (h : Crew k X l E M Mm z cont Ch S K v gsz) : NoRow Ch v := fun c hc => by
  obtain ⟨cap, n, hh⟩ := h.opn c hc
  exact ⟨_, hh, fun _ _ _ e => by cases e⟩
theorem Crew.abM (h : Crew k X l E M Mm z cont Ch S K v gsz) {i : Nat} (hi : i < k) {b : Nat} (hb : b = (X i).ab ∨ E i b) : M i b ≠ none := by
  rcases hb with rfl | hb
  · exact (h.sees i hi).1.pr _ (.inr (.inr (.inl rfl)))
  · exact (h.sees i hi).1.ex _ hb
theorem open_stay {Wr : Nat → Prop} (hm : Mem z S K v) (he : EvoP Wr z S K v S' K' v') {c : Nat} (ho : Open v c) (hw : ∀ b, Wr b → ∃ x e f, v.heap[b]? = some (.cells x e f)) : Open v' c := by
  obtain ⟨cap, n, hh⟩ := ho
  refine ⟨cap, n, ?_⟩
  rw [(he.keeps (b := c) (Array.getElem?_eq_some_iff.1 hh).1 (fun h => ?_) (fun h => ?_)).1, hh]
  · obtain ⟨x, e, f, h1⟩ := hm.row h
    rw [hh] at h1; cases h1
  · obtain ⟨x, e, f, h1⟩ := hw c h
    rw [hh] at h1; cases h1

/-- A channel has turned. -/
theorem Crew.chan (h : Crew k X l E M Mm z cont Ch S K v gsz) {c : Nat} (hc : Ch c) (cap n : Nat) : Crew k X l E M Mm z cont Ch S K (v.setChan c cap #[] false n n false) gsz := by
  obtain ⟨o, ho, hno⟩ := h.noRow c hc
  refine ⟨h.len, h.ok, h.thr, h.hinj, h.ginj, h.gbk, h.hlt, h.zs, h.z0, h.zc, fun c' hc' => ?_, fun i hi => ?_, h.apart, ?_⟩
  · by_cases e : c = c'
    · subst e
      exact ⟨cap, n, heap_setChan_self v ho cap #[] false n n false⟩
    · obtain ⟨cp, m, hh⟩ := h.opn c' hc'
      exact ⟨cp, m, by rw [heap_setChan_ne _ _ _ _ _ _ _ e]; exact hh⟩
  · have := h.sees i hi
    exact ⟨this.1, has_chan this.2.1 this.1.row ⟨o, ho, hno⟩ cap #[] false n n false, this.2.2⟩
  · exact ⟨has_ne h.mine.1 (fun b hb e => h.mine.2.2.1 b hb (e ▸ hc)) cap #[] false n n false, h.mine.2⟩

/-- Main has gone a stretch. -/
theorem Crew.main (h : Crew k X l E M Mm z cont Ch S K v gsz) (hm : Mem z S K v) (he : Evo z S K v S' K v') (hwb : S'.wb = S.wb) (hbk : S'.bk = S.bk) (hlen : S'.thr.length = S.thr.length)
    (ht : ∀ (i : Nat) (t : Thr), S.thr[i]? = some t → ∃ t' : Thr, S'.thr[i]? = some t' ∧ t'.tb = t.tb ∧ t'.gc = t.gc ∧ t'.op = t.op ∧ t'.ce = t.ce ∧ (t.st = 3 → t'.st = 3)) : Crew k X l E M Mm z cont Ch S' K v' gsz := by
  have hp : EvoP (fun _ => False) z S K v S' K v' := he.toP
  refine ⟨by rw [hlen]; exact h.len, h.ok, fun i hi => ?_, h.hinj, h.ginj, fun i hi => by rw [hbk]; exact h.gbk i hi, h.hlt, h.zs, by rw [hwb, hbk]; exact h.z0, h.zc, fun c hc => open_stay hm hp (h.opn c hc) (fun _ h => h.elim), fun i hi => ?_, h.apart, ?_⟩
  · obtain ⟨t, h1, h2, h3, h4⟩ := h.thr i hi
    obtain ⟨t', k1, k2, k3, k4, k5, k6⟩ := ht i t h1
    refine ⟨t', k1, k2.trans h2, k3.trans h3, ?_⟩
    match hl : l i, h4 with
    | .turn _ _ _ _ _ _, h4 => exact ⟨k4.trans h4.1, k5.trans h4.2⟩
    | .wait _ _ _ _ _, h4 => exact h4
    | .done _, h4 => exact k6 h4
  · have := h.sees i hi
    exact ⟨this.1, keepM hp this.2.1 this.2.2 (fun _ _ h => h)⟩
  · have := keepM hp h.mine.1 h.mine.2.1 (fun _ _ h => h)
    exact ⟨this.1, this.2, h.mine.2.2.1, h.mine.2.2.2.1, he.fr.os.trans h.mine.2.2.2.2.1, he.fr.output.trans h.mine.2.2.2.2.2⟩

/-- A thread has gone from its seat to its next one. -/
theorem Crew.thread (h : Crew k X l E M Mm z cont Ch S K v gsz) (hm : Mem z S K v) {i : Nat} (hi : i < k) (he : EvoP (fun b => b = (X i).ab ∨ E i b) z S K v S' K' v') (hst : Sta i S S') {l' : Ph} {E' : Nat → Prop} {M' : Nat → Option Obj}
    (hfit : ∃ t', S'.thr[i]? = some t' ∧ FitsN l' t') (hs : Sees (X i) E' M' l'.ans) (hM' : Has M' v') (hfar : ∀ b, M' b ≠ none → ¬ Own S' K' b) (hnew : ∀ b, E' b → E i b ∨ v.heap.size ≤ b) :
    Crew k X (upd l i l') (upd E i E') (upd M i M') Mm z cont Ch S' K' v' gsz := by
  have hlt : ∀ j, j < k → ∀ b, M j b ≠ none → b < v.heap.size := fun j hj b hb => (h.sees j hj).2.1.lt hb
  have hrow : ∀ b, (b = (X i).ab ∨ E i b) → ∃ x e f, v.heap[b]? = some (.cells x e f) := fun b hb => by
    obtain ⟨o, ho⟩ := Option.ne_none_iff_exists'.1 (h.abM hi hb)
    obtain ⟨x, e, f, rfl⟩ := (h.sees i hi).1.row b o ho
    exact ⟨x, e, f, (h.sees i hi).2.1 b _ ho⟩
  have hdom : ∀ b, M' b ≠ none → M i b ≠ none ∨ v.heap.size ≤ b := fun b hb => by
    rcases hs.dom b hb with h1 | h1
    · exact .inl ((h.sees i hi).1.pr b h1)
    · rcases hnew b h1 with h2 | h2
      · exact .inl ((h.sees i hi).1.ex b h2)
      · exact .inr h2
  refine ⟨by rw [hst.len]; exact h.len, fun j hj => ⟨(h.ok j hj).1, (h.ok j hj).2.1, he.blks.trans (h.ok j hj).2.2⟩, fun j hj => ?_, h.hinj, h.ginj, fun j hj => by rw [hst.bk]; exact h.gbk j hj, h.hlt, h.zs, by rw [hst.wb, hst.bk]; exact h.z0, h.zc, fun c hc => open_stay hm he (h.opn c hc) hrow, fun j hj => ?_, fun a j ha hj hne b hb hx => ?_, ?_⟩
  · obtain ⟨t, h1, h2, h3, h4⟩ := h.thr j hj
    by_cases e : j = i
    · subst e
      obtain ⟨t', k1, k2⟩ := hfit
      obtain ⟨t2, q1, q2, q3⟩ := hst.own t h1
      rw [k1] at q1
      cases q1
      exact ⟨t', k1, q2.trans h2, q3.trans h3, by rw [upd_same]; exact k2⟩
    · exact ⟨t, by rw [hst.oth j e]; exact h1, h2, h3, by rw [upd_ne _ _ e]; exact h4⟩
  · by_cases e : j = i
    · subst e
      rw [upd_same, upd_same, upd_same]
      exact ⟨hs, hM', hfar⟩
    · rw [upd_ne _ _ e, upd_ne _ _ e, upd_ne _ _ e]
      have := h.sees j hj
      exact ⟨this.1, keepM he this.2.1 this.2.2 (h.apart i j hi hj (fun e' => e e'.symm))⟩
  · by_cases e1 : j = i
    · subst e1
      rw [upd_same] at hb
      have hne' : a ≠ j := hne
      rw [upd_ne _ _ hne'] at hx
      rcases hdom b hb with h1 | h1
      · exact h.apart a j ha hj hne b h1 hx
      · have := hlt a ha b (h.abM ha hx)
        omega
    · rw [upd_ne _ _ e1] at hb
      by_cases e2 : a = i
      · subst e2
        rw [upd_same] at hx
        rcases hx with h1 | h1
        · exact h.apart a j ha hj hne b hb (.inl h1)
        · rcases hnew b h1 with h2 | h2
          · exact h.apart a j ha hj hne b hb (.inr h2)
          · have := hlt j hj b hb; omega
      · rw [upd_ne _ _ e2] at hx
        exact h.apart a j ha hj hne b hb hx
  · have := keepM he h.mine.1 h.mine.2.1 (h.mine.2.2.2.1 i hi)
    refine ⟨this.1, this.2, h.mine.2.2.1, fun a ha b hb hx => ?_, he.fr.os.trans h.mine.2.2.2.2.1, he.fr.output.trans h.mine.2.2.2.2.2⟩
    by_cases e2 : a = i
    · subst e2
      rw [upd_same] at hx
      rcases hx with h1 | h1
      · exact h.mine.2.2.2.1 a ha b hb (.inl h1)
      · rcases hnew b h1 with h2 | h2
        · exact h.mine.2.2.2.1 a ha b hb (.inr h2)
        · have := h.mine.1.lt hb; omega
    · rw [upd_ne _ _ e2] at hx
      exact h.mine.2.2.2.1 a ha b hb hx
end

/-- Who sits where. -/
structure Seats (k N : Nat) (X : Nat → Fix mc) (l : Nat → Ph) (E : Nat → Nat → Prop) (M : Nat → Nat → Option Obj) (bk : Nat) (Inb : Nat → Option Seat) : Prop where
  seat : ∀ i, i < k → ∃ n, N ≤ n ∧ Inb (X i).h = seatOf (X i) (Home (X i) n) (l i) (E i) (M i)
  none : ∀ g, g ≠ 0 → (∀ i, i < k → (X i).h ≠ g) → Inb g = none
  main : ∀ s c, Inb 0 = some s → s.has c → c = bk
section
variable {k N : Nat} {X : Nat → Fix mc} {l : Nat → Ph} {E : Nat → Nat → Prop} {M : Nat → Nat → Option Obj} {bk : Nat} {Inb : Nat → Option Seat}
theorem seatOf_has {Y : Fix mc} {Hm : Ph → (Nat → Prop) → (Nat → Option Obj) → Goroutine → Prop} {p : Ph} {e : Nat → Prop} {m : Nat → Option Obj} {s : Seat} (h : seatOf Y Hm p e m = some s) : s = seatT Y.gc (Hm p e m) ∧ ∀ a, p ≠ .done a := by
  cases p with
  | turn => cases h; exact ⟨rfl, fun _ h => by cases h⟩
  | wait => cases h; exact ⟨rfl, fun _ h => by cases h⟩
  | done => cases h
theorem Seats.who (h : Seats k N X l E M bk Inb) {g : Nat} {s : Seat} {c : Nat} (hg : Inb g = some s) (hc : s.has c) : (g = 0 ∧ c = bk) ∨ ∃ i, i < k ∧ (X i).h = g ∧ c = (X i).gc := by
  by_cases e0 : g = 0
  · subst e0
    exact .inl ⟨rfl, h.main s c hg hc⟩
  · by_cases hx : ∃ i, i < k ∧ (X i).h = g
    · obtain ⟨i, hi, rfl⟩ := hx
      obtain ⟨n, _, hs⟩ := h.seat i hi
      rw [hs] at hg
      obtain ⟨rfl, _⟩ := seatOf_has hg
      exact .inr ⟨i, hi, rfl, Seat.one_has.1 hc⟩
    · rw [h.none g e0 (fun i hi e => hx ⟨i, hi, e⟩)] at hg
      cases hg
end
end Go.Proofs.Ytehingmdmijedaa.Gen
