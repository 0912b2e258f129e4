/- ChainRing: of a ring the last who writes down is told, under every schedule. Part 13 of 37. (Joined, by program, of: GHome, Hire, Hire2, Hire3.) -/
import Derived.Test.YtfjjoohflcchnaaChainRing09
import Derived.Test.YtfjjoohflcchnaaChainRing11
import Derived.Test.YtfjjoohflcchnaaChainRing12
import Derived.Conc.SmallLaws
set_option linter.unusedSimpArgs false
set_option linter.unusedVariables false
namespace Go.Proofs.Ytfjjoohflcchnaa.Gen
open Go Go.Lift Go.Conc Go.RowKit
variable {mc : Mc}

/-- The place at which a row begins in its block. -/
def roOf : Option Addr → Nat
  | some a => a.off
  | none => 0
/-- What stays of a thread: its goroutine h, its number i, its row, channel and box, its script, its row of answers, the function that carries its calls out, what of the Play's memory it reads (it stays as it is), the world's cells, the package's calls. -/
structure Fix (mc : Mc) where
  h : Nat
  i : Nat
  tb : Nat
  gc : Nat
  bb : Nat
  calls : List Cl
  pc : Option Addr
  rb : Nat
  cap : Nat
  asl : Value
  ab : Nat
  cap2 : Nat
  aty : TypeId
  fid : FuncId
  caps : Array Value
  pk : Nat → Option Obj
  kb : List Nat
namespace Fix
def csl (X : Fix mc) : Value := .slice X.pc X.calls.length X.cap
abbrev ro (X : Fix mc) : Nat := roOf X.pc
abbrev F (X : Fix mc) : Value := .func (.func X.fid) (mc.bn X.caps) (mc.fr X.caps)
/-- What it reads of its own. -/
abbrev Pr (X : Fix mc) (b : Nat) : Prop := b = X.bb ∨ b = X.rb ∨ b = X.ab ∨ X.pk b ≠ none
structure Ok (X : Fix mc) : Prop where
  h : 0 < X.h
  n : (X.calls.length : Int) < 9223372036854775808
  ca : ∀ c ∈ X.calls, -9223372036854775808 ≤ c.ca ∧ c.ca < 9223372036854775808
  pc : 0 < X.calls.length → X.pc = some ⟨X.rb, X.ro, none⟩
  asl : 0 < X.calls.length → X.asl = .slice (some ⟨X.ab, 0, none⟩) X.calls.length X.cap2
  e0 : X.calls.length = 0 → X.rb = X.bb ∧ X.ab = X.bb
  ne : 0 < X.calls.length → X.ab ≠ X.bb ∧ X.ab ≠ X.rb ∧ X.pk X.ab = none
  pk : ∀ b o, X.pk b = some o → ∃ c e f, o = .cells c e f
end Fix

/-- The world's cells are where they were, and hold what they may. -/
def Kb (X : Fix mc) (K : List (Nat × Int)) : Prop := K.map (·.1) = X.kb ∧ KOk mc K

/-- What a thread has in mind lies there. -/
def Has (M : Nat → Option Obj) (v : World) : Prop := ∀ b o, M b = some o → v.heap[b]? = some o
structure PM (X : Fix mc) (ans : List (Int × Int)) (v : World) : Prop where
  box : v.cell? ⟨X.bb, 0, none⟩ = some (Pt X.tb 0)
  call : ∀ (k : Nat) (c : Cl), X.calls[k]? = some c → v.cell? ⟨X.rb, X.ro + k * 4, none⟩ = some (I c.po) ∧ v.cell? ⟨X.rb, X.ro + k * 4 + 1, none⟩ = some (I c.ca) ∧ v.cell? ⟨X.rb, X.ro + k * 4 + 2, none⟩ = some (I c.cb) ∧ v.cell? ⟨X.rb, X.ro + k * 4 + 3, none⟩ = some (I c.cc)
  row : 0 < X.calls.length → v.heap[X.ab]? = some (.cells (arow ans).toArray X.aty (0, 0))
  len : ans.length = X.calls.length
  pk : Has X.pk v
theorem PM.stay {X : Fix mc} {ans : List (Int × Int)} {v v' : World} (h : PM X ans v) (hs : ∀ b, X.Pr b → v'.heap[b]? = v.heap[b]?) : PM X ans v' := by
  have hc : ∀ (a : Addr) (x : Value), X.Pr a.block → v.cell? a = some x → v'.cell? a = some x := fun a x hb ha => by rw [World.cell?_of_block (hs a.block hb)]; exact ha
  refine ⟨hc _ _ (.inl rfl) h.box, fun k c hk => ?_, fun h0 => by rw [hs X.ab (.inr (.inr (.inl rfl)))]; exact h.row h0, h.len, fun b o hb => by rw [hs b (.inr (.inr (.inr (by rw [hb]; simp))))]; exact h.pk b o hb⟩
  have := h.call k c hk
  exact ⟨hc _ _ (.inr (.inl rfl)) this.1, hc _ _ (.inr (.inl rfl)) this.2.1, hc _ _ (.inr (.inl rfl)) this.2.2.1, hc _ _ (.inr (.inl rfl)) this.2.2.2⟩

/-- What it has in mind tells it all that it reads. -/
structure Sees (X : Fix mc) (E : Nat → Prop) (M : Nat → Option Obj) (ans : List (Int × Int)) : Prop where
  ex : ∀ b, E b → M b ≠ none
  dom : ∀ b, M b ≠ none → X.Pr b ∨ E b
  apart : ∀ b, E b → ¬ X.Pr b
  pm : ∀ v, Has M v → PM X ans v
  pr : ∀ b, X.Pr b → M b ≠ none
  row : ∀ b o, M b = some o → ∃ c e f, o = .cells c e f
/-- The world where it gives the turn back. -/
def Gv (X : Fix mc) (z : Nat → Option Nat) (Ch : Nat → Prop) (S : TS) (K : List (Nat × Int)) (v : World) (E : Nat → Prop) (σ : TS) (κ : List (Nat × Int)) (M' : Nat → Option Obj) (w' : World) : Prop :=
  ∃ v' S', Rel z v' w' ∧ NoRow Ch v' ∧ nv S' = σ ∧ EvoP (fun b => b = X.ab ∨ E b) z S K v S' κ v' ∧ Has M' v' ∧ ∀ b, M' b ≠ none → ¬ Own S' κ b
noncomputable def seatOf (X : Fix mc) (Hm : Ph → (Nat → Prop) → (Nat → Option Obj) → Goroutine → Prop) : Ph → (Nat → Prop) → (Nat → Option Obj) → Option Seat
  | .done _, _, _ => none
  | l, E, M => some (seatT X.gc (Hm l E M))
def Gives (X : Fix mc) (Hm : Ph → (Nat → Prop) → (Nat → Option Obj) → Goroutine → Prop) (z : Nat → Option Nat) (cont : Addr → Value) (Ch : Nat → Prop) (S : TS) (K : List (Nat × Int)) (v : World) (E : Nat → Prop) (σ : TS) (κ : List (Nat × Int)) (l' : Ph) (E' : Nat → Prop) (M' : Nat → Option Obj) (g' : Goroutine) (w' : World) : Prop :=
  Sees X E' M' l'.ans ∧ (∀ b, E' b → E b ∨ v.heap.size ≤ b) ∧ Lift.AtGive Try.prog (KC (ScZ z) cont) (StillC (ScZ z)) X.h S.bk (.agg #[]) (seatOf X Hm l' E' M') (Gv X z Ch S K v E σ κ M') g' w'
def Fits (X : Fix mc) : Ph → Thr → Prop
  | .turn op j _ _ _ _, t => t.op = op ∧ t.ce = j
  | _, _ => True
/-- Served, it goes on; this holds n times. -/
def Home (X : Fix mc) : Nat → Ph → (Nat → Prop) → (Nat → Option Obj) → Goroutine → Prop
  | 0, _, _, _, _ => True
  | n + 1, l, E, M, g => ∀ (z : Nat → Option Nat) (Ch : Nat → Prop) (Stop : Goroutine → World → Prop) (cont : Addr → Value) (y : Value) (w v : World) (S : TS) (K : List (Nat × Int)) (t : Thr), Rel z v w → NoRow Ch v → Mem z S K v → S.thr[X.i]? = some t → t.tb = X.tb → t.gc = X.gc → Fits X l t → Kb X K → z X.tb = some 2 → cont ⟨X.tb, 2, none⟩ = .chan (some X.gc) →
      Has M v → (∀ b, M b ≠ none → ¬ Own S K b) → (resume X.i mc l (nv S) K).1.n * 40 ≤ 140737488355328 →
      (∀ g' w' E' M', Gives X (Home X n) z cont Ch S K v E (resume X.i mc l (nv S) K).1 (resume X.i mc l (nv S) K).2.1 (resume X.i mc l (nv S) K).2.2 E' M' g' w' → Stop g' w') →
      GoesI Try.prog (X.h == 0) (DT (ScZ z) Ch) Stop (Go.Conc.served g y) w

theorem atGive_mono {K : World → Prop} {Still : Loc → Prop} {h c : Nat} {v : Value} {o : Option Seat} {F F' : World → Prop} {a : Goroutine} {w : World} (hF : F w → F' w) (hg : Lift.AtGive Try.prog K Still h c v o F a w) : Lift.AtGive Try.prog K Still h c v o F' a w :=
  ⟨hg.1, hF hg.2.1, hg.2.2⟩

section
variable {Pr Pr' : Nat → Prop} {z : Nat → Option Nat} {S S' S'' : TS} {K K' K'' : List (Nat × Int)} {v v' v'' : World}
/-- Stretches add up, what is new counting as one's own. -/
theorem _root_.Go.Proofs.Ytfjjoohflcchnaa.EvoP.join (h : EvoP Pr z S K v S' K' v') (k : EvoP Pr' z S' K' v' S'' K'' v'') (hp : ∀ b, Pr' b → Pr b ∨ v.heap.size ≤ b) : EvoP Pr z S K v S'' K'' v'' := by
  refine ⟨k.mem, k.blks.trans h.blks, ⟨k.fr.os.trans h.fr.os, k.fr.output.trans h.fr.output, Nat.le_trans h.fr.size k.fr.size, fun x hx hs => ?_⟩, fun b hb => ?_⟩
  · rw [k.fr.block x (Nat.lt_of_lt_of_le hx h.fr.size) (fun hi => ?_), h.fr.block x hx hs]
    rcases hi with hi | hi
    · exact (h.new x hi).elim (fun h => hs (.inl h)) (fun hle => by omega)
    · exact (hp x hi).elim (fun h => hs (.inr h)) (fun hle => by omega)
  · rcases k.new b hb with h1 | h1
    · exact h.new b h1
    · exact .inr (Nat.le_trans h.fr.size h1)
theorem _root_.Go.Proofs.Ytfjjoohflcchnaa.EvoP.grows (h : EvoP Pr z S K v S' K' v') {u : World} (g : Grows v' u) (k : EvoP Pr' z S' K' u S'' K'' v'') (hp : ∀ b, Pr' b → Pr b ∨ v.heap.size ≤ b) : EvoP Pr z S K v S'' K'' v'' := by
  refine ⟨k.mem, k.blks.trans h.blks, ⟨(k.fr.os.trans g.os).trans h.fr.os, (k.fr.output.trans g.output).trans h.fr.output, Nat.le_trans h.fr.size (Nat.le_trans g.size k.fr.size), fun x hx hs => ?_⟩, fun b hb => ?_⟩
  · have hx' := Nat.lt_of_lt_of_le hx h.fr.size
    rw [k.fr.block x (Nat.lt_of_lt_of_le hx' g.size) (fun hi => ?_), g.old x hx', h.fr.block x hx hs]
    rcases hi with hi | hi
    · exact (h.new x hi).elim (fun h => hs (.inl h)) (fun hle => by omega)
    · exact (hp x hi).elim (fun h => hs (.inr h)) (fun hle => by omega)
  · rcases k.new b hb with h1 | h1
    · exact h.new b h1
    · exact .inr (Nat.le_trans h.fr.size (Nat.le_trans g.size h1))
theorem _root_.Go.Proofs.Ytfjjoohflcchnaa.EvoP.keeps (h : EvoP Pr z S K v S' K' v') {b : Nat} (hb : b < v.heap.size) (ho : ¬ Own S K b) (hp : ¬ Pr b) : v'.heap[b]? = v.heap[b]? ∧ ¬ Own S' K' b :=
  ⟨h.fr.block b hb (fun hi => hi.elim ho hp), fun hi => (h.new b hi).elim ho (fun hle => by omega)⟩
theorem _root_.Go.Proofs.Ytfjjoohflcchnaa.Grows.trans' {a b c : World} (h : Grows a b) (k : Grows b c) : Grows a c := ⟨Nat.le_trans h.size k.size, fun x hx => by rw [k.old x (Nat.lt_of_lt_of_le hx h.size), h.old x hx], k.os.trans h.os, k.output.trans h.output⟩
theorem Gives.join {X : Fix mc} {Hm : Ph → (Nat → Prop) → (Nat → Option Obj) → Goroutine → Prop} {cont : Addr → Value} {Ch : Nat → Prop} {E E1 E' : Nat → Prop} {M' : Nat → Option Obj} {σ : TS} {κ : List (Nat × Int)} {l' : Ph} {g' : Goroutine} {w' : World}
    (h : EvoP (fun b => b = X.ab ∨ E b) z S K v S' K' v') (hbk : S'.bk = S.bk) (he : ∀ b, E1 b → E b ∨ v.heap.size ≤ b) (k : Gives X Hm z cont Ch S' K' v' E1 σ κ l' E' M' g' w') : Gives X Hm z cont Ch S K v E σ κ l' E' M' g' w' := by
  obtain ⟨k1, k2, k3⟩ := k
  rw [hbk] at k3
  refine ⟨k1, fun b hb => ?_, atGive_mono (fun hF => ?_) k3⟩
  · rcases k2 b hb with h1 | h1
    · exact he b h1
    · exact .inr (Nat.le_trans h.fr.size h1)
  · obtain ⟨v2, S2, q1, q2, q3, q4, q5⟩ := hF
    refine ⟨v2, S2, q1, q2, q3, h.join q4 (fun b hb => ?_), q5⟩
    rcases hb with rfl | hb
    · exact .inl (.inl rfl)
    · exact (he b hb).imp .inr id
end

/-- What a world holds of what it reads. -/
def mind (X : Fix mc) (v : World) (b : Nat) : Option Obj := if X.Pr b then v.heap[b]? else none
/-- .. and what a call that is under way has for its own. -/
def mindO (X : Fix mc) (v : World) (Mo : Nat → Option Obj) (b : Nat) : Option Obj := if Mo b ≠ none then Mo b else mind X v b

/-- A script's last word: behind its last call the thread ends. -/
def CarryEnds (X : Fix mc) (cs : List Frame) : Prop :=
  ∀ (z : Nat → Option Nat) (Ch : Nat → Prop) (Stop : Goroutine → World → Prop) (cont : Addr → Value) (w v : World) (S : TS) (K : List (Nat × Int)) (t : Thr) (sk : Bool) (u : Nat → Value), Rel z v w → NoRow Ch v → Mem z S K v → S.thr[X.i]? = some t → t.tb = X.tb → v.cell? ⟨X.bb, 0, none⟩ = some (Pt X.tb 0) → ¬ Own S K X.bb →
    (∀ g w', GiveE z cont X.h S.bk (Then z Ch S K v (ended S X.i t) K) g w' → Stop g w') →
    GoesI Try.prog (X.h == 0) (DT (ScZ z) Ch) Stop (G (cFr X.tb X.csl X.F X.asl X.calls.length X.calls.length sk u) cs) w
/-- A call has its answer: it is noted and written down. -/
def Answers (X : Fix mc) (cs : List Frame) (ii : Nat) (ans : List (Int × Int)) (cu : Value → Goroutine) : Prop :=
  ∀ (z : Nat → Option Nat) (Ch : Nat → Prop) (Stop : Goroutine → World → Prop) (w v : World) (S : TS) (K : List (Nat × Int)) (t : Thr) (e x : Int), Rel z v w → NoRow Ch v → Mem z S K v → S.thr[X.i]? = some t → t.tb = X.tb → (S.n + 1) * 40 ≤ 140737488355328 → PM X ans v → (∀ b, X.Pr b → ¬ Own S K b) →
    (∀ v' w' tv u', Rel z v' w' → NoRow Ch v' → EvoP (fun b => b = X.ab) z S K v (noted S tv X.i 10 (-1) ii e) K v' → PM X (ans.set ii (e, x)) v' → GoesI Try.prog (X.h == 0) (DT (ScZ z) Ch) Stop (G (cFr X.tb X.csl X.F X.asl X.calls.length (ii + 1) (e == 4) u') cs) w') →
    GoesI Try.prog (X.h == 0) (DT (ScZ z) Ch) Stop (cu (.agg #[I e, I x])) w

section
variable {X : Fix mc} {ans : List (Int × Int)} {v v' : World}
theorem row_of_cell {a : Addr} {x : Value} (h : v.cell? a = some x) : ∃ c e f, v.heap[a.block]? = some (.cells c e f) := by
  unfold World.cell? at h
  cases hh : v.heap[a.block]? with
  | none => rw [hh] at h; cases h
  | some o =>
    rw [hh] at h
    cases o with
    | cells c e f => exact ⟨c, e, f, rfl⟩
    | _ => cases h
theorem PM.isrow (h : PM X ans v) (ok : X.Ok) {b : Nat} (hb : X.Pr b) : ∃ c e f, v.heap[b]? = some (.cells c e f) := by
  have hbb := row_of_cell h.box
  rcases hb with rfl | rfl | rfl | hb
  · exact hbb
  · by_cases hc : X.calls.length = 0
    · rw [(ok.e0 hc).1]; exact hbb
    · have h0 : 0 < X.calls.length := by omega
      exact row_of_cell (h.call 0 (X.calls[0]) (by simp [h0])).1
  · by_cases hc : X.calls.length = 0
    · rw [(ok.e0 hc).2]; exact hbb
    · exact ⟨_, _, _, h.row (by omega)⟩
  · obtain ⟨o, ho⟩ := Option.ne_none_iff_exists'.1 hb
    obtain ⟨c, e, f, rfl⟩ := ok.pk b o ho
    exact ⟨c, e, f, h.pk b _ ho⟩
theorem PM.lt (h : PM X ans v) (ok : X.Ok) {b : Nat} (hb : X.Pr b) : b < v.heap.size := by
  obtain ⟨c, e, f, hh⟩ := h.isrow ok hb
  exact (Array.getElem?_eq_some_iff.1 hh).1
theorem mind_row (h : PM X ans v) (ok : X.Ok) {b : Nat} {o : Obj} (hb : mind X v b = some o) : ∃ c e f, o = .cells c e f := by
  unfold mind at hb
  split at hb
  · rename_i hp
    obtain ⟨c, e, f, hh⟩ := h.isrow ok hp
    rw [hh] at hb
    cases hb
    exact ⟨c, e, f, rfl⟩
  · cases hb
theorem PM.set (h : PM X ans v) {ii : Nat} (hi : ii < X.calls.length) (e x : Int) (hab : v'.heap[X.ab]? = ((v.setCell ⟨X.ab, ii * 2, none⟩ (I e)).setCell ⟨X.ab, ii * 2 + 1, none⟩ (I x)).heap[X.ab]?) (hs : ∀ b, X.Pr b → b ≠ X.ab → v'.heap[b]? = v.heap[b]?) (hne : X.ab ≠ X.bb ∧ X.ab ≠ X.rb ∧ X.pk X.ab = none) : PM X (ans.set ii (e, x)) v' := by
  have h0 : 0 < X.calls.length := by omega
  have hc : ∀ (a : Addr) (y : Value), X.Pr a.block → a.block ≠ X.ab → v.cell? a = some y → v'.cell? a = some y := fun a y hb hn ha => by rw [World.cell?_of_block (hs a.block hb hn)]; exact ha
  refine ⟨hc _ _ (.inl rfl) (Ne.symm hne.1) h.box, fun k c hk => ?_, fun _ => ?_, by simpa using h.len, fun b o hb => by rw [hs b (.inr (.inr (.inr (by rw [hb]; simp)))) (fun e => by rw [e, hne.2.2] at hb; cases hb)]; exact h.pk b o hb⟩
  · have := h.call k c hk
    exact ⟨hc _ _ (.inr (.inl rfl)) (Ne.symm hne.2.1) this.1, hc _ _ (.inr (.inl rfl)) (Ne.symm hne.2.1) this.2.1, hc _ _ (.inr (.inl rfl)) (Ne.symm hne.2.1) this.2.2.1, hc _ _ (.inr (.inl rfl)) (Ne.symm hne.2.1) this.2.2.2⟩
  · rw [hab, heap_setCell_same (heap_setCell_same (h.row h0) (I e)) (I x), arow_set _ _ _ _ (by rw [h.len]; exact hi)]
    simp
theorem PM.cells (h : PM X ans v) {ii : Nat} (hi : ii < X.calls.length) : ∃ y0 y1, v.cell? ⟨X.ab, ii * 2, none⟩ = some (I y0) ∧ v.cell? ⟨X.ab, ii * 2 + 1, none⟩ = some (I y1) ∧ v.frozen? ⟨X.ab, ii * 2, none⟩ = false ∧ v.frozen? ⟨X.ab, ii * 2 + 1, none⟩ = false := by
  have h0 := h.row (by omega)
  have hl : ii < ans.length := by rw [h.len]; exact hi
  have := arow_get ans ii ans[ii] (by simp [hl])
  refine ⟨ans[ii].1, ans[ii].2, ?_, ?_, ?_, ?_⟩
  · simp [World.cell?, h0, this.1]
  · simp [World.cell?, h0, this.2]
  · simp [World.frozen?, h0]
  · simp [World.frozen?, h0]
theorem has_mind (hl : ∀ b, X.Pr b → b < v.heap.size) {M : Nat → Option Obj} (hM : ∀ b o, mind X v b = some o → M b = some o) (h : Has M v') : ∀ b, X.Pr b → v'.heap[b]? = v.heap[b]? := fun b hb => by
  have e : v.heap[b]? = some v.heap[b]! := by simp [hl b hb]
  rw [e]
  exact h b _ (hM b _ (by unfold mind; rw [if_pos hb, e]))
theorem sees_mind (h : PM X ans v) (ok : X.Ok) : Sees X (fun _ => False) (mind X v) ans := by
  refine ⟨fun _ h => h.elim, fun b hb => ?_, fun _ h => h.elim, fun v' hM => h.stay (has_mind (fun b hb => h.lt ok hb) (fun _ _ h => h) hM), fun b hb => ?_, fun b o hb => mind_row h ok hb⟩
  · unfold mind at hb
    split at hb
    · exact .inl ‹_›
    · exact absurd rfl hb
  · unfold mind
    rw [if_pos hb]
    simp [h.lt ok hb]
theorem sees_mindO (h : PM X ans v) (ok : X.Ok) {Mo : Nat → Option Obj} (h1 : ∀ b, Mo b ≠ none → ¬ X.Pr b) (h2 : ∀ b o, Mo b = some o → ∃ c e f, o = .cells c e f) : Sees X (fun b => Mo b ≠ none) (mindO X v Mo) ans := by
  refine ⟨fun b hb => ?_, fun b hb => ?_, fun b hb hp => h1 b hb hp, fun v' hM => h.stay (has_mind (fun b hb => h.lt ok hb) (fun b o hb => ?_) hM), fun b hb => ?_, fun b o hb => ?_⟩
  · unfold mindO; rw [if_pos hb]; exact hb
  · unfold mindO at hb
    split at hb
    · exact .inr ‹_›
    · unfold mind at hb
      split at hb
      · exact .inl ‹_›
      · exact absurd rfl hb
  · unfold mindO
    have hpr : X.Pr b := by
      unfold mind at hb
      split at hb
      · assumption
      · cases hb
    rw [if_neg (fun e => h1 b e hpr)]
    exact hb
  · unfold mindO mind
    rw [if_neg (fun e => h1 b e hb), if_pos hb]
    simp [h.lt ok hb]
  · unfold mindO at hb
    split at hb
    · exact h2 b o hb
    · exact mind_row h ok hb
end
end Go.Proofs.Ytfjjoohflcchnaa.Gen

namespace Go.Proofs.Ytfjjoohflcchnaa
open Go Go.Lift Go.Conc Go.RowKit

theorem und55 : ∃ dir e i, Try.prog.underlying 80 = some (.chan dir e) ∧ Try.prog.info? e = some i ∧ i.bytes = 0 := by
  have h : ((Try.prog.underlying 80).map fun t => match t with | .chan d e => ((Try.prog.info? e).map fun i => i.bytes) == some 0 | _ => false) = some true := by kernel_rfl
  cases hu : Try.prog.underlying 80 with
  | none => rw [hu] at h; cases h
  | some t =>
    rw [hu] at h
    cases t with
    | chan d e =>
      simp only [Option.map_some, Option.some.injEq, beq_iff_eq] at h
      obtain ⟨i, hi, hb⟩ := Option.map_eq_some_iff.1 h
      exact ⟨d, e, i, rfl, hi, hb⟩
    | _ => cases h
theorem run_mk (v : World) : (Instr.makeChan 80 (.int .i64 0)).run Try.prog v = .ok (.chan (some v.heap.size)) (v.alloc (.chan 0 #[] false 0 0 false)) := by
  obtain ⟨d, e, i, h1, h2, h3⟩ := und55
  exact run_makeChan h1 h2 .i64 0 (by decide) (by rw [h3]; decide)

noncomputable def B35 : Code := Try.f86.body.getD .skip
/-- The two loops. -/
noncomputable def HL : Code := loopC (blockC (seq2 (seq1 (seq2 (seq2 (seq2 B35))))))
noncomputable def D35 : Code := seq2 (seq2 (seq2 (seq2 B35)))
noncomputable def TL : Code := loopC (blockC D35)
noncomputable def HB : Code := blockC (seq1 (seq2 (seq2 HL)))
noncomputable def R18 : Code := seq2 (seq2 (seq2 HL))
/-- The loop's head: ii threads are hired. -/
noncomputable def hFr (wb : Nat) (bsl : Value) (n ii : Nat) (u : Nat → Value) : Frame :=
  (base 86).at ⟨#[Pt wb 0, bsl, undef, undef, u 4, u 5, u 6, u 7, u 8, u 9, u 10, u 11, u 12, u 13, u 14, u 15, u 16, u 17, u 18, u 19, u 20, u 21, u 22, u 23, u 24, u 25, u 26, u 27, u 28, u 29, bsl] ++ #[I n, I ii, u 33, u 34, u 35, u 36, u 37, u 38, u 39, u 40, u 41, u 42, u 43, u 44, u 45, u 46, u 47, u 48, u 49, u 50, u 51, u 52, u 53, u 54, u 55, u 56, u 57, u 58, u 59, u 60, u 61], []⟩ [.code HL, .inLoop HL, .inBlock 2, .code D35]
noncomputable def ops3514 : Array Oper := opsOf (seq1 (seq2 HB))
noncomputable def R15 : Code := seq2 (seq2 HB)
/-- Ahead of the new thread's row, and behind it. -/
noncomputable def bFr1 (wb : Nat) (bsl F : Value) (n ii bb gc : Nat) (u : Nat → Value) : Frame :=
  (base 86).at ⟨#[Pt wb 0, bsl, undef, undef, u 4, u 5, u 6, I ii, F, u 9, u 10, u 11, u 12, u 13, u 14, u 15, u 16, u 17, u 18, u 19, u 20, u 21, u 22, u 23, u 24, u 25, u 26, u 27, u 28, u 29, bsl] ++ #[I n, I ii, .bool true, I ii, Pt bb ii, F, Pt wb 0, I ii, .chan (some gc), .agg (trow wb ii gc 0 0 0 0), u 41, u 42, u 43, u 44, u 45, u 46, u 47, u 48, u 49, u 50, u 51, u 52, u 53, u 54, u 55, u 56, u 57, u 58, u 59, u 60, u 61], []⟩ [.inRegion ops3514 [4, 5], .code R15, .inBlock 3, .code R18, .inLoop HL, .inBlock 2, .code D35]
noncomputable def bFr2 (wb : Nat) (bsl F : Value) (n ii bb gc tb : Nat) (u : Nat → Value) : Frame :=
  (base 86).at ⟨#[Pt wb 0, bsl, undef, undef, u 4, u 5, u 6, I ii, F, u 9, u 10, u 11, u 12, u 13, u 14, u 15, u 16, u 17, u 18, u 19, u 20, u 21, u 22, u 23, u 24, u 25, u 26, u 27, u 28, u 29, bsl] ++ #[I n, I ii, .bool true, I ii, Pt bb ii, F, Pt wb 0, I ii, .chan (some gc), .agg (trow wb ii gc 0 0 0 0), Pt tb 0, u 42, u 43, u 44, u 45, u 46, u 47, u 48, u 49, u 50, u 51, u 52, u 53, u 54, u 55, u 56, u 57, u 58, u 59, u 60, u 61], []⟩ [.inRegion ops3514 [5], .code R15, .inBlock 3, .code R18, .inLoop HL, .inBlock 2, .code D35]

set_option maxHeartbeats 2000000 in
set_option maxRecDepth 100000 in
theorem hire_a {z : Nat → Option Nat} {Ch : Nat → Prop} {Stop : Goroutine → World → Prop} {main : Bool} {v w : World} {wb : Nat} (F : Value) (bb n cap ii : Nat) (u : Nat → Value) (cs : List Frame) (hi : ii < n)
    (h1 : v.cell? ⟨bb, ii, none⟩ = some F) (hvw : Rel z v w) (hn : NoRow Ch v)
    (hk : ∀ v' w' u', Rel z v' w' → NoRow Ch v' → v' = { v with heap := v.heap.push (.chan 0 #[] false 0 0 false) } → GoesI Try.prog main (DT (ScZ z) Ch) Stop (G (bFr1 wb (.slice (some ⟨bb, 0, none⟩) n cap) F n ii bb v.heap.size u') cs) w') :
    GoesI Try.prog main (DT (ScZ z) Ch) Stop (G (hFr wb (.slice (some ⟨bb, 0, none⟩) n cap) n ii u) cs) w := by
  have hi' : (ii : Int) < (n : Int) := by omega
  have e0 : w.cell? ⟨bb, ii, none⟩ = some F := by rw [hvw.cell?]; exact h1
  have hk := hk { v with heap := v.heap.push (.chan 0 #[] false 0 0 false) } 
  unfold hFr HL B35 Try.f86 seq2 seq1 blockC loopC
  simp only [Option.getD_some, List.append_toArray, List.cons_append, List.nil_append]
  refine goesI_seq (dt_idle _ _) ?_
  refine goesI_region (dt_idle _ _) ?_
  simp only [List.size_toArray, List.length_cons, List.length_nil, Nat.reduceAdd, Nat.zero_add, List.range, List.range.loop]
  iterate 1
    (refine goesI_oper rfl rfl (by decide) (fun d K hK => ?_)
     go_simp
     refine hK _ _ ⟨dt_reads (fun e he => ?_), GoesI.at ?_ d⟩
     · have hm := mem_listed he
       simp [go_sem, *] at hm
       try exact ⟨_, _, hm⟩
     clear hK K)
  refine goesI_regionEnd (dt_idle _ _) ?_
  refine goesI_seq (dt_idle _ _) ?_
  refine goesI_cond (dt_idle _ _) (t := true) rfl ?_
  simp only [if_true, if_false, Bool.false_eq_true]
  refine goesI_skip (dt_idle _ _) ?_
  refine goesI_seq (dt_idle _ _) ?_
  refine goesI_block (dt_idle _ _) ?_
  refine goesI_seq (dt_idle _ _) ?_
  refine goesI_region (dt_idle _ _) ?_
  simp only [List.size_toArray, List.length_cons, List.length_nil, Nat.reduceAdd, Nat.zero_add, List.range, List.range.loop]
  iterate 5
    (refine goesI_oper rfl rfl (by decide) (fun d K hK => ?_)
     go_simp
     refine hK _ _ ⟨dt_reads (fun e he => ?_), GoesI.at ?_ d⟩
     · have hm := mem_listed he
       simp [go_sem, *] at hm
       try exact ⟨_, _, hm⟩
     clear hK K)
  refine goesI_regionEnd (dt_idle _ _) ?_
  refine goesI_seq (dt_idle _ _) ?_
  refine goesI_region (dt_idle _ _) ?_
  simp only [List.size_toArray, List.length_cons, List.length_nil, Nat.reduceAdd, Nat.zero_add, List.range, List.range.loop]
  iterate 2
    (refine goesI_oper rfl rfl (by decide) (fun d K hK => ?_)
     go_simp
     refine hK _ _ ⟨dt_reads (fun e he => ?_), GoesI.at ?_ d⟩
     · have hm := mem_listed he
       simp [go_sem, *] at hm
       try exact ⟨_, _, hm⟩
     clear hK K)
  clear e0 hi'
  refine goesI_opZ (L := LT) rfl rfl (by decide) (fineOp_ask callT extT (by kernel_rfl)) hvw hn (v' := { v with heap := v.heap.push (.chan 0 #[] false 0 0 false) }) (x := .chan (some v.heap.size)) (by go_simp; rw [run_mk]; rfl) rfl (fun w2 hr2 hn2 => ?_)
  iterate 1
    (refine goesI_oper rfl rfl (by decide) (fun d K hK => ?_)
     go_simp
     refine hK _ _ ⟨dt_reads (fun e he => ?_), GoesI.at ?_ d⟩
     · have hm := mem_listed he
       simp [go_sem, *] at hm
       try exact ⟨_, _, hm⟩
     clear hK K)
  have hk := hk w2 (fun m => match m with | 7 => I ii | 8 => F | m => u m) hr2 hn2 rfl
  unfold bFr1 R15 R18 HB ops3514 D35 HL B35 Try.f86 seq2 seq1 blockC loopC opsOf at hk
  simp only [Option.getD_some, List.append_toArray, List.cons_append, List.nil_append] at hk
  exact hk
end Go.Proofs.Ytfjjoohflcchnaa

namespace Go.Proofs.Ytfjjoohflcchnaa
open Go Go.Lift Go.Conc Go.RowKit

noncomputable def r15 : Code := seq1 R15
noncomputable def R1617 : Code := seq2 R15
theorem fineR15 : fineCode Try.prog true LT r15 := fineCode_ask callT extT (by kernel_rfl)
/-- What hiring does to the world's list: it grows, and nothing else. -/
def Threaded (wb : Nat) (tv : Value) (n base : Nat) (xs : List Value) (x : Value) (w w' : World) : Prop :=
  ∃ g cap, (∀ c t f, w.heap[wb]? = some (.cells c t f) → w'.heap[wb]? = some (.cells (c.setIfInBounds 4 (.slice (some ⟨g, 0, none⟩) (n + 1) cap)) t f)) ∧
    w'.ownsRow base 46 1 (.slice (some ⟨g, 0, none⟩) (n + 1) cap) (n + 1) (xs ++ [x]) ∧ (tv.ownBlock = some g ∨ w.heap.size ≤ g) ∧ Fr (fun b => b = wb ∨ some b = tv.ownBlock) w w'
theorem threaded_of {wb : Nat} {tv x : Value} {n base : Nat} {xs : List Value} {w u w6 : World} {g cap : Nat} (hb : Below w.heap.size w u) (hw : wb < w.heap.size) (hg : u.grownBy w6 tv.ownBlock) (hown : w6.ownsRow base 46 1 (.slice (some ⟨g, 0, none⟩) (n + 1) cap) (n + 1) (xs ++ [x]))
    (hat : tv.ownBlock = some g ∨ g = u.heap.size) (hne : tv.ownBlock ≠ some wb) : Threaded wb tv n base xs x w (w6.setCell ⟨wb, 4, none⟩ (.slice (some ⟨g, 0, none⟩) (n + 1) cap)) := by
  have hgw : g ≠ wb := by
    rcases hat with h | h
    · exact fun e => hne (by rw [h, e])
    · have := hb.size; omega
  have e6 : w6.heap[wb]? = w.heap[wb]? := (hg.block wb (Nat.lt_of_lt_of_le hw hb.size) (Ne.symm hne)).trans (hb.block wb hw)
  refine ⟨g, cap, fun c t f h => heap_setCell_same (by rw [e6]; exact h) _, own_set hown _ _ (fun e => hgw (Option.some.inj e)), ?_, ?_⟩
  · rcases hat with h | h
    · exact .inl h
    · exact .inr (by have := hb.size; omega)
  · refine ⟨by show w6.os = _; rw [hg.os, hb.os], by show w6.output = _; rw [hg.output, hb.output], ?_, fun b hlt hs => ?_⟩
    · have := hb.size
      have := hg.size
      simp only [World.setCell, Array.size_modify]
      omega
    · rw [Below.heap_setCell _ _ _ _ (fun e => hs (.inl e)), hg.block b (Nat.lt_of_lt_of_le hlt hb.size) (fun e => hs (.inr e)), hb.block b hlt]
theorem keep2g {u u' : World} {row : Option Nat} {a : Addr} {x : Value} (h : u.cell? a = some x ∧ u.frozen? a = false) (hg : u.grownBy u' row) (hr : row ≠ some a.block) : u'.cell? a = some x ∧ u'.frozen? a = false := by
  obtain ⟨_, _, h3, h4⟩ := keep4g (a1 := a) (a2 := a) ⟨h.1, h.1, h.1, h.2⟩ hg hr hr hr
  exact ⟨h3, h4⟩

set_option maxHeartbeats 2000000 in
set_option maxRecDepth 100000 in
theorem r15_wp {v : World} (wb n ii bb gc tb : Nat) (bsl F tv : Value) (k base : Nat) (xs : List Value) (u : Nat → Value) (h4 : v.cell? ⟨wb, 4, none⟩ = some tv) (hf : v.frozen? ⟨wb, 4, none⟩ = false) (hown : v.ownsRow base 46 1 tv k xs) (hne : tv.ownBlock ≠ some wb) (hk : (k + 1) * 8 ≤ 140737488355328) (hbase : base ≤ v.heap.size) :
    r15.wp Try.prog (fun e a w' => e = .normal ∧ (∃ u : Nat → Value, a = { tmps := #[Pt wb 0, bsl, undef, undef, u 4, u 5, u 6, I ii, F, Pt tb 0, u 10, u 11, u 12, u 13, u 14, u 15, u 16, u 17, u 18, u 19, u 20, u 21, u 22, u 23, u 24, u 25, u 26, u 27, u 28, u 29, bsl] ++ #[I n, I ii, .bool true, I ii, Pt bb ii, F, Pt wb 0, I ii, .chan (some gc), .agg (trow wb ii gc 0 0 0 0), Pt tb 0, u 42, u 43, u 44, u 45, u 46, u 47, u 48, u 49, u 50, u 51, u 52, u 53, u 54, u 55, u 56, u 57, u 58, u 59, u 60, u 61], defers := [] }) ∧ Threaded wb tv k base xs (Pt tb 0) v w') { tmps := #[Pt wb 0, bsl, undef, undef, u 4, u 5, u 6, I ii, F, Pt tb 0, u 10, u 11, u 12, u 13, u 14, u 15, u 16, u 17, u 18, u 19, u 20, u 21, u 22, u 23, u 24, u 25, u 26, u 27, u 28, u 29, bsl] ++ #[I n, I ii, .bool true, I ii, Pt bb ii, F, Pt wb 0, I ii, .chan (some gc), .agg (trow wb ii gc 0 0 0 0), Pt tb 0, u 42, u 43, u 44, u 45, u 46, u 47, u 48, u 49, u 50, u 51, u 52, u 53, u 54, u 55, u 56, u 57, u 58, u 59, u 60, u 61], defers := [] } v := by
  have q4 : wb < v.heap.size := World.block_lt_of_cell? _ _ h4
  obtain ⟨tp, tc, htv⟩ := own_form hown
  have HO : Hid (v.ownsRow base 46 1 (.slice tp k tc) k xs) := ⟨by rw [← htv]; exact hown⟩
  have n1 : (Value.slice tp k tc).ownBlock ≠ some wb := by rw [← htv]; exact hne
  have HT : Hid (tv = .slice tp k tc) := ⟨htv⟩
  rw [htv] at h4
  clear hown htv hne
  obtain ⟨j0, hj, hj0, hj1, hj2⟩ := info_parts info46
  have hne : wb ≠ v.heap.size := by omega
  have hne' : v.heap.size ≠ wb := by omega
  have K4 : Hid (v.cell? ⟨wb, 4, none⟩ = some (.slice tp k tc) ∧ v.frozen? ⟨wb, 4, none⟩ = false) := ⟨⟨h4, hf⟩⟩
  show Code.wp Try.prog r15 _ _ _
  unfold r15 R15 HB HL B35 Try.f86 seq1 seq2 blockC loopC
  simp only [Option.getD_some, List.append_toArray, List.cons_append, List.nil_append]
  go_wp2_with (first
    | (refine wpList_append_lies _ rfl (.tmp 46) (.tmp 48) 81 rfl base 46 j0 _ 1 8 Try.underlying81 hj hj0 hj1 hj2 rfl (by decide) (.slice tp k tc) k xs rfl (own_later (below_alloc (Below.refl _ _) _) HO.out) ⟨_, 0, none⟩ 1 1 [Pt tb 0] rfl rfl (news1 _ _ _) (one1 _) (by decide) (by unfold maxLen; omega) (by omega) (by simp; omega) _ rfl ?_
       intro g cpg w6 hown6 hgrow6 hat6 hlt6
       obtain ⟨k5, k6⟩ := keep2g ⟨kcell (below_alloc (Below.refl _ _) _) K4.out.1, by rw [(below_alloc (Below.refl _ _) _).frozen q4]; exact K4.out.2⟩ hgrow6 n1))
  refine ⟨⟨fun m => match m with | 42 => Pt wb 0 | 43 => Pt wb 0 | 44 => Pt wb 0 | 45 => Pt wb 4 | 46 => .slice tp k tc | 47 => Pt tb 0 | 48 => .slice (some ⟨v.heap.size, 0, none⟩) 1 1 | 49 => .slice (some ⟨g, 0, none⟩) (k + 1) cpg | 50 => Pt wb 0 | 51 => Pt wb 4 | m => u m, by simp⟩, ?_⟩
  · rw [HT.out]
    exact threaded_of (below_alloc (Below.refl _ _) _) q4 hgrow6 hown6 hat6 n1
end Go.Proofs.Ytfjjoohflcchnaa

namespace Go.Lift
open Go.Conc
/-- It stands at a go statement. -/
theorem hire_at {P : Program} {K : World → Prop} {Still : Loc → Prop} {h : Nat} {o : Option Seat} {F : Goroutine → World → Prop} {b : Frame} {a : Act} {kk : List Item} {cs : List Frame} {ops : Array Oper} {i : Nat} {rest : List Nat} {op : Oper} {w : World} {d : Deferred} {f : Fn} {c : Array Value} (nh B₀ : Nat)
    (ho : ops[i]? = some op) (hw : Region.wanted op (yielded ops a.tmps) = true) (hk : b.kind ≠ .early) (hr : ∀ w, (execOp a.eval op).run P w = .ok (.spawn d) w) (hd : d.target = .fn f c) (he : ∀ w, (execOp a.eval op).events P w #[] = #[]) (hF : F (born P d) w) (hB₀ : B₀ ≤ w.heap.size)
    (hI : ∀ B, B₀ ≤ B → ∀ T, Deaf T h = 0 → Idle P K Still B T h nh (G (b.at (a.put op.dst undef) (.inRegion ops rest :: kk)) cs) o) : AtHire P K Still h o F (G (b.at a (.inRegion ops (i :: rest) :: kk)) cs) w :=
  ⟨rfl, _, born P d, #[], nh, B₀, hB₀, hF, fun d' => by rw [stepG_spawn ho hw hk (hr _) hd, listed_none (he _)], fun B _ e he => by simp at he, hI⟩
end Go.Lift
namespace Go.Proofs.Ytfjjoohflcchnaa
open Go Go.Lift Go.Conc Go.RowKit

set_option maxHeartbeats 2000000 in
set_option maxRecDepth 100000 in
/-- The new thread's row is made: one step that lists nothing. -/
theorem hire_box {main : Bool} (wb : Nat) (bsl F : Value) (n ii bb gc : Nat) (u : Nat → Value) (cs : List Frame) (w : World) :
    stepG Try.prog main (G (bFr1 wb bsl F n ii bb gc u) cs) w = .go (G (bFr2 wb bsl F n ii bb gc w.heap.size u) cs) (w.alloc (.cells (trow wb ii gc 0 0 0 0) 97)) #[] := by
  unfold bFr1 bFr2 ops3514 R15 R18 HB D35 HL B35 Try.f86 seq2 seq1 blockC loopC opsOf
  simp only [Option.getD_some, List.append_toArray, List.cons_append, List.nil_append]
  rw [stepG_value (v := Pt w.heap.size 0) (w' := w.alloc (.cells (trow wb ii gc 0 0 0 0) 97)) rfl rfl (by decide) (by go_simp), listed_none (by simp [go_sem, execOp])]
  rfl

/-- What the go statement makes. -/
abbrev d49 (tb : Nat) (F : Value) : Deferred := { target := .fn (.func 112) #[], args := #[Pt tb 0, F] }
theorem eR15 : R15 = .seq r15 R1617 := by kernel_rfl
noncomputable def ops3517 : Array Oper := opsOf (seq2 R1617)

/-- Served, main goes on to the loop's head. -/
def HBack (wb : Nat) (bsl : Value) (n ii : Nat) (cs : List Frame) (g : Goroutine) : Prop := ∀ (D : World → World → Array Event → Prop) (Stop : Goroutine → World → Prop) (x : Value) (w : World), (∀ w, D w w #[]) → (∀ u, GoesI Try.prog true D Stop (G (hFr wb bsl n ii u) cs) w) → GoesI Try.prog true D Stop (Go.Conc.served g x) w
set_option maxHeartbeats 2000000 in
set_option maxRecDepth 100000 in
/-- Served at its receive, main goes on to the loop's head. -/
theorem back35 (wb : Nat) (bsl F : Value) (n ii bb gc tb bk : Nat) (hb : (n : Int) < 9223372036854775808) (hi : ii < n) (u : Nat → Value) (cs : List Frame) :
    HBack wb bsl n (ii + 1) cs (G ((base 86).at ⟨#[Pt wb 0, bsl, undef, undef, u 4, u 5, u 6, I ii, F, Pt tb 0, u 10, u 11, u 12, u 13, u 14, u 15, u 16, u 17, u 18, u 19, u 20, u 21, u 22, u 23, u 24, u 25, u 26, u 27, u 28, u 29, bsl] ++ #[I n, I ii, .bool true, I ii, Pt bb ii, F, Pt wb 0, I ii, .chan (some gc), .agg (trow wb ii gc 0 0 0 0), Pt tb 0, u 42, u 43, u 44, u 45, u 46, u 47, u 48, u 49, u 50, u 51, Pt tb 0, F, Pt wb 0, Pt wb 0, Pt wb 8, .chan (some bk), u 58, u 59, u 60, u 61], []⟩ [.inRegion ops3517 [4], .inBlock 3, .code R18, .inLoop HL, .inBlock 2, .code D35]) cs) := by
  have HW : IntKind.i64.wrap ((ii : Int) + 1) = ((ii + 1 : Nat) : Int) := by rw [IntKind.wrap_i64]; omega
  intro D Stop x w hD h
  have h := h (fun m => match m with | 7 => I ii | 8 => F | 9 => Pt tb 0 | 33 => .bool true | 34 => I ii | 35 => Pt bb ii | 36 => F | 37 => Pt wb 0 | 38 => I ii | 39 => .chan (some gc) | 40 => .agg (trow wb ii gc 0 0 0 0) | 41 => Pt tb 0 | 52 => Pt tb 0 | 53 => F | 54 => Pt wb 0 | 55 => Pt wb 0 | 56 => Pt wb 8 | 57 => .chan (some bk) | 58 => x | 59 => I ((ii + 1 : Nat) : Int) | m => u m)
  unfold ops3517 R1617 R15 R18 HB D35 HL B35 Try.f86 seq2 seq1 blockC loopC opsOf
  unfold hFr D35 HL B35 Try.f86 seq2 seq1 blockC loopC at h
  simp only [Option.getD_some, List.append_toArray, List.cons_append, List.nil_append] at h ⊢
  rw [served_fr, Frame.finish_at]
  refine goesI_regionEnd hD ?_
  refine goesI_inBlock hD ?_
  refine goesI_region hD ?_
  simp only [List.size_toArray, List.length_cons, List.length_nil, Nat.reduceAdd, Nat.zero_add, List.range, List.range.loop]
  refine goesI_value (v := fun _ => I ((ii + 1 : Nat) : Int)) (w' := fun d => w.at d) rfl rfl (by decide) (fun d => by go_simp) (fun d => by rw [listed_none (by simp [go_sem, execOp])]; exact hD _) (fun d => GoesI.at ?_ d)
  refine goesI_value (v := fun _ => I ((ii + 1 : Nat) : Int)) (w' := fun d => w.at d) rfl rfl (by decide) (fun d => by go_simp) (fun d => by rw [listed_none (by simp [go_sem, execOp])]; exact hD _) (fun d => GoesI.at ?_ d)
  refine goesI_regionEnd hD ?_
  refine goesI_inLoop hD ?_
  exact h

set_option maxHeartbeats 2000000 in
set_option maxRecDepth 100000 in
theorem hire_b {z : Nat → Option Nat} {Ch : Nat → Prop} {Stop : Goroutine → World → Prop} {cont : Addr → Value} {v w : World} (wb n ii bb gc tb bk : Nat) (bsl F tv : Value) (k bs : Nat) (xs : List Value) (u : Nat → Value) (cs : List Frame) (Hm : Goroutine → Prop)
    (hH : ∀ g, HBack wb bsl n (ii + 1) cs g → Hm g) (hb : (n : Int) < 9223372036854775808) (hi : ii < n)
    (hvw : Rel z v w) (hn : NoRow Ch v) (h4 : v.cell? ⟨wb, 4, none⟩ = some tv) (hf : v.frozen? ⟨wb, 4, none⟩ = false) (hown : v.ownsRow bs 46 1 tv k xs) (hne : tv.ownBlock ≠ some wb) (hk : (k + 1) * 8 ≤ 140737488355328) (hbase : bs ≤ v.heap.size) (hz : z wb = some 8) (hcont : cont ⟨wb, 8, none⟩ = .chan (some bk))
    (hstop : ∀ g w', Lift.AtHire Try.prog (KC (ScZ z) cont) (StillC (ScZ z)) 0 (some (Seat.one bk (.agg #[]) false Hm)) (fun child w' => child = born Try.prog (d49 tb F) ∧ ∃ v', Rel z v' w' ∧ NoRow Ch v' ∧ Threaded wb tv k bs xs (Pt tb 0) v v') g w' → Stop g w') :
    GoesI Try.prog true (DT (ScZ z) Ch) Stop (G (bFr2 wb bsl F n ii bb gc tb u) cs) w := by
  have HO : Hid (v.ownsRow bs 46 1 tv k xs) := ⟨hown⟩
  have q4 : wb < v.heap.size := World.block_lt_of_cell? _ _ h4
  clear hown
  have hop : (ops3514.getD 5 default).op = .assign (.tmp 41) := by kernel_rfl
  have hds : (ops3514.getD 5 default).dst = some 9 := by kernel_rfl
  have hgd : (ops3514.getD 5 default).guard = none := by kernel_rfl
  have hoo : ops3514[5]? = some (ops3514.getD 5 default) := by kernel_rfl
  unfold bFr2
  simp only [List.append_toArray, List.cons_append, List.nil_append]
  refine goesI_value (o := ops3514.getD 5 default) (v := fun _ => Pt tb 0) (w' := fun d => w.at d) hoo (by unfold Region.wanted; rw [hgd]) (by decide) (fun d => by unfold execOp; rw [hop]; simp [go_sem, Act.eval]) (fun d => by rw [listed_none (by unfold execOp; rw [hop]; simp [go_sem])]; exact dt_idle _ _ _) (fun d => GoesI.at ?_ d)
  rw [hds]
  clear hop hds hgd hoo
  refine goesI_regionEnd (dt_idle _ _) ?_
  rw [eR15]
  refine goesI_seq (dt_idle _ _) ?_
  rw [show (Act.put { tmps := (#[Pt wb 0, bsl, undef, undef, u 4, u 5, u 6, I ii, F, u 9, u 10, u 11, u 12, u 13, u 14, u 15, u 16, u 17, u 18, u 19, u 20, u 21, u 22, u 23, u 24, u 25, u 26, u 27, u 28, u 29, bsl, I n, I ii, .bool true, I ii, Pt bb ii, F, Pt wb 0, I ii, .chan (some gc), .agg (trow wb ii gc 0 0 0 0), Pt tb 0, u 42, u 43, u 44, u 45, u 46, u 47, u 48, u 49, u 50, u 51, u 52, u 53, u 54, u 55, u 56, u 57, u 58, u 59, u 60, u 61]), defers := [] } (some 9) (Pt tb 0)) = { tmps := (#[Pt wb 0, bsl, undef, undef, u 4, u 5, u 6, I ii, F, Pt tb 0, u 10, u 11, u 12, u 13, u 14, u 15, u 16, u 17, u 18, u 19, u 20, u 21, u 22, u 23, u 24, u 25, u 26, u 27, u 28, u 29, bsl] ++ #[I n, I ii, .bool true, I ii, Pt bb ii, F, Pt wb 0, I ii, .chan (some gc), .agg (trow wb ii gc 0 0 0 0), Pt tb 0, u 42, u 43, u 44, u 45, u 46, u 47, u 48, u 49, u 50, u 51, u 52, u 53, u 54, u 55, u 56, u 57, u 58, u 59, u 60, u 61]), defers := [] } from by kernel_rfl]
  refine goesI_plain (z := z) (wr := true) (L := LT) (I := NoRow Ch) hE fineT noRow_keeps (fun v v' w w' es hi hr ho he => dt_of_z v v' w w' es hi hr ho he) hvw fineR15 rfl (by simp [base]) hn
    (Q := fun a w' => (∃ u : Nat → Value, a = { tmps := #[Pt wb 0, bsl, undef, undef, u 4, u 5, u 6, I ii, F, Pt tb 0, u 10, u 11, u 12, u 13, u 14, u 15, u 16, u 17, u 18, u 19, u 20, u 21, u 22, u 23, u 24, u 25, u 26, u 27, u 28, u 29, bsl] ++ #[I n, I ii, .bool true, I ii, Pt bb ii, F, Pt wb 0, I ii, .chan (some gc), .agg (trow wb ii gc 0 0 0 0), Pt tb 0, u 42, u 43, u 44, u 45, u 46, u 47, u 48, u 49, u 50, u 51, u 52, u 53, u 54, u 55, u 56, u 57, u 58, u 59, u 60, u 61], defers := [] }) ∧ Threaded wb tv k bs xs (Pt tb 0) v w') (fun τ => ?_) ?_
  · refine wp_mono (r15_wp (v := onTape v τ 0) wb n ii bb gc tb bsl F tv k bs xs u h4 hf HO.out hne hk hbase) (fun e a w' hq => ⟨hq.1, hq.2.1, ?_⟩)
    obtain ⟨g, cap, q1, q2, q3, q5⟩ := hq.2.2
    exact ⟨g, cap, q1, q2, q3, ⟨q5.os, q5.output, q5.size, q5.block⟩⟩
  rintro a' v' w' ⟨⟨u', rfl⟩, hT⟩ hr' hn' -
  have hwbl : wb < w'.heap.size := by
    obtain ⟨g, cap, q1, q2, q3, q5⟩ := hT
    rw [hr'.size]
    exact Nat.lt_of_lt_of_le q4 q5.size
  have HF : Hid (∃ v', Rel z v' w' ∧ NoRow Ch v' ∧ Threaded wb tv k bs xs (Pt tb 0) v v') := ⟨⟨v', hr', hn', hT⟩⟩
  have hbk := back35 wb bsl F n ii bb gc tb bk hb hi u' cs
  clear hT hr' hn' hvw hn h4 hf HO hne hk hbase q4
  unfold ops3517 R1617 R15 R18 HB D35 HL B35 Try.f86 seq2 seq1 blockC loopC opsOf at hbk
  unfold R1617 R15 R18 HB D35 HL B35 Try.f86 seq2 seq1 blockC loopC
  simp only [Option.getD_some, List.append_toArray, List.cons_append, List.nil_append] at hbk ⊢
  refine goesI_seq (dt_idle _ _) ?_
  refine goesI_region (dt_idle _ _) ?_
  simp only [List.size_toArray, List.length_cons, List.length_nil, Nat.reduceAdd, Nat.zero_add, List.range, List.range.loop]
  iterate 2
    (refine goesI_oper rfl rfl (by decide) (fun d K hK => ?_)
     go_simp
     refine hK _ _ ⟨dt_reads (fun e he => ?_), GoesI.at ?_ d⟩
     · have hm := mem_listed he
       simp [go_sem, *] at hm
       try exact ⟨_, _, hm⟩
     clear hK K)
  refine GoesI.stop fun d => hstop _ _ (hire_at (h := 0) (d := d49 tb F) 7 (wb + 1) rfl rfl (by decide) (fun w => by simp [go_sem, execOp, resolve, Act.eval]) rfl (fun w => by simp [go_sem, execOp, resolve, Act.eval]) ⟨rfl, ?_⟩ (Nat.succ_le_of_lt hwbl) (fun B hB T hT => ?_))
  · obtain ⟨v', k1, k2⟩ := HF.out
    exact ⟨v', k1.re rfl rfl rfl rfl rfl rfl, k2⟩
  · clear HF hstop hwbl
    refine .inl ⟨6, w', rfl, ?_⟩
    k_c stepG_region_end
    k_reg
    iterate 3
      (k_in
       refine goes_oper_k rfl rfl (by decide) (fun K hK => ?_)
       go_simp
       refine hK _ _ ⟨⟨rfl, fun e he => by (have hm := mem_listed he; simp [go_sem, *] at hm)⟩, ?_⟩
       clear hK K)
    k_in
    have q2 := h₁ ⟨wb, 8, none⟩ ⟨rfl, hz⟩
    rw [hcont] at q2
    refine goes_oper_k rfl rfl (by decide) (fun K hK => ?_)
    go_simp
    refine hK _ _ ⟨⟨rfl, fun e he => by (have hm := mem_listed he; simp [go_sem, *] at hm; subst hm; exact evC_read _ ⟨_, rfl, rfl, hz⟩ (by simp; omega))⟩, ?_⟩
    clear hK K
    refine Goes.stop fun w₂ h₂ => ⟨_, atIn_of (s := Seat.one bk (.agg #[]) false Hm) rfl rfl (by decide) (fun w => ?_) (fun w => ?_) (hH _ hbk)⟩
    · simp [go_sem, execOp, rcase, Act.eval, Seat.one]
    · simp [go_sem, execOp, Act.eval]
end Go.Proofs.Ytfjjoohflcchnaa
