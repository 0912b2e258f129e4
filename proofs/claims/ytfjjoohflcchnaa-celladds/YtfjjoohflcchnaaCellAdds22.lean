/- CellAdds returns true, whatever the schedule, the start and the numbers, and leaves what it was given as it was: of the law's statement as given, with no condition of our own. Part 22 of 34. (Joined, by program, of: Drive2, Drive3, Drive4.) -/
import Derived.Test.YtfjjoohflcchnaaCellAdds21
set_option linter.unusedSimpArgs false
set_option linter.unusedVariables false
namespace Go.Proofs.Ytfjjoohflcchnaa
open Go Go.Lift Go.Conc Go.RowKit
open Go.ConcN (upd upd_same upd_ne)

section
variable {Wr : Nat → Prop} {z : Nat → Option Nat} {S S' : TS} {K K' : List (Nat × Int)} {v v' : World}
/-- The world's blocks are rows. -/
theorem Mem.row (h : Mem z S K v) {b : Nat} (hb : Own S K b) : ∃ c e f, v.heap[b]? = some (.cells c e f) := by
  have own : ∀ {base : Nat} {e : TypeId} {size : Nat} {x : Value} {n : Nat} {xs : List Value}, v.ownsRow base e size x n xs → x.ownBlock = some b → ∃ c e f, v.heap[b]? = some (.cells c e f) := fun {base e size x n xs} ho hx => by
    rcases ho.2 with ⟨rfl, _⟩ | ⟨g, cap, cur, rfl, _, h3, _⟩
    · cases hx
    · cases Option.some.inj hx
      exact ⟨_, _, _, h3⟩
  rcases hb with ⟨k, hk⟩ | ⟨j, c, hc, rfl⟩
  · match k, hk with
    | 0, hk => cases hk; exact ⟨_, _, _, h.rep.wor⟩
    | 1, hk => exact own h.rep.chg hk
    | 2, hk => exact own h.rep.ths hk
    | 3, hk => exact own h.rep.own hk
    | 4, hk => exact own h.rep.sch hk
    | k + 5, hk =>
      simp only [blk, Option.map_eq_some_iff] at hk
      obtain ⟨t, ht, rfl⟩ := hk
      exact ⟨_, _, _, h.rep.thr k t ht⟩
  · exact ⟨_, _, _, h.cel j c hc⟩
theorem keepM (he : EvoP Wr z S K v S' K' v') {M : Nat → Option Obj} (hM : Has M v) (hfar : ∀ b, M b ≠ none → ¬ Own S K b) (hd : ∀ b, M b ≠ none → ¬ Wr b) : Has M v' ∧ ∀ b, M b ≠ none → ¬ Own S' K' b := by
  have k : ∀ b o, M b = some o → v'.heap[b]? = v.heap[b]? ∧ ¬ Own S' K' b := fun b o hb => he.keeps (Array.getElem?_eq_some_iff.1 (hM b o hb)).1 (hfar b (by rw [hb]; simp)) (hd b (by rw [hb]; simp))
  refine ⟨fun b o hb => by rw [(k b o hb).1]; exact hM b o hb, fun b hb => ?_⟩
  obtain ⟨o, ho⟩ := Option.ne_none_iff_exists'.1 hb
  exact (k b o ho).2
theorem Has.lt {M : Nat → Option Obj} (hM : Has M v) {b : Nat} (hb : M b ≠ none) : b < v.heap.size := by
  obtain ⟨o, ho⟩ := Option.ne_none_iff_exists'.1 hb
  exact (Array.getElem?_eq_some_iff.1 (hM b o ho)).1
end

/-- What main has in mind: blocks, and what was said to the outside. -/
structure Keep where
  M : Nat → Option Obj
  os : Os
  out : Array (Nat × ByteArray)
theorem has_ne {v : World} {M : Nat → Option Obj} {c : Nat} (h : Has M v) (hne : ∀ b, M b ≠ none → b ≠ c) (cap : Nat) (buf : Array Value) (cl : Bool) (a b : Nat) (tm : Bool) : Has M (v.setChan c cap buf cl a b tm) := fun y o ho => by
  rw [heap_setChan_ne _ _ _ _ _ _ _ (fun e => hne y (by rw [ho]; simp) e.symm)]
  exact h y o ho
def Open (v : World) (c : Nat) : Prop := ∃ cap n, v.heap[c]? = some (.chan cap #[] false n n false)
structure Crew (k : Nat) (X : Nat → Fix) (l : Nat → Ph) (E : Nat → Nat → Prop) (M : Nat → Nat → Option Obj) (Mm : Keep) (z : Nat → Option Nat) (cont : Addr → Value) (Ch : Nat → Prop) (S : TS) (K : List (Nat × Int)) (v : World) (gsz : Nat) : Prop where
  len : k ≤ S.thr.length
  ok : ∀ i, i < k → (X i).Ok ∧ (X i).i = i ∧ K.map (·.1) = (X i).kb
  thr : ∀ i, i < k → ∃ t, S.thr[i]? = some t ∧ t.tb = (X i).tb ∧ t.gc = (X i).gc ∧ FitsN (X i).kb.length (l i) t
  hinj : ∀ i j, i < k → j < k → (X i).h = (X j).h → i = j
  ginj : ∀ i j, i < k → j < k → (X i).gc = (X j).gc → i = j
  gbk : ∀ i, i < k → (X i).gc ≠ S.bk
  hlt : ∀ i, i < k → (X i).h < gsz
  zs : ∀ i, i < k → z (X i).tb = some 2 ∧ cont ⟨(X i).tb, 2, none⟩ = .chan (some (X i).gc) ∧ Ch (X i).gc
  z0 : z S.wb = some 8 ∧ cont ⟨S.wb, 8, none⟩ = .chan (some S.bk) ∧ Ch S.bk
  zc : ∀ c, Ch c → z c = none
  opn : ∀ c, Ch c → Open v c
  sees : ∀ i, i < k → Sees (X i) (E i) (M i) (l i).ans ∧ Has (M i) v ∧ ∀ b, M i b ≠ none → ¬ Own S K b
  apart : ∀ i j, i < k → j < k → i ≠ j → ∀ b, M j b ≠ none → ¬ (b = (X i).ab ∨ E i b)
  mine : Has Mm.M v ∧ (∀ b, Mm.M b ≠ none → ¬ Own S K b) ∧ (∀ b, Mm.M b ≠ none → ¬ Ch b) ∧ (∀ i, i < k → ∀ b, Mm.M b ≠ none → ¬ (b = (X i).ab ∨ E i b)) ∧ v.os = Mm.os ∧ v.output = Mm.out

section
variable {k : Nat} {X : Nat → Fix} {l : Nat → Ph} {E : Nat → Nat → Prop} {M : Nat → Nat → Option Obj} {Mm : Keep} {z : Nat → Option Nat} {cont : Addr → Value} {Ch : Nat → Prop} {S S' : TS} {K K' : List (Nat × Int)} {v v' : World} {gsz : Nat}
theorem Crew.noRow (h : Crew k X l E M Mm z cont Ch S K v gsz) : NoRow Ch v := fun c hc => by
  obtain ⟨cap, n, hh⟩ := h.opn c hc
  exact ⟨_, hh, fun _ _ _ e => by cases e⟩
theorem Crew.abM (h : Crew k X l E M Mm z cont Ch S K v gsz) {i : Nat} (hi : i < k) {b : Nat} (hb : b = (X i).ab ∨ E i b) : M i b ≠ none := by
  rcases hb with rfl | hb
  · exact (h.sees i hi).1.pr _ (.inr (.inr (.inl rfl)))
  · exact (h.sees i hi).1.ex _ hb
theorem open_stay {Wr : Nat → Prop} (hm : Mem z S K v) (he : EvoP Wr z S K v S' K' v') {c : Nat} (ho : Open v c) (hw : ∀ b, Wr b → ∃ x e f, v.heap[b]? = some (.cells x e f)) : Open v' c := by
  obtain ⟨cap, n, hh⟩ := ho
  refine ⟨cap, n, ?_⟩
  rw [(he.keeps (b := c) (Array.getElem?_eq_some_iff.1 hh).1 (fun h => ?_) (fun h => ?_)).1, hh]
  · obtain ⟨x, e, f, h1⟩ := hm.row h
    rw [hh] at h1; cases h1
  · obtain ⟨x, e, f, h1⟩ := hw c h
    rw [hh] at h1; cases h1

/-- A channel has turned. -/
theorem Crew.chan (h : Crew k X l E M Mm z cont Ch S K v gsz) {c : Nat} (hc : Ch c) (cap n : Nat) : Crew k X l E M Mm z cont Ch S K (v.setChan c cap #[] false n n false) gsz := by
  obtain ⟨o, ho, hno⟩ := h.noRow c hc
  refine ⟨h.len, h.ok, h.thr, h.hinj, h.ginj, h.gbk, h.hlt, h.zs, h.z0, h.zc, fun c' hc' => ?_, fun i hi => ?_, h.apart, ?_⟩
  · by_cases e : c = c'
    · subst e
      exact ⟨cap, n, heap_setChan_self v ho cap #[] false n n false⟩
    · obtain ⟨cp, m, hh⟩ := h.opn c' hc'
      exact ⟨cp, m, by rw [heap_setChan_ne _ _ _ _ _ _ _ e]; exact hh⟩
  · have := h.sees i hi
    exact ⟨this.1, has_chan this.2.1 this.1.row ⟨o, ho, hno⟩ cap #[] false n n false, this.2.2⟩
  · exact ⟨has_ne h.mine.1 (fun b hb e => h.mine.2.2.1 b hb (e ▸ hc)) cap #[] false n n false, h.mine.2⟩

/-- Main has gone a stretch. -/
theorem Crew.main (h : Crew k X l E M Mm z cont Ch S K v gsz) (hm : Mem z S K v) (he : Evo z S K v S' K v') (hwb : S'.wb = S.wb) (hbk : S'.bk = S.bk) (hlen : S'.thr.length = S.thr.length)
    (ht : ∀ (i : Nat) (t : Thr), S.thr[i]? = some t → ∃ t' : Thr, S'.thr[i]? = some t' ∧ t'.tb = t.tb ∧ t'.gc = t.gc ∧ t'.op = t.op ∧ t'.ce = t.ce ∧ (t.st = 3 → t'.st = 3)) : Crew k X l E M Mm z cont Ch S' K v' gsz := by
  have hp : EvoP (fun _ => False) z S K v S' K v' := he.toP
  refine ⟨by rw [hlen]; exact h.len, h.ok, fun i hi => ?_, h.hinj, h.ginj, fun i hi => by rw [hbk]; exact h.gbk i hi, h.hlt, h.zs, by rw [hwb, hbk]; exact h.z0, h.zc, fun c hc => open_stay hm hp (h.opn c hc) (fun _ h => h.elim), fun i hi => ?_, h.apart, ?_⟩
  · obtain ⟨t, h1, h2, h3, h4⟩ := h.thr i hi
    obtain ⟨t', k1, k2, k3, k4, k5, k6⟩ := ht i t h1
    refine ⟨t', k1, k2.trans h2, k3.trans h3, ?_⟩
    match hl : l i, h4 with
    | .turn (c :: _) _ _, h4 => exact ⟨k4.trans h4.1, k5.trans h4.2⟩
    | .turn [] _ _, h4 => exact h4
    | .wait (c :: _) _ _, h4 => exact h4
    | .wait [] _ _, h4 => exact h4
    | .done _, h4 => exact k6 h4
  · have := h.sees i hi
    exact ⟨this.1, keepM hp this.2.1 this.2.2 (fun _ _ h => h)⟩
  · have := keepM hp h.mine.1 h.mine.2.1 (fun _ _ h => h)
    exact ⟨this.1, this.2, h.mine.2.2.1, h.mine.2.2.2.1, he.fr.os.trans h.mine.2.2.2.2.1, he.fr.output.trans h.mine.2.2.2.2.2⟩

/-- A thread has gone from its seat to its next one. -/
theorem Crew.thread (h : Crew k X l E M Mm z cont Ch S K v gsz) (hm : Mem z S K v) {i : Nat} (hi : i < k) (he : EvoP (fun b => b = (X i).ab ∨ E i b) z S K v S' K' v') (hst : Sta i S S') {l' : Ph} {E' : Nat → Prop} {M' : Nat → Option Obj}
    (hfit : ∃ t', S'.thr[i]? = some t' ∧ FitsN (X i).kb.length l' t') (hs : Sees (X i) E' M' l'.ans) (hM' : Has M' v') (hfar : ∀ b, M' b ≠ none → ¬ Own S' K' b) (hnew : ∀ b, E' b → E i b ∨ v.heap.size ≤ b) :
    Crew k X (upd l i l') (upd E i E') (upd M i M') Mm z cont Ch S' K' v' gsz := by
  have hlt : ∀ j, j < k → ∀ b, M j b ≠ none → b < v.heap.size := fun j hj b hb => (h.sees j hj).2.1.lt hb
  have hrow : ∀ b, (b = (X i).ab ∨ E i b) → ∃ x e f, v.heap[b]? = some (.cells x e f) := fun b hb => by
    obtain ⟨o, ho⟩ := Option.ne_none_iff_exists'.1 (h.abM hi hb)
    obtain ⟨x, e, f, rfl⟩ := (h.sees i hi).1.row b o ho
    exact ⟨x, e, f, (h.sees i hi).2.1 b _ ho⟩
  have hdom : ∀ b, M' b ≠ none → M i b ≠ none ∨ v.heap.size ≤ b := fun b hb => by
    rcases hs.dom b hb with h1 | h1
    · exact .inl ((h.sees i hi).1.pr b h1)
    · rcases hnew b h1 with h2 | h2
      · exact .inl ((h.sees i hi).1.ex b h2)
      · exact .inr h2
  refine ⟨by rw [hst.len]; exact h.len, fun j hj => ⟨(h.ok j hj).1, (h.ok j hj).2.1, he.blks.trans (h.ok j hj).2.2⟩, fun j hj => ?_, h.hinj, h.ginj, fun j hj => by rw [hst.bk]; exact h.gbk j hj, h.hlt, h.zs, by rw [hst.wb, hst.bk]; exact h.z0, h.zc, fun c hc => open_stay hm he (h.opn c hc) hrow, fun j hj => ?_, fun a j ha hj hne b hb hx => ?_, ?_⟩
  · obtain ⟨t, h1, h2, h3, h4⟩ := h.thr j hj
    by_cases e : j = i
    · subst e
      obtain ⟨t', k1, k2⟩ := hfit
      obtain ⟨t2, q1, q2, q3⟩ := hst.own t h1
      rw [k1] at q1
      cases q1
      exact ⟨t', k1, q2.trans h2, q3.trans h3, by rw [upd_same]; exact k2⟩
    · exact ⟨t, by rw [hst.oth j e]; exact h1, h2, h3, by rw [upd_ne _ _ e]; exact h4⟩
  · by_cases e : j = i
    · subst e
      rw [upd_same, upd_same, upd_same]
      exact ⟨hs, hM', hfar⟩
    · rw [upd_ne _ _ e, upd_ne _ _ e, upd_ne _ _ e]
      have := h.sees j hj
      exact ⟨this.1, keepM he this.2.1 this.2.2 (h.apart i j hi hj (fun e' => e e'.symm))⟩
  · by_cases e1 : j = i
    · subst e1
      rw [upd_same] at hb
      have hne' : a ≠ j := hne
      rw [upd_ne _ _ hne'] at hx
      rcases hdom b hb with h1 | h1
      · exact h.apart a j ha hj hne b h1 hx
      · have := hlt a ha b (h.abM ha hx)
        omega
    · rw [upd_ne _ _ e1] at hb
      by_cases e2 : a = i
      · subst e2
        rw [upd_same] at hx
        rcases hx with h1 | h1
        · exact h.apart a j ha hj hne b hb (.inl h1)
        · rcases hnew b h1 with h2 | h2
          · exact h.apart a j ha hj hne b hb (.inr h2)
          · have := hlt j hj b hb; omega
      · rw [upd_ne _ _ e2] at hx
        exact h.apart a j ha hj hne b hb hx
  · have := keepM he h.mine.1 h.mine.2.1 (h.mine.2.2.2.1 i hi)
    refine ⟨this.1, this.2, h.mine.2.2.1, fun a ha b hb hx => ?_, he.fr.os.trans h.mine.2.2.2.2.1, he.fr.output.trans h.mine.2.2.2.2.2⟩
    by_cases e2 : a = i
    · subst e2
      rw [upd_same] at hx
      rcases hx with h1 | h1
      · exact h.mine.2.2.2.1 a ha b hb (.inl h1)
      · rcases hnew b h1 with h2 | h2
        · exact h.mine.2.2.2.1 a ha b hb (.inr h2)
        · have := h.mine.1.lt hb; omega
    · rw [upd_ne _ _ e2] at hx
      exact h.mine.2.2.2.1 a ha b hb hx
end

/-- Who sits where. -/
structure Seats (k N : Nat) (X : Nat → Fix) (l : Nat → Ph) (E : Nat → Nat → Prop) (M : Nat → Nat → Option Obj) (bk : Nat) (Inb : Nat → Option Seat) : Prop where
  seat : ∀ i, i < k → ∃ n, N ≤ n ∧ Inb (X i).h = seatOf (X i) (Home (X i) n) (l i) (E i) (M i)
  none : ∀ g, g ≠ 0 → (∀ i, i < k → (X i).h ≠ g) → Inb g = none
  main : ∀ s c, Inb 0 = some s → s.has c → c = bk
section
variable {k N : Nat} {X : Nat → Fix} {l : Nat → Ph} {E : Nat → Nat → Prop} {M : Nat → Nat → Option Obj} {bk : Nat} {Inb : Nat → Option Seat}
theorem seatOf_has {Y : Fix} {Hm : Ph → (Nat → Prop) → (Nat → Option Obj) → Goroutine → Prop} {p : Ph} {e : Nat → Prop} {m : Nat → Option Obj} {s : Seat} (h : seatOf Y Hm p e m = some s) : s = seatT Y.gc (Hm p e m) ∧ ∀ a, p ≠ .done a := by
  cases p with
  | turn => cases h; exact ⟨rfl, fun _ h => by cases h⟩
  | wait => cases h; exact ⟨rfl, fun _ h => by cases h⟩
  | done => cases h
theorem Seats.who (h : Seats k N X l E M bk Inb) {g : Nat} {s : Seat} {c : Nat} (hg : Inb g = some s) (hc : s.has c) : (g = 0 ∧ c = bk) ∨ ∃ i, i < k ∧ (X i).h = g ∧ c = (X i).gc := by
  by_cases e0 : g = 0
  · subst e0
    exact .inl ⟨rfl, h.main s c hg hc⟩
  · by_cases hx : ∃ i, i < k ∧ (X i).h = g
    · obtain ⟨i, hi, rfl⟩ := hx
      obtain ⟨n, _, hs⟩ := h.seat i hi
      rw [hs] at hg
      obtain ⟨rfl, _⟩ := seatOf_has hg
      exact .inr ⟨i, hi, rfl, Seat.one_has.1 hc⟩
    · rw [h.none g e0 (fun i hi e => hx ⟨i, hi, e⟩)] at hg
      cases hg
end
end Go.Proofs.Ytfjjoohflcchnaa

namespace Go.Proofs.Ytfjjoohflcchnaa
open Go Go.Lift Go.Conc Go.RowKit
open Go.ConcN (upd upd_same upd_ne)

/-- Served at its seat in the loop of turns, main goes on to the loop's head. -/
def HomeT (wb : Nat) (cs : List Frame) (g : Goroutine) : Prop := ∀ (z : Nat → Option Nat) (Ch : Nat → Prop) (Stop : Goroutine → World → Prop) (x : Value) (w : World), (∀ u, GoesI Try.prog true (DT (ScZ z) Ch) Stop (G (tFr wb u) cs) w) → GoesI Try.prog true (DT (ScZ z) Ch) Stop (Go.Conc.served g x) w

theorem atGive_at {K : World → Prop} {Still : Loc → Prop} {h c : Nat} {v : Value} {o : Option Seat} {F : World → Prop} {a : Goroutine} {w : World} (hF : ∀ d, F w → F (w.at d)) (hg : Lift.AtGive Try.prog K Still h c v o F a w) (d : Nat) : Lift.AtGive Try.prog K Still h c v o F a (w.at d) := by
  obtain ⟨h1, h2, a₂, z, es, nh, B₀, hB, hs, rest⟩ := hg
  exact ⟨h1, hF d h2, a₂, z, es, nh, B₀, hB, fun d' => hs d', rest⟩

/-- Goroutine h holds the turn. -/
structure Holds (k N : Nat) (X : Nat → Fix) (l : Nat → Ph) (E : Nat → Nat → Prop) (M : Nat → Nat → Option Obj) (Mm : Keep) (z : Nat → Option Nat) (cont : Addr → Value) (Ch : Nat → Prop) (S : TS) (K : List (Nat × Int)) (v : World) (B : Nat) (Mb : Nat → Prop) (Inb : Nat → Option Seat) (h : Nat) (T : Trace) (gs : Array Goroutine) (w : World) (q : Nat → Nat) : Prop where
  ring : Ring Try.prog (KC (ScZ z) cont) (StillC (ScZ z)) B Mb Inb h T gs w q
  mb : Mb h
  b : B ≤ w.heap.size
  rel : Rel z v w
  mem : Mem z S K v
  crew : Crew k X l E M Mm z cont Ch S K v gs.size
  seats : Seats k N X l E M S.bk Inb
  len : S.thr.length = k
  stt : ∀ i, i < k → ∀ t, S.thr[i]? = some t → StN (l i) t

section
variable {k N : Nat} {X : Nat → Fix} {l : Nat → Ph} {E : Nat → Nat → Prop} {M : Nat → Nat → Option Obj} {Mm : Keep} {z : Nat → Option Nat} {cont : Addr → Value} {Ch : Nat → Prop} {S : TS} {K : List (Nat × Int)} {v : World} {B : Nat} {Mb : Nat → Prop} {Inb : Nat → Option Seat} {h : Nat} {T : Trace} {gs : Array Goroutine} {w : World} {q : Nat → Nat}
theorem seat_ch {gsz : Nat} (cr : Crew k X l E M Mm z cont Ch S K v gsz) (st : Seats k N X l E M S.bk Inb) : ∀ g s c, Inb g = some s → s.has c → Ch c := fun g s c hg hc => by
  rcases st.who hg hc with ⟨_, rfl⟩ | ⟨i, hi, _, rfl⟩
  · exact cr.z0.2.2
  · exact (cr.zs i hi).2.2
theorem open_rel {v' w' : World} (hr : Rel z v' w') (hn : NoRow Ch v') {c : Nat} (hc : Ch c) (ho : Open v' c) : ∃ cap k, w'.heap[c]? = some (.chan cap #[] false k k false) := by
  obtain ⟨cap, n, hh⟩ := ho
  exact ⟨cap, n, by rw [noRow_rel hr hn hc]; exact hh⟩
theorem rdy_mem {i : Nat} (hi : (rdyIds S S.thr.length)[pickAt S (rdyIds S S.thr.length)]? = some i) : i < S.thr.length ∧ (S.thr[i]?).any (rdy S) = true := by
  have := List.mem_of_getElem? hi
  unfold rdyIds at this
  rw [List.mem_filter, List.mem_range] at this
  exact this

set_option maxHeartbeats 1000000 in
theorem round_go {u : Nat → Value} {cs : List Frame} (H : Holds k (N + 1) X l E M Mm z cont Ch S K v B Mb Inb 0 T gs w q) (hg : gs[0]? = some (G (tFr S.wb u) cs)) (h8 : k ≤ 8) (hsl : S.sched.length ≤ 4611686018427387904) (hsc : ∀ x ∈ S.sched, -9223372036854775808 ≤ x ∧ x < 9223372036854775808)
    {i : Nat} (hi : (rdyIds S S.thr.length)[pickAt S (rdyIds S S.thr.length)]? = some i) (sl : Option (Nat × Nat)) (hl : (resume i K.length (l i) (nv (going S i (thrI S i))) K).1.n * 40 ≤ 140737488355328) :
    ∃ (N' : Nat) (gs' : Array Goroutine) (w' : World) (sl' : Option (Nat × Nat)) (T' : Trace) (q' : Nat → Nat) (B' : Nat) (Mb' : Nat → Prop) (Inb' : Nat → Option Seat) (S' : TS) (v' : World) (E' : Nat → Nat → Prop) (M' : Nat → Nat → Option Obj) (u' : Nat → Value),
      runNT Try.prog N' (crowd gs w sl) T = (.next (crowd gs' w' sl'), T') ∧ gs'.size = gs.size ∧ gs'[0]? = some (G (tFr S'.wb u') cs) ∧ nv S' = (resume i K.length (l i) (nv (going S i (thrI S i))) K).1 ∧
      Holds k N X (upd l i (resume i K.length (l i) (nv (going S i (thrI S i))) K).2.2) E' M' Mm z cont Ch S' (resume i K.length (l i) (nv (going S i (thrI S i))) K).2.1 v' B' Mb' Inb' 0 T' gs' w' q' := by
  have cr := H.crew
  have st := H.seats
  obtain ⟨hik, hrd⟩ := rdy_mem hi
  rw [H.len] at hik
  obtain ⟨t, ht, htb, hgc, hfit⟩ := cr.thr i hik
  obtain ⟨ok, hXi, hXk⟩ := cr.ok i hik
  have hKl : (X i).kb.length = K.length := by rw [← hXk, List.length_map]
  have hst3 : t.st ≠ 3 := by
    rw [ht] at hrd
    simp only [Option.any_some] at hrd
    intro e
    unfold rdy at hrd
    rw [e] at hrd
    simp at hrd
  have eth : thrI S i = t := thrI_of ht
  rw [eth] at hl ⊢
  have h0h : 0 ≠ (X i).h := fun e => by have := ok.h; omega
  obtain ⟨n, hn, hseat⟩ := st.seat i hik
  obtain ⟨n', rfl⟩ : ∃ n', n = n' + 1 := ⟨n - 1, by omega⟩
  have hcons : ∃ c rest ii ans, l i = .turn (c :: rest) ii ans ∨ l i = .wait (c :: rest) ii ans := by
    match hli : l i, hfit with
    | .turn (c :: rest) ii ans, _ => exact ⟨c, rest, ii, ans, .inl rfl⟩
    | .wait (c :: rest) ii ans, _ => exact ⟨c, rest, ii, ans, .inr rfl⟩
    | .turn [] _ _, hf => exact hf.elim
    | .wait [] _ _, hf => exact hf.elim
    | .done _, hf => exact absurd hf hst3
  have hseat' : Inb (X i).h = some (seatT (X i).gc (Home (X i) (n' + 1) (l i) (E i) (M i))) := by
    rw [hseat]
    obtain ⟨c, rest, ii, ans, e | e⟩ := hcons <;> rw [e] <;> rfl
  -- MAIN GIVES
  have hG : GoesI Try.prog ((0 : Nat) == 0) (DT (ScZ z) Ch) (Lift.AtGive Try.prog (KC (ScZ z) cont) (StillC (ScZ z)) 0 t.gc (.agg #[]) (some (Seat.one S.bk (.agg #[]) false (HomeT S.wb cs))) (Then z Ch S K v (going S i t) K)) (G (tFr S.wb u) cs) w :=
    turn_in u cs (fun bd ad od qd rd oe kd hoe hT hF code hcode => turn50_goes cs (HomeT S.wb cs) hoe (fun g hb z Ch Stop x w h => hb _ Stop x w (dt_idle _ _) (hT z Ch Stop w h)) H.rel cr.noRow H.mem (by rw [H.len]; exact h8) hsl hsc (List.length_pos_of_mem (List.mem_of_getElem? hi)) hi ht cr.z0.1 cr.z0.2.1 (fun g w' hg => hg) code hcode)
  rw [hgc] at hG
  have hch0 := seat_ch cr st
  have hup0 : ∀ g s c, upd Inb 0 (some (Seat.one S.bk (.agg #[]) false (HomeT S.wb cs))) g = some s → s.has c → Ch c := fun g s c hg hc => by
    by_cases e : g = 0
    · subst e; rw [upd_same] at hg; cases hg
      rw [Seat.one_has.1 hc]; exact cr.z0.2.2
    · rw [upd_ne _ _ e] at hg; exact hch0 g s c hg hc
  obtain ⟨N1, gs1, w1, g₂, d, kk, cap, sl1, T1, q1, B1, r1, ⟨v1, hr1, hn1, he1⟩, z1, h1, hh, hch, ⟨hB1, hB1b, hB1c⟩, C1⟩ := pass_on (Inb := Inb) (Mem := Mb) (h := 0) (j := (X i).h) (c := (X i).gc) (kk := 0) (z := .agg #[]) (fun w d h => kc_at w d h)
    (fun s hs => by
      cases hs
      refine ⟨Seat.one_wf _ _ _ _, fun g s' c hg hs' hc hc' => ?_, fun w' hF c hc => ?_⟩
      · rw [Seat.one_has.1 hc'] at hc
        rcases st.who hs' hc with ⟨e, _⟩ | ⟨j, hj, _, e⟩
        · exact hg e
        · exact cr.gbk j hj e.symm
      · obtain ⟨v1, k1, k2, k3⟩ := hF
        rw [Seat.one_has.1 hc]
        exact open_rel k1 k2 cr.z0.2.2 (open_stay H.mem (Evo.toP (Pr := fun _ => False) k3) (cr.opn _ cr.z0.2.2) (fun _ h => h.elim)))
    (fun w g s c cap buf cl a b tm hg hc hK => kc_chan (cr.zc c (hup0 g s c hg hc)) hK cap buf cl a b tm)
    (fun w g s c cap buf cl a b tm hg hc hK => kc_chan (cr.zc c (hch0 g s c hg hc)) hK cap buf cl a b tm)
    (dh_of_dt hch0) (Ne.symm h0h) hseat' rfl H.mb hG gs sl T q B (cr.hlt i hik) hg H.ring
  -- THE THREAD GOES
  have hgCh := (cr.zs i hik).2.2
  have hS1 : (going S i t).wb = S.wb ∧ (going S i t).bk = S.bk ∧ (going S i t).thr = S.thr.set i { t with st := 0 } := by
    unfold going picked
    split <;> exact ⟨rfl, rfl, rfl⟩
  have ht1 : (going S i t).thr[i]? = some { t with st := 0 } := by rw [hS1.2.2]; exact set_get ht
  have cr1 : Crew k X l E M Mm z cont Ch (going S i t) K v1 gs.size := cr.main H.mem he1 hS1.1 hS1.2.1 (by rw [hS1.2.2, List.length_set]) (fun j t0 hj => by
    rw [hS1.2.2]
    by_cases e : j = i
    · subst e
      rw [ht] at hj
      cases hj
      exact ⟨_, set_get ht, rfl, rfl, rfl, rfl, fun h => absurd h hst3⟩
    · exact ⟨t0, by rw [List.getElem?_set, if_neg (fun e' => e e'.symm)]; exact hj, rfl, rfl, rfl, rfl, id⟩)
  have hno1 : ∀ (x : Array Value) (e : TypeId) (f : Nat × Nat), Obj.chan cap #[] false kk kk false ≠ Obj.cells x e f := fun _ _ _ h => by cases h
  have hv1c : v1.heap[(X i).gc]? = some (.chan cap #[] false kk kk false) := by rw [← noRow_rel hr1 hn1 hgCh]; exact hch
  have cr2 := cr1.chan hgCh cap (kk + 1)
  have hm2 : Mem z (going S i t) K (v1.setChan (X i).gc cap #[] false (kk + 1) (kk + 1) false) := he1.mem.chan hv1c hno1 cap #[] false (kk + 1) (kk + 1) false
  have hr2 := rel_chan hr1 (cr.zc _ hgCh) cap #[] false (kk + 1) (kk + 1) false d
  generalize hv2 : v1.setChan (X i).gc cap #[] false (kk + 1) (kk + 1) false = v2 at cr2 hm2 hr2
  generalize hw2 : (w1.at d).setChan (X i).gc cap #[] false (kk + 1) (kk + 1) false = w2 at hr2 C1 r1
  have hw2s : w2.heap.size = w1.heap.size := by rw [← hw2]; simp [World.setChan, World.at]
  have eR : resume (X i).i (X i).kb.length (l i) (nv (going S i t)) K = resume i K.length (l i) (nv (going S i t)) K := by rw [hXi, hKl]
  have hfit1 : FitsN (X i).kb.length (l i) { t with st := 0 } := by
    obtain ⟨c, rest, ii, ans, e | e⟩ := hcons <;> rw [e] at hfit ⊢ <;> exact hfit
  have hG2 : GoesI Try.prog ((X i).h == 0) (DT (ScZ z) Ch) (fun g' w' => ∃ E' M', Gives (X i) (Home (X i) n') z cont Ch (going S i t) K v2 (E i) (resume i K.length (l i) (nv (going S i t)) K).1 (resume i K.length (l i) (nv (going S i t)) K).2.1 (resume i K.length (l i) (nv (going S i t)) K).2.2 E' M' g' w') (Go.Conc.served g₂ (commResult (seatT (X i).gc (Home (X i) (n' + 1) (l i) (E i) (M i))).cases (seatT (X i).gc (Home (X i) (n' + 1) (l i) (E i) (M i))).shape ((0 : Nat) : Int) (.agg #[]) true)) w2 := by
    have hhome : Home (X i) (n' + 1) (l i) (E i) (M i) g₂ := hh
    refine hhome z Ch _ cont _ w2 v2 (going S i t) K { t with st := 0 } hr2 cr2.noRow hm2 (by rw [hXi]; exact ht1) htb hgc hfit1.fits hXk (cr.zs i hik).1 (cr.zs i hik).2.1 (cr2.sees i hik).2.1 (cr2.sees i hik).2.2 (by rw [eR]; exact hl) (fun g' w' E' M' hgv => ⟨E', M', ?_⟩)
    rw [eR] at hgv
    exact hgv
  generalize hR : resume i K.length (l i) (nv (going S i t)) K = R at hG2 hl ⊢
  have st1 : Seats k (N + 1) X l E M S.bk (upd Inb 0 (some (Seat.one S.bk (.agg #[]) false (HomeT S.wb cs)))) := by
    refine ⟨fun j hj => ?_, fun g hg0 hgn => by rw [upd_ne _ _ hg0]; exact st.none g hg0 hgn, fun s c hs hc => ?_⟩
    · rw [upd_ne _ _ (fun e => by have := (cr.ok j hj).1.h; omega)]
      exact st.seat j hj
    · rw [upd_same] at hs; cases hs
      exact Seat.one_has.1 hc
  obtain ⟨N2, gs2, a2, w3, sl2, T2, q2, B2, r2, z2, h2, ⟨E', M', hs', hnew', hat⟩, ⟨hB2, hB2b, hB2c⟩, C2⟩ := hold_goes (fun w d h => kc_at w d h) (dh_of_dt hup0) hG2 gs1 sl1 T1 q1 B1 h1 C1
  -- AND GIVES BACK
  have hbk1 : (going S i t).bk = S.bk := hS1.2.1
  rw [hbk1] at hat
  have hwbk : Ch S.bk := cr.z0.2.2
  have hupd2 : ∀ g s c, upd (upd Inb 0 (some (Seat.one S.bk (.agg #[]) false (HomeT S.wb cs)))) (X i).h (seatOf (X i) (Home (X i) n') R.2.2 E' M') g = some s → s.has c → Ch c := fun g s c hg hc => by
    by_cases e : g = (X i).h
    · subst e; rw [upd_same] at hg
      obtain ⟨rfl, _⟩ := seatOf_has hg
      rw [Seat.one_has.1 hc]; exact hgCh
    · rw [upd_ne _ _ e] at hg; exact hup0 g s c hg hc
  have hrow2 : ∀ b, (b = (X i).ab ∨ E i b) → ∃ x e f, v2.heap[b]? = some (.cells x e f) := fun b hb => by
    obtain ⟨o, ho⟩ := Option.ne_none_iff_exists'.1 (cr2.abM hik hb)
    obtain ⟨x, e, f, rfl⟩ := (cr2.sees i hik).1.row b o ho
    exact ⟨x, e, f, (cr2.sees i hik).2.1 b _ ho⟩
  have hMi : Mb (X i).h := (H.ring.mem _ _ hseat').1
  obtain ⟨N3, gs3, w4, g₃, d3, kk3, cap3, sl3, T3, q3, B3, r3, hF3, z3, h3, hh3, hch3, ⟨hB3, hB3b, hB3c⟩, C3⟩ := pass_on (Inb := upd Inb 0 (some (Seat.one S.bk (.agg #[]) false (HomeT S.wb cs)))) (h := (X i).h) (j := 0) (c := S.bk) (kk := 0) (z := .agg #[]) (s := Seat.one S.bk (.agg #[]) false (HomeT S.wb cs)) (fun w d h => kc_at w d h)
    (fun s hs => by
      obtain ⟨rfl, _⟩ := seatOf_has hs
      refine ⟨Seat.one_wf _ _ _ _, fun g s' c hg hs'' hc hc' => ?_, fun w' hF c hc => ?_⟩
      · have ec : c = (X i).gc := Seat.one_has.1 hc'
        rw [ec] at hc
        rcases st1.who hs'' hc with ⟨_, e⟩ | ⟨j, hj, hjg, e⟩
        · exact cr.gbk i hik e
        · exact hg (by rw [← hjg, cr.ginj i j hik hj e])
      · obtain ⟨v3, S', k1, k2, k3, k4, k5⟩ := hF
        rw [show c = (X i).gc from Seat.one_has.1 hc]
        exact open_rel k1 k2 hgCh (open_stay hm2 k4 (cr2.opn _ hgCh) hrow2))
    (fun w g s c cap buf cl a b tm hg hc hK => kc_chan (cr.zc c (hupd2 g s c hg hc)) hK cap buf cl a b tm)
    (fun w g s c cap buf cl a b tm hg hc hK => kc_chan (cr.zc c (hup0 g s c hg hc)) hK cap buf cl a b tm)
    (D := DT (ScZ z) Ch) (dh_of_dt hup0) h0h (upd_same _ _ _) rfl ⟨hMi, .inr rfl⟩
    (GoesI.stop (fun d => atGive_at (fun d hF => by obtain ⟨v3, S', k1, k2⟩ := hF; exact ⟨v3, S', k1.re rfl rfl rfl rfl rfl rfl, k2⟩) hat d)) gs2 sl2 T2 q2 B2 (by have := (Array.getElem?_eq_some_iff.1 hg).1; omega) h2 C2
  obtain ⟨v3, S', hr3, hn3, hS', he3, hM3, hfar3⟩ := hF3
  -- MAIN IS BACK AT THE LOOP's HEAD
  have sR := resume_sta i K.length (l i) (nv (going S i t)) K
  rw [hR, ← hS'] at sR
  have sR' : Sta i (going S i t) S' := ⟨sR.wb, sR.bk, sR.base, sR.us, sR.la, sR.sc, sR.cv, sR.ths, sR.sched, sR.stk, sR.ran, sR.n, sR.chg, sR.len, sR.oth, sR.own⟩
  have hfit' : ∃ t', S'.thr[i]? = some t' ∧ FitsN (X i).kb.length R.2.2 t' := by
    obtain ⟨c, rest, ii, ans, hli⟩ := hcons
    have := resume_fits i (X i).kb.length c rest ii ans (nv (going S i t)) K { t with st := 0 } ht1 (l i) hli hfit1
    rw [hKl, hR, ← hS'] at this
    rw [hKl]
    exact this
  have cr3 := cr2.thread hm2 hik he3 sR' hfit' hs' hM3 hfar3 hnew'
  have hwb' : S'.wb = S.wb := sR'.wb.trans hS1.1
  have hbk' : S'.bk = S.bk := sR'.bk.trans hS1.2.1
  have hv3c : v3.heap[S.bk]? = some (.chan cap3 #[] false kk3 kk3 false) := by rw [← noRow_rel hr3 hn3 hwbk]; exact hch3
  have cr4 := cr3.chan hwbk cap3 (kk3 + 1)
  have hm4 : Mem z S' R.2.1 (v3.setChan S.bk cap3 #[] false (kk3 + 1) (kk3 + 1) false) := he3.mem.chan hv3c (fun _ _ _ h => by cases h) cap3 #[] false (kk3 + 1) (kk3 + 1) false
  have hr4 := rel_chan hr3 (cr.zc _ hwbk) cap3 #[] false (kk3 + 1) (kk3 + 1) false d3
  generalize hv4 : v3.setChan S.bk cap3 #[] false (kk3 + 1) (kk3 + 1) false = v4 at cr4 hm4 hr4
  generalize hw5 : (w4.at d3).setChan S.bk cap3 #[] false (kk3 + 1) (kk3 + 1) false = w5 at hr4 C3 r3
  have hw5s : w5.heap.size = w4.heap.size := by rw [← hw5]; simp [World.setChan, World.at]
  have hG4 : GoesI Try.prog ((0 : Nat) == 0) (DT (ScZ z) Ch) (fun g w' => (∃ u, g = G (tFr S.wb u) cs) ∧ Rel z v4 w') (Go.Conc.served g₃ (commResult (Seat.one S.bk (.agg #[]) false (HomeT S.wb cs)).cases (Seat.one S.bk (.agg #[]) false (HomeT S.wb cs)).shape ((0 : Nat) : Int) (.agg #[]) true)) w5 := by
    have hhome : HomeT S.wb cs g₃ := hh3
    exact hhome z Ch _ _ w5 (fun u => GoesI.stop fun d => ⟨⟨u, rfl⟩, hr4.re rfl rfl rfl rfl rfl rfl⟩)
  obtain ⟨N4, gs4, a4, w6, sl4, T4, q4, B4, r4, z4, h4, ⟨⟨u4, rfl⟩, hr6⟩, ⟨hB4, hB4b, hB4c⟩, C4⟩ := hold_goes (fun w d h => kc_at w d h) (dh_of_dt hupd2) hG4 gs3 sl3 T3 q3 B3 h3 C3
  have hsz : gs4.size = gs.size := by omega
  refine ⟨N1 + N2 + N3 + N4, gs4, w6, sl4, T4, q4, B4, _, _, S', v4, upd E i E', upd M i M', u4, runNT_then (runNT_then (runNT_then r1 r2) r3) r4, hsz, by rw [hwb']; exact h4, hS', ⟨C4, ⟨⟨H.mb, .inl (by rw [upd_same]; simp)⟩, .inr rfl⟩, ?_, hr6, hm4, by rw [hsz]; exact cr4, ?_, by rw [sR'.len, hS1.2.2, List.length_set]; exact H.len, fun j hj t0 hj0 => ?_⟩⟩
  · have := H.b
    omega
  · rw [hbk']
    refine ⟨fun j hj => ?_, fun g hg0 hgn => ?_, fun s c hs hc => ?_⟩
    · by_cases e : j = i
      · subst e
        exact ⟨n', by omega, by rw [upd_same, upd_same, upd_same, upd_same]⟩
      · have hne : (X j).h ≠ (X i).h := fun e' => e (cr.hinj j i hj hik e')
        obtain ⟨m, hm, hsm⟩ := st1.seat j hj
        exact ⟨m, by omega, by rw [upd_ne _ _ hne, upd_ne _ _ e, upd_ne _ _ e, upd_ne _ _ e]; exact hsm⟩
    · rw [upd_ne _ _ (fun e => hgn i hik e.symm)]
      exact st1.none g hg0 hgn
    · rw [upd_ne _ _ h0h] at hs
      exact st1.main s c hs hc
  · by_cases e : j = i
    · subst e
      obtain ⟨c, rest, ii, ans, hli⟩ := hcons
      obtain ⟨t', k1, k2⟩ := resume_st j K.length c rest ii ans (nv (going S j t)) K { t with st := 0 } ht1 (l j) hli
      rw [hR, ← hS'] at k1
      rw [hR] at k2
      have e2 : some t0 = some t' := hj0.symm.trans k1
      cases e2
      rw [upd_same]
      exact k2
    · rw [upd_ne _ _ e]
      rw [sR'.oth j e, hS1.2.2, List.getElem?_set, if_neg (fun e' => e e'.symm)] at hj0
      exact H.stt j hj t0 hj0
end
end Go.Proofs.Ytfjjoohflcchnaa

namespace Go.Proofs.Ytfjjoohflcchnaa
open Go Go.Lift Go.Conc Go.RowKit
open Go.ConcN (upd upd_same upd_ne)

section
variable {k N : Nat} {X : Nat → Fix} {l : Nat → Ph} {E : Nat → Nat → Prop} {M : Nat → Nat → Option Obj} {Mm : Keep} {z : Nat → Option Nat} {cont : Addr → Value} {Ch : Nat → Prop} {S : TS} {K : List (Nat × Int)} {v : World} {B : Nat} {Mb : Nat → Prop} {Inb : Nat → Option Seat} {h : Nat} {T : Trace} {gs : Array Goroutine} {w : World} {q : Nat → Nat}

theorem Holds.fewer (H : Holds k (N + 1) X l E M Mm z cont Ch S K v B Mb Inb h T gs w q) : Holds k N X l E M Mm z cont Ch S K v B Mb Inb h T gs w q :=
  ⟨H.ring, H.mb, H.b, H.rel, H.mem, H.crew, ⟨fun i hi => by obtain ⟨n, h1, h2⟩ := H.seats.seat i hi; exact ⟨n, by omega, h2⟩, H.seats.none, H.seats.main⟩, H.len, H.stt⟩

theorem round_stuck {u : Nat → Value} {cs : List Frame} (H : Holds k N X l E M Mm z cont Ch S K v B Mb Inb 0 T gs w q) (hg : gs[0]? = some (G (tFr S.wb u) cs)) (h8 : k ≤ 8) (h0 : rdyIds S S.thr.length = []) (hw : waits2 S S.thr.length = true) (hn : (S.n + 1) * 40 ≤ 140737488355328) (sl : Option (Nat × Nat)) :
    ∃ (N' : Nat) (gs' : Array Goroutine) (w' : World) (sl' : Option (Nat × Nat)) (T' : Trace) (q' : Nat → Nat) (B' : Nat) (S' : TS) (v' : World) (u' : Nat → Value),
      runNT Try.prog N' (crowd gs w sl) T = (.next (crowd gs' w' sl'), T') ∧ gs'.size = gs.size ∧ gs'[0]? = some (G (tFr S'.wb u') cs) ∧ nv S' = stuckS (nv S) undef ∧
      Holds k N X l E M Mm z cont Ch S' K v' B' Mb Inb 0 T' gs' w' q' := by
  have cr := H.crew
  have hG : GoesI Try.prog ((0 : Nat) == 0) (DT (ScZ z) Ch) (fun g w' => (∃ u, g = G (tFr S.wb u) cs) ∧ ∃ v' tv, Rel z v' w' ∧ Evo z S K v (stuckS S tv) K v') (G (tFr S.wb u) cs) w :=
    turn_in u cs (fun bd ad od qd rd oe kd hoe hT hF code hcode => turn50_stuck cs hoe H.rel cr.noRow H.mem (by rw [H.len]; exact h8) h0 hw hn (fun v' w' tv hr hn he => hT z Ch _ w' (fun u' => GoesI.stop fun d => ⟨⟨u', rfl⟩, v', tv, hr.re rfl rfl rfl rfl rfl rfl, he⟩)) code hcode)
  obtain ⟨N1, gs1, a1, w1, sl1, T1, q1, B1, r1, z1, h1, ⟨⟨u1, rfl⟩, v1, tv, hr1, he1⟩, ⟨hB1, hB1b, hB1c⟩, C1⟩ := hold_goes (fun w d h => kc_at w d h) (dh_of_dt (seat_ch cr H.seats)) hG gs sl T q B hg H.ring
  refine ⟨N1, gs1, w1, sl1, T1, q1, B1, stuckS S tv, v1, u1, r1, z1, h1, rfl, ⟨C1, H.mb, by have := H.b; omega, hr1, he1.mem, by rw [z1]; exact cr.main H.mem he1 rfl rfl rfl (fun i t ht => ⟨t, ht, rfl, rfl, rfl, rfl, id⟩), H.seats, H.len, H.stt⟩⟩

theorem round_end {u : Nat → Value} {cs : List Frame} {bc : Frame} {ac : Act} {ops : Array Oper} {q0 : Nat} {rest : List Nat} {oc : Oper} {k0 : List Item} (hoc : ops[q0]? = some oc) (H : Holds k N X l E M Mm z cont Ch S K v B Mb Inb 0 T gs w q) (hg : gs[0]? = some (G (tFr S.wb u) (bc.at ac (.inRegion ops (q0 :: rest) :: k0) :: cs))) (h8 : k ≤ 8) (h0 : rdyIds S S.thr.length = []) (hw : waits2 S S.thr.length = false) (sl : Option (Nat × Nat)) :
    ∃ (N' : Nat) (gs' : Array Goroutine) (w' : World) (sl' : Option (Nat × Nat)) (T' : Trace) (q' : Nat → Nat) (B' : Nat) (v' : World),
      runNT Try.prog N' (crowd gs w sl) T = (.next (crowd gs' w' sl'), T') ∧ gs'.size = gs.size ∧ gs'[0]? = some (G (bc.at (ac.put oc.dst (.tuple #[])) (.inRegion ops rest :: k0)) cs) ∧
      Holds k N X l E M Mm z cont Ch S K v' B' Mb Inb 0 T' gs' w' q' := by
  have cr := H.crew
  have hG : GoesI Try.prog ((0 : Nat) == 0) (DT (ScZ z) Ch) (fun g w' => g = G (bc.at (ac.put oc.dst (.tuple #[])) (.inRegion ops rest :: k0)) cs ∧ ∃ v', Rel z v' w' ∧ Evo z S K v S K v') (G (tFr S.wb u) (bc.at ac (.inRegion ops (q0 :: rest) :: k0) :: cs)) w :=
    turn_in u _ (fun bd ad od qd rd oe kd hoe hT hF code hcode => turn50_end _ hoe H.rel cr.noRow H.mem (by rw [H.len]; exact h8) h0 hw (fun v' w' hr hn he => hF z Ch _ w' bc ac ops q0 rest oc k0 cs rfl hoc (GoesI.stop fun d => ⟨rfl, v', hr.re rfl rfl rfl rfl rfl rfl, he⟩)) code hcode)
  obtain ⟨N1, gs1, a1, w1, sl1, T1, q1, B1, r1, z1, h1, ⟨rfl, v1, hr1, he1⟩, ⟨hB1, hB1b, hB1c⟩, C1⟩ := hold_goes (fun w d h => kc_at w d h) (dh_of_dt (seat_ch cr H.seats)) hG gs sl T q B hg H.ring
  exact ⟨N1, gs1, w1, sl1, T1, q1, B1, v1, r1, z1, h1, ⟨C1, H.mb, by have := H.b; omega, hr1, he1.mem, by rw [z1]; exact cr.main H.mem he1 rfl rfl rfl (fun i t ht => ⟨t, ht, rfl, rfl, rfl, rfl, id⟩), H.seats, H.len, H.stt⟩⟩

/-- Nobody could go and nobody waits: all have ended. -/
theorem all_done (H : Holds k N X l E M Mm z cont Ch S K v B Mb Inb h T gs w q) (h0 : rdyIds S S.thr.length = []) (hw : waits2 S S.thr.length = false) : ∀ i, i < k → ∃ a, l i = .done a := by
  intro i hi
  obtain ⟨t, ht, _⟩ := H.crew.thr i hi
  have hs := H.stt i hi t ht
  have hlt : i < S.thr.length := by rw [H.len]; exact hi
  match hl : l i, hs with
  | .done a, _ => exact ⟨a, rfl⟩
  | .turn _ _ _, hs =>
    exfalso
    have : i ∈ rdyIds S S.thr.length := by
      unfold rdyIds
      rw [List.mem_filter, List.mem_range]
      refine ⟨hlt, ?_⟩
      rw [ht]
      have hs' : t.st = 1 := hs
      simp [rdy, hs']
    rw [h0] at this
    cases this
  | .wait _ _ _, hs =>
    exfalso
    have hs' : t.st = 2 := hs
    have : waits2 S S.thr.length = true := by
      unfold waits2
      rw [List.any_eq_true]
      exact ⟨i, by simpa using hlt, by rw [ht]; simp [hs']⟩
    rw [hw] at this
    cases this
end

/-- So many turns, and the end. -/
inductive Turns (nk : Nat) : Nat → PSt → PSt → Prop
  | stop {p : PSt} : pturn nk p = none → Turns nk 0 p p
  | step {n : Nat} {p p1 p' : PSt} : pturn nk p = some p1 → Turns nk n p1 p' → Turns nk (n + 1) p p'
theorem nv_picked (S : TS) : nv (picked S) = picked (nv S) := by
  unfold picked
  by_cases h : S.us < S.sched.length
  · rw [if_pos h, if_pos (show (nv S).us < (nv S).sched.length from h)]; rfl
  · rw [if_neg h, if_neg (show ¬ (nv S).us < (nv S).sched.length from h)]
theorem nv_going (S : TS) (i : Nat) (t : Thr) : nv (going S i t) = going (nv S) i t := by
  unfold going
  rw [← nv_picked]
  rfl
theorem pickAt_lt (S : TS) {ids : List Nat} (h : 0 < ids.length) : pickAt S ids < ids.length := by
  unfold pickAt
  split
  · exact which_lt _ h
  · cases hf : ids.findIdx? (fun (i : Nat) => decide (S.la < (i : Int))) with
    | none => exact h
    | some k => exact (List.findIdx?_eq_some_iff_getElem.1 hf).1
theorem going_n (S : TS) (i : Nat) (t : Thr) : (going S i t).n = S.n ∧ (going S i t).sched = S.sched := by
  unfold going picked
  split <;> exact ⟨rfl, rfl⟩
theorem pturn_n {nk : Nat} {p p1 : PSt} (h : pturn nk p = some p1) : p.S.n ≤ p1.S.n ∧ p1.S.sched = p.S.sched := by
  unfold pturn at h
  split at h
  · split at h
    · cases h; exact ⟨Nat.le_succ _, rfl⟩
    · cases h
  · cases h
    have s := resume_sta (nextI p.S) nk (p.l (nextI p.S)) (going p.S (nextI p.S) (thrI p.S (nextI p.S))) p.K
    have g := going_n p.S (nextI p.S) (thrI p.S (nextI p.S))
    exact ⟨by rw [← g.1]; exact s.n, by rw [← g.2]; exact s.sched⟩
theorem Turns.le {nk : Nat} : ∀ {n : Nat} {p p' : PSt}, Turns nk n p p' → p.S.n ≤ p'.S.n
  | _, _, _, .stop _ => Nat.le_refl _
  | _, _, _, .step h t => Nat.le_trans (pturn_n h).1 t.le

/-- THE LOOP OF TURNS, TO ITS END. -/
theorem turns_run {k : Nat} {X : Nat → Fix} {Mm : Keep} {z : Nat → Option Nat} {cont : Addr → Value} {Ch : Nat → Prop} {cs : List Frame} {bc : Frame} {ac : Act} {ops : Array Oper} {q0 : Nat} {rest : List Nat} {oc : Oper} {k0 : List Item} (hoc : ops[q0]? = some oc) (h8 : k ≤ 8) {nk : Nat} :
    ∀ (n : Nat) (p p' : PSt), Turns nk n p p' → ∀ (l : Nat → Ph) (E : Nat → Nat → Prop) (M : Nat → Nat → Option Obj) (S : TS) (K : List (Nat × Int)) (v : World) (B : Nat) (Mb : Nat → Prop) (Inb : Nat → Option Seat) (T : Trace) (gs : Array Goroutine) (w : World) (q : Nat → Nat) (sl : Option (Nat × Nat)) (u : Nat → Value),
      nk = K.length → p.S = nv S → p.K = K → p.l = l → S.sched.length ≤ 4611686018427387904 → (∀ x ∈ S.sched, -9223372036854775808 ≤ x ∧ x < 9223372036854775808) → p'.S.n * 40 ≤ 140737488355328 →
      Holds k n X l E M Mm z cont Ch S K v B Mb Inb 0 T gs w q → gs[0]? = some (G (tFr S.wb u) (bc.at ac (.inRegion ops (q0 :: rest) :: k0) :: cs)) →
      ∃ (N' : Nat) (gs' : Array Goroutine) (w' : World) (sl' : Option (Nat × Nat)) (T' : Trace) (q' : Nat → Nat) (B' : Nat) (Mb' : Nat → Prop) (Inb' : Nat → Option Seat) (S' : TS) (v' : World) (E' : Nat → Nat → Prop) (M' : Nat → Nat → Option Obj),
        runNT Try.prog N' (crowd gs w sl) T = (.next (crowd gs' w' sl'), T') ∧ gs'.size = gs.size ∧ gs'[0]? = some (G (bc.at (ac.put oc.dst (.tuple #[])) (.inRegion ops rest :: k0)) cs) ∧ nv S' = p'.S ∧
        Holds k 0 X p'.l E' M' Mm z cont Ch S' p'.K v' B' Mb' Inb' 0 T' gs' w' q' ∧ ∀ i, i < k → ∃ a, p'.l i = .done a := by
  intro n p p' ht
  induction ht with
  | stop hp =>
    rename_i p
    intro l E M S K v B Mb Inb T gs w q sl u hnk hS hK hl hsl hsc hn H hg
    unfold pturn at hp
    split at hp
    · rename_i h0
      split at hp
      · cases hp
      · rename_i hw
        rw [hS] at h0 hw
        have hw' : waits2 S S.thr.length = false := Bool.eq_false_iff.2 hw
        obtain ⟨N', gs', w', sl', T', q', B', v', r, z1, h1, H1⟩ := round_end hoc H hg h8 h0 hw' sl
        rw [hl, hK]
        exact ⟨N', gs', w', sl', T', q', B', Mb, Inb, S, v', E, M, r, z1, h1, hS.symm, H1, all_done H1 h0 hw'⟩
    · cases hp
  | step hp htt ih =>
    rename_i n p p1 p'
    intro l E M S K v B Mb Inb T gs w q sl u hnk hS hK hl hsl hsc hn H hg
    have hp0 := hp
    unfold pturn at hp
    split at hp
    · rename_i h0
      split at hp
      · rename_i hw
        have hp1 := Option.some.inj hp
        rw [hS] at h0 hw
        have hle := htt.le
        rw [← hp1, hS] at hle
        obtain ⟨N', gs', w', sl', T', q', B', S', v', u', r, z1, h1, hS1, H1⟩ := round_stuck H.fewer hg h8 h0 hw (Nat.le_trans (Nat.mul_le_mul_right 40 hle) hn) sl
        have es : S'.sched = S.sched := by
          have := congrArg TS.sched hS1
          exact this
        obtain ⟨N2, gs2, w2, sl2, T2, q2, B2, Mb2, Inb2, S2, v2, E2, M2, r2, z2, h2, hS2, H2, hd⟩ := ih l E M S' K v' B' Mb Inb T' gs' w' q' sl' u' hnk (by rw [← hp1, hS1, hS]) (by rw [← hp1]; exact hK) (by rw [← hp1]; exact hl) (by rw [es]; exact hsl) (by rw [es]; exact hsc) hn H1 h1
        exact ⟨N' + N2, gs2, w2, sl2, T2, q2, B2, Mb2, Inb2, S2, v2, E2, M2, runNT_then r r2, z2.trans z1, h2, hS2, H2, hd⟩
      · cases hp
    · rename_i h0
      have hp1 := Option.some.inj hp
      rw [hS] at h0
      have hlen : 0 < (rdyIds S S.thr.length).length := List.length_pos_iff.2 h0
      have hpk : pickAt S (rdyIds S S.thr.length) < (rdyIds S S.thr.length).length := pickAt_lt S hlen
      obtain ⟨i, hi⟩ : ∃ i, (rdyIds S S.thr.length)[pickAt S (rdyIds S S.thr.length)]? = some i := ⟨_, List.getElem?_eq_getElem hpk⟩
      have hni : nextI p.S = i := by
        rw [hS]
        show ((rdyIds S S.thr.length)[pickAt S (rdyIds S S.thr.length)]?).getD 0 = i
        rw [hi]; rfl
      have eR : resume (nextI p.S) nk (p.l (nextI p.S)) (going p.S (nextI p.S) (thrI p.S (nextI p.S))) p.K = resume i K.length (l i) (nv (going S i (thrI S i))) K := by
        rw [hni, hnk, hl, hK, hS, nv_going]
        rfl
      rw [eR, hni, hl] at hp1
      have hle := htt.le
      rw [← hp1] at hle
      obtain ⟨N', gs', w', sl', T', q', B', Mb', Inb', S', v', E', M', u', r, z1, h1, hS1, H1⟩ := round_go H hg h8 hsl hsc hi sl (Nat.le_trans (Nat.mul_le_mul_right 40 hle) hn)
      have es : S'.sched = S.sched := by
        have e1 := congrArg TS.sched hS1
        have e2 := (resume_sta i K.length (l i) (nv (going S i (thrI S i))) K).sched
        have e3 := (going_n S i (thrI S i)).2
        exact e1.trans (e2.trans e3)
      have hK1 : (resume i K.length (l i) (nv (going S i (thrI S i))) K).2.1.length = K.length := by
        have hb := H1.crew.ok
        have hik : i < k := by have := (rdy_mem hi).1; rw [H.len] at this; exact this
        have e1 := (H1.crew.ok i hik).2.2
        have e2 := (H.crew.ok i hik).2.2
        have := congrArg List.length (e1.trans e2.symm)
        simpa using this
      obtain ⟨N2, gs2, w2, sl2, T2, q2, B2, Mb2, Inb2, S2, v2, E2, M2, r2, z2, h2, hS2, H2, hd⟩ := ih _ E' M' S' _ v' B' Mb' Inb' T' gs' w' q' sl' u' (by rw [hK1]; exact hnk) (by rw [← hp1]; exact hS1.symm) (by rw [← hp1]) (by rw [← hp1]) (by rw [es]; exact hsl) (by rw [es]; exact hsc) hn H1 h1
      exact ⟨N' + N2, gs2, w2, sl2, T2, q2, B2, Mb2, Inb2, S2, v2, E2, M2, runNT_then r r2, z2.trans z1, h2, hS2, H2, hd⟩
end Go.Proofs.Ytfjjoohflcchnaa
