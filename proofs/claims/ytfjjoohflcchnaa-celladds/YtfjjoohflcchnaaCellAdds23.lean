/- CellAdds returns true, whatever the schedule, the start and the numbers, and leaves what it was given as it was: of the law's statement as given, with no condition of our own. Part 23 of 34. (Joined, by program, of: Drive5, Drive6.) -/
import Derived.Test.YtfjjoohflcchnaaCellAdds22
set_option linter.unusedSimpArgs false
set_option linter.unusedVariables false
namespace Go.Lift
open Go.Conc
open Go.ConcN (sumTo upd sumTo_upd upd_ne upd_same)
theorem touch_low {x : MemAct} {a : Touch} {B : Nat} (h : x.touch? = some a) (hl : x.low B) : a.loc.low B := by
  cases x with
  | access e =>
    simp only [MemAct.touch?, Option.some.injEq] at h
    subst h
    exact hl
  | mark m => cases m <;> simp only [MemAct.touch?, Option.some.injEq, reduceCtorEq] at h <;> (subst h; exact hl)
  | go _ | start => cases h
  | send _ _ | sendDone _ _ | recv _ _ _ | recvDone _ _ | close _ | recvClosed _ => cases h
end Go.Lift
namespace Go.Proofs.Ytfjjoohflcchnaa
open Go Go.Lift Go.Conc Go.RowKit
open Go.ConcN (upd upd_same upd_ne)

/-- The world with one more thread. -/
def hiredS (S : TS) (tv : Value) (tb gc : Nat) : TS := { S with ths := tv, thr := S.thr ++ [⟨tb, gc, 0, 0, 0, 0⟩] }
/-- The lone world in which the new thread's row lies, its channel's cell kept. -/
def hireV (S : TS) (v : World) : World := { v with heap := (v.heap.push (.chan 0 #[] false 0 0 false)).push (.cells (trow S.wb S.thr.length v.heap.size 0 0 0 0) 97 (2, 3)) }
def zAdd (z : Nat → Option Nat) (tb : Nat) (b : Nat) : Option Nat := if b = tb then some 2 else z b
theorem hireV_old (S : TS) (v : World) {b : Nat} (hb : b < v.heap.size) : (hireV S v).heap[b]? = v.heap[b]? := by
  show ((v.heap.push _).push _)[b]? = _
  rw [Array.getElem?_push_lt (by simp; omega), Array.getElem_push_lt hb, Array.getElem?_eq_getElem hb]
theorem hireV_chan (S : TS) (v : World) : (hireV S v).heap[v.heap.size]? = some (.chan 0 #[] false 0 0 false) := by
  show ((v.heap.push _).push _)[v.heap.size]? = _
  simp [Array.getElem?_push]
theorem hireV_row (S : TS) (v : World) : (hireV S v).heap[v.heap.size + 1]? = some (.cells (trow S.wb S.thr.length v.heap.size 0 0 0 0) 97 (2, 3)) := by
  have : v.heap.size + 1 = (v.heap.push (Obj.chan 0 #[] false 0 0 false)).size := by simp
  show ((v.heap.push _).push _)[v.heap.size + 1]? = _
  rw [this]
  exact Array.getElem?_push_size
theorem hireV_size (S : TS) (v : World) : (hireV S v).heap.size = v.heap.size + 2 := by simp [hireV]

theorem thr_add {z : Nat → Option Nat} {S : TS} {K : List (Nat × Int)} {v v3 : World} (hm : Mem z S K v) (hz : z (v.heap.size + 1) = none) (hT : Threaded S.wb S.ths S.thr.length S.base (S.thr.map fun t => Pt t.tb 0) (Pt (v.heap.size + 1) 0) (hireV S v) v3) :
    ∃ tv, Mem (zAdd z (v.heap.size + 1)) (hiredS S tv (v.heap.size + 1) v.heap.size) K v3 ∧ (∀ b, b < v.heap.size → ¬ Own S K b → v3.heap[b]? = v.heap[b]?) ∧ (∀ b, Own (hiredS S tv (v.heap.size + 1) v.heap.size) K b → Own S K b ∨ v.heap.size ≤ b) ∧ v3.heap[v.heap.size]? = some (.chan 0 #[] false 0 0 false) ∧ v.heap.size + 2 ≤ v3.heap.size := by
  obtain ⟨g, cap, q1, q2, q3, q5⟩ := hT
  have hs := hireV_size S v
  have r := hm.rep
  have hwb : S.wb < v.heap.size := r.lt (k := 0) rfl
  have hths : ∀ b, S.ths.ownBlock = some b → b < v.heap.size := fun b hb => r.lt (k := 2) hb
  have hst : ∀ b, b < v.heap.size + 2 → b ≠ S.wb → some b ≠ S.ths.ownBlock → v3.heap[b]? = (hireV S v).heap[b]? := fun b hb h1 h2 => q5.block b (by rw [hs]; exact hb) (fun h => h.elim h1 h2)
  have hst' : ∀ b, b < v.heap.size → b ≠ S.wb → some b ≠ S.ths.ownBlock → v3.heap[b]? = v.heap[b]? := fun b hb h1 h2 => by rw [hst b (by omega) h1 h2, hireV_old S v hb]
  have hits : ∀ k b, blk S k = some b → k ≠ 0 → k ≠ 2 → v3.heap[b]? = v.heap[b]? := fun k b hk h0 h2 => hst' b (r.lt hk) (fun e => h0 (r.apart k 0 b hk (by rw [e]; rfl))) (fun e => h2 (r.apart k 2 b hk e.symm))
  have hgb : g = g ∧ (S.ths.ownBlock = some g ∨ v.heap.size + 2 ≤ g) := ⟨rfl, by rw [hs] at q3; exact q3⟩
  have hsz : v.heap.size + 2 ≤ v3.heap.size := by have := q5.size; omega
  have hfz : ∀ b, b < v.heap.size → fz (zAdd z (v.heap.size + 1)) b = fz z b := fun b hb => by
    unfold fz zAdd
    rw [if_neg (by omega)]
  have hblk : ∀ k b, blk (hiredS S (.slice (some ⟨g, 0, none⟩) (S.thr.length + 1) cap) (v.heap.size + 1) v.heap.size) k = some b → (k ≠ 2 ∧ blk S k = some b) ∨ (k = 2 ∧ b = g) ∨ (k = S.thr.length + 5 ∧ b = v.heap.size + 1) := fun k b hk => by
    match k, hk with
    | 0, hk => exact .inl ⟨by omega, hk⟩
    | 1, hk => exact .inl ⟨by omega, hk⟩
    | 2, hk => cases hk; exact .inr (.inl ⟨rfl, rfl⟩)
    | 3, hk => exact .inl ⟨by omega, hk⟩
    | 4, hk => exact .inl ⟨by omega, hk⟩
    | k + 5, hk =>
      simp only [blk, hiredS, Option.map_eq_some_iff] at hk
      obtain ⟨t, ht, rfl⟩ := hk
      rcases Nat.lt_trichotomy k S.thr.length with hlt | rfl | hgt
      · rw [List.getElem?_append_left hlt] at ht
        exact .inl ⟨by omega, by simp [blk, ht]⟩
      · rw [List.getElem?_append_right (Nat.le_refl _)] at ht
        simp at ht
        subst ht
        exact .inr (.inr ⟨rfl, rfl⟩)
      · rw [List.getElem?_append_right (by omega)] at ht
        have : k - S.thr.length ≠ 0 := by omega
        simp [this] at ht
  have hlow : ∀ k b, blk S k = some b → b ≠ v.heap.size + 1 := fun k b hk e => by have := r.lt hk; omega
  have hgne : ∀ k b, k ≠ 2 → blk S k = some b → b ≠ g := fun k b hk2 hk e => by
    rcases hgb.2 with h1 | h1
    · exact hk2 (r.apart k 2 b hk (by rw [e]; exact h1))
    · have := r.lt hk; omega
  have hgtb : g ≠ v.heap.size + 1 := fun e => by
    rcases hgb.2 with h1 | h1
    · have := hths g h1; omega
    · omega
  refine ⟨.slice (some ⟨g, 0, none⟩) (S.thr.length + 1) cap, ⟨⟨?_, fun i t ht => ?_, own_stay (fun b hb => hits 3 b hb (by omega) (by omega)) r.own, own_stay (fun b hb => hits 1 b hb (by omega) (by omega)) r.chg, ?_, own_stay (fun b hb => hits 4 b hb (by omega) (by omega)) r.sch, ?_, fun j k b hj hk => ?_, fun b n hzb => ?_⟩, fun j c hc => ?_, fun j c hc hi => ?_, hm.inj, hm.len⟩, fun b hb ho => ?_, fun b ho => ?_, ?_, hsz⟩
  · have := q1 _ _ _ (by rw [hireV_old S v hwb]; exact r.wor)
    show v3.heap[S.wb]? = some (.cells (wrow (hiredS S _ _ _)) 83 (fz (zAdd z (v.heap.size + 1)) S.wb))
    rw [hfz S.wb hwb]
    simpa [hiredS] using this
  · rcases Nat.lt_trichotomy i S.thr.length with hlt | rfl | hgt
    · rw [show (hiredS S _ _ _).thr[i]? = S.thr[i]? from List.getElem?_append_left hlt] at ht
      have hb : blk S (i + 5) = some t.tb := by simp [blk, ht]
      rw [hits (i + 5) t.tb hb (by omega) (by omega), hfz t.tb (r.lt hb)]
      exact r.thr i t ht
    · have ht' : (S.thr ++ [(⟨v.heap.size + 1, v.heap.size, 0, 0, 0, 0⟩ : Thr)])[S.thr.length]? = some t := ht
      rw [List.getElem?_append_right (Nat.le_refl _)] at ht'
      simp at ht'
      subst ht'
      show v3.heap[v.heap.size + 1]? = some (.cells (trow S.wb S.thr.length v.heap.size 0 0 0 0) 97 (fz (zAdd z (v.heap.size + 1)) (v.heap.size + 1)))
      rw [hst (v.heap.size + 1) (by omega) (by omega) (fun e => by have := hths _ e.symm; omega), hireV_row]
      unfold fz zAdd
      rw [if_pos rfl]
    · have ht' : (S.thr ++ [(⟨v.heap.size + 1, v.heap.size, 0, 0, 0, 0⟩ : Thr)])[i]? = some t := ht
      rw [List.getElem?_append_right (by omega)] at ht'
      have : i - S.thr.length ≠ 0 := by omega
      simp [this] at ht'
  · show v3.ownsRow S.base 46 1 (.slice (some ⟨g, 0, none⟩) (S.thr.length + 1) cap) (S.thr ++ [(⟨v.heap.size + 1, v.heap.size, 0, 0, 0, 0⟩ : Thr)]).length ((S.thr ++ [(⟨v.heap.size + 1, v.heap.size, 0, 0, 0, 0⟩ : Thr)]).map fun t => Pt t.tb 0)
    rw [List.length_append, List.map_append]
    exact q2
  · show S.base ≤ v3.heap.size
    have := r.bs; omega
  · rcases hblk j b hj with ⟨n1, e1⟩ | ⟨n1, e1⟩ | ⟨n1, e1⟩ <;> rcases hblk k b hk with ⟨n2, e2⟩ | ⟨n2, e2⟩ | ⟨n2, e2⟩
    · exact r.apart j k b e1 e2
    · exact absurd e2 (hgne j b n1 e1)
    · exact absurd e2 (hlow j b e1)
    · exact absurd e1 (hgne k b n2 e2)
    · rw [n1, n2]
    · exact absurd (e1.symm.trans e2) hgtb
    · exact absurd e1 (hlow k b e2)
    · exact absurd (e2.symm.trans e1) hgtb
    · rw [n1, n2]
  · unfold zAdd at hzb
    split at hzb
    · cases hzb
      rename_i e
      exact .inr ⟨S.thr.length, ⟨v.heap.size + 1, v.heap.size, 0, 0, 0, 0⟩, by show (S.thr ++ [_])[S.thr.length]? = _; simp, e, rfl⟩
    · rcases r.kept b n hzb with h1 | ⟨i, t, ht, h2, h3⟩
      · exact .inl h1
      · have hlt : i < S.thr.length := (List.getElem?_eq_some_iff.1 ht).1
        exact .inr ⟨i, t, by show (S.thr ++ [_])[i]? = _; rw [List.getElem?_append_left hlt]; exact ht, h2, h3⟩
  · have hb := hm.lt (.inr ⟨j, c, hc, rfl⟩)
    rw [hst' c.1 hb (fun e => hm.far j c hc ⟨0, by rw [e]; rfl⟩) (fun e => hm.far j c hc ⟨2, e.symm⟩)]
    exact hm.cel j c hc
  · obtain ⟨k, hk⟩ := hi
    have hb := hm.lt (.inr ⟨j, c, hc, rfl⟩)
    rcases hblk k c.1 hk with ⟨_, e1⟩ | ⟨_, e1⟩ | ⟨_, e1⟩
    · exact hm.far j c hc ⟨k, e1⟩
    · rcases hgb.2 with h1 | h1
      · exact hm.far j c hc ⟨2, by rw [e1]; exact h1⟩
      · omega
    · omega
  · exact hst' b hb (fun e => ho (.inl ⟨0, by rw [e]; rfl⟩)) (fun e => ho (.inl ⟨2, e.symm⟩))
  · rcases ho with ⟨k, hk⟩ | hc
    · rcases hblk k b hk with ⟨_, e1⟩ | ⟨_, e1⟩ | ⟨_, e1⟩
      · exact .inl (.inl ⟨k, e1⟩)
      · rcases hgb.2 with h1 | h1
        · exact .inl (.inl ⟨2, by rw [e1]; exact h1⟩)
        · right; omega
      · right; omega
    · exact .inl (.inr hc)
  · rw [hst v.heap.size (by omega) (by omega) (fun e => by have := hths _ e.symm; omega), hireV_chan]
end Go.Proofs.Ytfjjoohflcchnaa

namespace Go.Proofs.Ytfjjoohflcchnaa
open Go Go.Lift Go.Conc Go.RowKit
open Go.ConcN (upd upd_same upd_ne)

section
variable {k : Nat} {X : Nat → Fix} {l : Nat → Ph} {E : Nat → Nat → Prop} {M : Nat → Nat → Option Obj} {Mm : Keep} {z z' : Nat → Option Nat} {cont cont' : Addr → Value} {Ch Ch' : Nat → Prop} {S S' : TS} {K K' : List (Nat × Int)} {v v' : World} {gsz gsz' : Nat}
theorem has_move {m : Nat → Option Obj} (hkeep : ∀ b, b < v.heap.size → ¬ Own S K b → v'.heap[b]? = v.heap[b]?) (hown : ∀ b, Own S' K' b → Own S K b ∨ v.heap.size ≤ b) (hM : Has m v) (hfar : ∀ b, m b ≠ none → ¬ Own S K b) : Has m v' ∧ ∀ b, m b ≠ none → ¬ Own S' K' b := by
  refine ⟨fun b o hb => ?_, fun b hb ho => ?_⟩
  · have hne : m b ≠ none := by rw [hb]; simp
    rw [hkeep b (hM.lt hne) (hfar b hne)]
    exact hM b o hb
  · rcases hown b ho with h1 | h1
    · exact hfar b hb h1
    · have := hM.lt hb; omega
theorem Crew.move (h : Crew k X l E M Mm z cont Ch S K v gsz) (hkeep : ∀ b, b < v.heap.size → ¬ Own S K b → v'.heap[b]? = v.heap[b]?) (hown : ∀ b, Own S' K b → Own S K b ∨ v.heap.size ≤ b)
    (hthr : ∀ i, i < k → S'.thr[i]? = S.thr[i]?) (hlen : k ≤ S'.thr.length) (hwb : S'.wb = S.wb) (hbk : S'.bk = S.bk) (hgs : gsz ≤ gsz')
    (hz : ∀ b n, z b = some n → z' b = some n ∧ cont' ⟨b, n, none⟩ = cont ⟨b, n, none⟩) (hch : ∀ c, Ch c → Ch' c) (hzc : ∀ c, Ch' c → z' c = none) (hopn : ∀ c, Ch' c → Open v' c) (hnc : ∀ c, Ch' c → Ch c ∨ v.heap.size ≤ c) (hio : v'.os = v.os ∧ v'.output = v.output) : Crew k X l E M Mm z' cont' Ch' S' K v' gsz' := by
  refine ⟨hlen, h.ok, fun i hi => ?_, h.hinj, h.ginj, fun i hi => by rw [hbk]; exact h.gbk i hi, fun i hi => Nat.lt_of_lt_of_le (h.hlt i hi) hgs, fun i hi => ?_, ?_, hzc, hopn, fun i hi => ?_, h.apart, ?_⟩
  · obtain ⟨t, h1, h2⟩ := h.thr i hi
    exact ⟨t, by rw [hthr i hi]; exact h1, h2⟩
  · have a := h.zs i hi
    have b := hz _ _ a.1
    exact ⟨b.1, b.2.trans a.2.1, hch _ a.2.2⟩
  · rw [hwb, hbk]
    have a := h.z0
    have b := hz _ _ a.1
    exact ⟨b.1, b.2.trans a.2.1, hch _ a.2.2⟩
  · have := h.sees i hi
    exact ⟨this.1, has_move hkeep hown this.2.1 this.2.2⟩
  · have := has_move hkeep hown h.mine.1 h.mine.2.1
    exact ⟨this.1, this.2, fun b hb hc => (hnc b hc).elim (h.mine.2.2.1 b hb) (fun hle => by have := h.mine.1.lt hb; omega), h.mine.2.2.2.1, hio.1.trans h.mine.2.2.2.2.1, hio.2.trans h.mine.2.2.2.2.2⟩

theorem Crew.add (h : Crew k X l E M Mm z cont Ch S K v gsz) {Y : Fix} (he : EvoP (fun b => b = Y.ab ∨ False) z S K v S' K' v') (hst : Sta k S S') {l' : Ph} {E' : Nat → Prop} {M' : Nat → Option Obj} {Mm' : Keep}
    (hfit : ∃ t', S'.thr[k]? = some t' ∧ FitsN Y.kb.length l' t') (hs : Sees Y E' M' l'.ans) (hM' : Has M' v') (hfar : ∀ b, M' b ≠ none → ¬ Own S' K' b) (hnew : ∀ b, E' b → False ∨ v.heap.size ≤ b)
    (hok : Y.Ok ∧ Y.i = k ∧ K.map (·.1) = Y.kb) (htY : ∃ t, S.thr[k]? = some t ∧ t.tb = Y.tb ∧ t.gc = Y.gc) (hm : Mem z S K v)
    (hh : ∀ j, j < k → (X j).h ≠ Y.h) (hgc : ∀ j, j < k → (X j).gc ≠ Y.gc) (hgbk : Y.gc ≠ S.bk) (hlt : Y.h < gsz) (hzY : z Y.tb = some 2 ∧ cont ⟨Y.tb, 2, none⟩ = .chan (some Y.gc) ∧ Ch Y.gc)
    (habM : ∀ j, j < k → ∀ b, M j b ≠ none → b ≠ Y.ab) (habm : ∀ b, Mm'.M b ≠ none → b ≠ Y.ab) (hMm : ∀ b o, Mm'.M b = some o → Mm.M b = some o) (hYp : ∀ b, Y.Pr b → v.heap.size ≤ b ∨ Mm.M b ≠ none) (hio : Mm'.os = Mm.os ∧ Mm'.out = Mm.out) :
    Crew (k + 1) (upd X k Y) (upd l k l') (upd E k E') (upd M k M') Mm' z cont Ch S' K' v' gsz := by
  have hX : ∀ j, j < k → upd X k Y j = X j := fun j hj => upd_ne _ _ (by omega)
  have hl : ∀ j, j < k → upd l k l' j = l j := fun j hj => upd_ne _ _ (by omega)
  have hE : ∀ j, j < k → upd E k E' j = E j := fun j hj => upd_ne _ _ (by omega)
  have hM : ∀ j, j < k → upd M k M' j = M j := fun j hj => upd_ne _ _ (by omega)
  have cs : ∀ j, j < k + 1 → j < k ∨ j = k := fun j hj => by omega
  have hMlt : ∀ j, j < k → ∀ b, M j b ≠ none → b < v.heap.size := fun j hj b hb => (h.sees j hj).2.1.lt hb
  have hab : Y.ab < v.heap.size → Mm.M Y.ab ≠ none := fun hlt => (hYp Y.ab (.inr (.inr (.inl rfl)))).elim (fun hle => by omega) id
  have hopn : ∀ c, Ch c → Open v' c := fun c hc => by
    obtain ⟨cap, n, hh⟩ := h.opn c hc
    have hcl := (Array.getElem?_eq_some_iff.1 hh).1
    refine ⟨cap, n, ?_⟩
    rw [(he.keeps hcl (fun ho => ?_) (fun hw => ?_)).1, hh]
    · obtain ⟨x, e, f, h1⟩ := hm.row ho
      rw [hh] at h1; cases h1
    · rcases hw with rfl | hw
      · exact h.mine.2.2.1 _ (hab hcl) hc
      · exact hw
  have hMd : ∀ b, M' b ≠ none → ∀ j, j < k → ¬ (b = (X j).ab ∨ E j b) := fun b hb j hj hx => by
    have hlt := hMlt j hj b (h.abM hj hx)
    rcases hs.dom b hb with h1 | h1
    · rcases hYp b h1 with h2 | h2
      · omega
      · exact h.mine.2.2.2.1 j hj b h2 hx
    · rcases hnew b h1 with h2 | h2
      · exact h2
      · omega
  refine ⟨?_, fun j hj => ?_, fun j hj => ?_, fun i j hi hj e => ?_, fun i j hi hj e => ?_, fun j hj => ?_, fun j hj => ?_, fun j hj => ?_, by rw [hst.wb, hst.bk]; exact h.z0, h.zc, hopn, fun j hj => ?_, fun i j hi hj hne b hb hx => ?_, ?_⟩
  · obtain ⟨t, ht, _⟩ := htY
    rw [hst.len]
    exact (List.getElem?_eq_some_iff.1 ht).1
  · rcases cs j hj with hj | rfl
    · rw [hX j hj]
      exact ⟨(h.ok j hj).1, (h.ok j hj).2.1, he.blks.trans (h.ok j hj).2.2⟩
    · rw [upd_same]
      exact ⟨hok.1, hok.2.1, he.blks.trans hok.2.2⟩
  · rcases cs j hj with hj | rfl
    · rw [hX j hj, hl j hj]
      obtain ⟨t, h1, h2⟩ := h.thr j hj
      exact ⟨t, by rw [hst.oth j (by omega)]; exact h1, h2⟩
    · rw [upd_same, upd_same]
      obtain ⟨t, h1, h2, h3⟩ := htY
      obtain ⟨t', k1, k2⟩ := hfit
      obtain ⟨t2, q1, q2, q3⟩ := hst.own t h1
      rw [k1] at q1
      cases q1
      exact ⟨t', k1, q2.trans h2, q3.trans h3, k2⟩
  · rcases cs i hi with hi | rfl <;> rcases cs j hj with hj | rfl
    · rw [hX i hi, hX j hj] at e; exact h.hinj i j hi hj e
    · rw [hX i hi, upd_same] at e; exact absurd e (hh i hi)
    · rw [hX j hj, upd_same] at e; exact absurd e.symm (hh j hj)
    · rfl
  · rcases cs i hi with hi | rfl <;> rcases cs j hj with hj | rfl
    · rw [hX i hi, hX j hj] at e; exact h.ginj i j hi hj e
    · rw [hX i hi, upd_same] at e; exact absurd e (hgc i hi)
    · rw [hX j hj, upd_same] at e; exact absurd e.symm (hgc j hj)
    · rfl
  · rw [hst.bk]
    rcases cs j hj with hj | rfl
    · rw [hX j hj]; exact h.gbk j hj
    · rw [upd_same]; exact hgbk
  · rcases cs j hj with hj | rfl
    · rw [hX j hj]; exact h.hlt j hj
    · rw [upd_same]; exact hlt
  · rcases cs j hj with hj | rfl
    · rw [hX j hj]; exact h.zs j hj
    · rw [upd_same]; exact hzY
  · rcases cs j hj with hj | rfl
    · rw [hX j hj, hl j hj, hE j hj, hM j hj]
      have := h.sees j hj
      exact ⟨this.1, keepM he this.2.1 this.2.2 (fun b hb hx => hx.elim (habM j hj b hb) id)⟩
    · rw [upd_same, upd_same, upd_same, upd_same]
      exact ⟨hs, hM', hfar⟩
  · rcases cs i hi with hi | rfl <;> rcases cs j hj with hj | rfl
    · rw [hX i hi, hE i hi] at hx
      rw [hM j hj] at hb
      exact h.apart i j hi hj hne b hb hx
    · rw [hX i hi, hE i hi] at hx
      rw [upd_same] at hb
      exact hMd b hb i hi hx
    · rw [upd_same, upd_same] at hx
      rw [hM j hj] at hb
      rcases hx with h1 | h1
      · exact habM j hj b hb h1
      · rcases hnew b h1 with h2 | h2
        · exact h2
        · have := hMlt j hj b hb; omega
    · exact hne rfl
  · have hmm : ∀ b, Mm'.M b ≠ none → Mm.M b ≠ none := fun b hb => by
      obtain ⟨o, ho⟩ := Option.ne_none_iff_exists'.1 hb
      rw [hMm b o ho]; simp
    have hMm' : Has Mm'.M v := fun b o hb => h.mine.1 b o (hMm b o hb)
    have := keepM he hMm' (fun b hb => h.mine.2.1 b (hmm b hb)) (fun b hb hx => hx.elim (habm b hb) id)
    refine ⟨this.1, this.2, fun b hb => h.mine.2.2.1 b (hmm b hb), fun j hj b hb hx => ?_, (he.fr.os.trans h.mine.2.2.2.2.1).trans hio.1.symm, (he.fr.output.trans h.mine.2.2.2.2.2).trans hio.2.symm⟩
    rcases cs j hj with hj | rfl
    · rw [hX j hj, hE j hj] at hx
      exact h.mine.2.2.2.1 j hj b (hmm b hb) hx
    · rw [upd_same, upd_same] at hx
      rcases hx with h1 | h1
      · exact habm b hb h1
      · rcases hnew b h1 with h2 | h2
        · exact h2
        · have := hMm'.lt hb; omega
end

section
variable {P : Program} {K K' : World → Prop} {Still Still' : Loc → Prop} {B B' : Nat} {Mem : Nat → Prop} {Inb : Nat → Option Seat} {h : Nat} {T : Trace} {gs : Array Goroutine} {w : World} {q : Nat → Nat}
open Go.ConcN (sumTo)
/-- The holder's walk that lists nothing: the bound stays. -/
theorem hold_mute (hKat : ∀ w d, K w → K (w.at d)) {D : World → World → Array Event → Prop} {Stop : Goroutine → World → Prop} (hD : ∀ w w' es, D w w' es → K w → (∀ i s c, Inb i = some s → s.has c → ∃ o, w.heap[c]? = some o) → ∀ B, DH K Still B Inb w w' es)
    {a : Goroutine} {w : World} (hG : GoesI P (h == 0) D Stop a w) : ∀ (gs : Array Goroutine) (sl : Option (Nat × Nat)) (T : Trace) (q : Nat → Nat) (B : Nat), gs[h]? = some a → Ring P K Still B Mem Inb h T gs w q →
    ∃ (N : Nat) (gs' : Array Goroutine) (a' : Goroutine) (w' : World) (sl' : Option (Nat × Nat)) (T' : Trace) (q' : Nat → Nat),
      runNT P N (crowd gs w sl) T = (.next (crowd gs' w' sl'), T') ∧ gs'.size = gs.size ∧ gs'[h]? = some a' ∧ Stop a' w' ∧ Ring P K Still B Mem Inb h T' gs' w' q' := by
  refine hG.induct (M := fun a w => ∀ (gs : Array Goroutine) (sl : Option (Nat × Nat)) (T : Trace) (q : Nat → Nat) (B : Nat), gs[h]? = some a → Ring P K Still B Mem Inb h T gs w q →
    ∃ (N : Nat) (gs' : Array Goroutine) (a' : Goroutine) (w' : World) (sl' : Option (Nat × Nat)) (T' : Trace) (q' : Nat → Nat),
      runNT P N (crowd gs w sl) T = (.next (crowd gs' w' sl'), T') ∧ gs'.size = gs.size ∧ gs'[h]? = some a' ∧ Stop a' w' ∧ Ring P K Still B Mem Inb h T' gs' w' q') ?_ ?_
  · intro g w hs gs sl T q B ha C
    exact ⟨0, gs, g, w, sl, T, q, rfl, rfl, ha, hs w.drawn, C⟩
  · intro g w hrun g' w' es e hDD _ ih
    have key : ∀ (m : Nat) (gs : Array Goroutine) (sl : Option (Nat × Nat)) (T : Trace) (q : Nat → Nat) (B d₀ : Nat), sumTo gs.size q = m → gs[h]? = some g → Ring P K Still B Mem Inb h T gs (w.at d₀) q →
        ∃ (N : Nat) (gs' : Array Goroutine) (a' : Goroutine) (w' : World) (sl' : Option (Nat × Nat)) (T' : Trace) (q' : Nat → Nat),
          runNT P N (crowd gs (w.at d₀) sl) T = (.next (crowd gs' w' sl'), T') ∧ gs'.size = gs.size ∧ gs'[h]? = some a' ∧ Stop a' w' ∧ Ring P K Still B Mem Inb h T' gs' w' q' := by
      intro m
      induction m using Nat.strongRecOn with
      | _ m ihm =>
        intro gs sl T q B d₀ hm ha C
        obtain ⟨i, x, d, sl', hi, hg, hst⟩ := crowd_pick (P := P) (w := w.at d₀) (sl := sl) (C.awake ha (.inl hrun)) ⟨h, g, ha, hrun⟩
        have Cd : Ring P K Still B Mem Inb h T gs (w.at d) q := TokCore.at hKat C d
        have hst' : stepT P (crowd gs (w.at d₀) sl) = runT P (crowd gs (w.at d) sl') i := hst
        by_cases ei : i = h
        · subst ei
          obtain rfl : x = g := by rw [ha] at hi; exact (Option.some.inj hi).symm
          have hB₀ := hD _ _ _ (hDD d) Cd.keep (fun j s c e hc => by obtain ⟨cap, n, hk⟩ := Cd.chans j s c (fun z => z) e hc; exact ⟨_, hk⟩)
          obtain ⟨C', ha'⟩ := Ring.own (a' := g' d) Cd hi (hB₀ B)
          obtain ⟨N, gs2, a2, w2, sl2, T2, q2, r, hsz, h2, hS, C2⟩ := ih d _ sl' _ q _ ha' C'
          refine ⟨N + 1, gs2, a2, w2, sl2, T2, q2, ?_, by simpa using hsz, h2, hS, C2⟩
          have hrt := runT_crowd_go (P := P) (sl := sl') hi (e d)
          simp only [runNT, hst', hrt]
          exact r
        · obtain ⟨gs', ops, q', hrt, hsz', hsp, _, _, C', hlt⟩ := TokCore.by_step (sl := sl') (fun t u i => Knows.app u) Cd hi ei hg
            (fun y gy hy hgy => by subst hy; rw [ha] at hgy; obtain rfl := Option.some.inj hgy; exact again_of_running (.inl hrun) _) (fun hD => hD.elim)
            (fun s g₂ _ _ => ⟨fun hD => hD, fun y gy c hy hgy _ => by subst hy; rw [ha] at hgy; obtain rfl := Option.some.inj hgy; exact offersAt_of_not_blocked (by rw [hrun]; simp) _ _⟩)
          obtain ⟨N, gs2, a2, w2, sl2, T2, q2, r, hsz, h2, hS, C2⟩ := ihm (sumTo gs'.size q') (by rw [hsz']; omega) gs' sl' _ q' B d rfl (by rw [hsp h rfl]; exact ha) C'
          refine ⟨N + 1, gs2, a2, w2, sl2, T2, q2, ?_, hsz.trans hsz', h2, hS, C2⟩
          simp only [runNT, hst', hrt]
          exact r
    intro gs sl T q B ha C
    exact key _ gs sl T q B w.drawn rfl ha C
end
end Go.Proofs.Ytfjjoohflcchnaa
