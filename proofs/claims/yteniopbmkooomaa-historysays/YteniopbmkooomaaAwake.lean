/-
  What the head of every statement of layer 3 does (the document's examples): it answers true; of memory that was there nothing changes.
-/
import Derived.Test.YteniopbmkooomaaOf
namespace Go.Proofs.Yteniopbmkooomaa
open Go.RowKit Hi Go.Deep Go.Maps

/-- It answers whether p, with a code. -/
def RetL (e : Ending) (c : Int) (p : Prop) : Prop := ∃ b, e = .returned (.tuple #[.bool b, I c]) ∧ (b = true ↔ p)

set_option maxHeartbeats 1000000 in
theorem linear_arg (ob st : Int) (v : Value) (w : World) (h : ¬ Starts ob st) :
    Calls Try.prog 10 #[I ob, I st, v] w fun e w' => RetL e 1 False ∧ w' = w := by
  have H : Hid (¬ Starts ob st) := h
  clear h
  go_enter Try.func10, Try.ntmps10
  go_wp2_with fail
  refine (mayStart_any ob st _).mono ?_
  rintro e w1 ⟨⟨b, rfl, hb⟩, hw⟩
  have hw' := hw.symm
  subst hw'
  have : b = false := by
    cases b with
    | false => rfl
    | true => exact absurd (hb.1 rfl) H.out
  subst this
  clear hb hw
  go_wp2_with fail
  go_ret2
  exact ⟨⟨false, rfl, by simp⟩, rfl⟩

set_option maxHeartbeats 1000000 in
theorem linear_adder (st : Int) (v : Value) (l : List Ev) (w : World) (hs : Fits st) (h12 : l.length ≤ 12) (hh : Hist l) (hE : Evs w v l) :
    Calls Try.prog 10 #[I 1, I st, v] w fun e w' => RetL e 0 (Lin wayAdder st l) ∧ Below w.heap.size w w' := by
  have HE : Hid (Evs w v l) := hE
  have HH : Hid (Hist l) := hh
  have HS : Hid (Fits st) := hs
  obtain ⟨p, cap, rfl, hc, hm, _⟩ := hE
  unfold maxLen at hm
  clear hh hs
  go_enter Try.func10, Try.ntmps10
  go_wp2_with fail
  refine (mayStart_any 1 st _).mono ?_
  rintro e w1 ⟨⟨b, rfl, hb⟩, hw⟩
  have hw' := hw.symm
  subst hw'
  have : b = true := hb.2 (.inl rfl)
  subst this
  clear hb hw
  go_wp2_with fail
  refine (isHistory_any _ l _ HE.out).mono ?_
  rintro e w1 ⟨⟨b, rfl, hb⟩, hb1⟩
  have : b = true := hb.2 HH.out
  subst this
  have HB1 : Hid (Below w.heap.size w w1) := hb1
  clear hb hb1
  go_wp2_with fail
  refine (explained_adder l h12 HH.out _ st HS.out _ (HE.out.later HB1.out)).mono ?_
  rintro e w2 ⟨⟨b, rfl, hb⟩, hb2⟩
  have HBB : Hid (b = true ↔ Lin wayAdder st l) := hb
  have HB2 : Hid (Below w1.heap.size w1 w2) := hb2
  clear hb hb2
  go_wp2_with fail
  go_ret2
  exact ⟨⟨b, rfl, HBB.out⟩, below_step HB1.out HB2.out⟩

def callEv (t op a b e v : Int) : Ev := ⟨t, op, a, 0, b, e, 0, v⟩

set_option maxHeartbeats 400000 in
theorem call_any (t op a b e v : Int) (w : World) :
    Calls Try.prog 23 #[I t, I op, I a, I b, I e, I v] w fun ed w' => ed = .returned (evV (callEv t op a b e v)) ∧ Below w.heap.size w w' := by
  go_enter Try.func23, Try.ntmps23
  go_wp2
  refine bodyPost_ret (v := evV (callEv t op a b e v)) (by simp [results, Try.results23, go_sem, callEv]) rfl ⟨rfl, ?_⟩
  repeat (first | exact Below.refl _ _ | refine Below.alloc ?_ (by simp; try omega) _)

theorem two_evs (w : World) (x y : Ev) (t : TypeId) : Evs (w.alloc (.cells (evC x ++ evC y) t)) (.slice (some ⟨w.heap.size, 0, none⟩) 2 2) [x, y] := by
  refine ⟨_, 2, rfl, Nat.le_refl _, by simp [maxLen], fun i hi => ⟨w.heap.size, 0, rfl, ?_⟩⟩
  have : i = 0 ∨ i = 1 := by simp at hi; omega
  rcases this with rfl | rfl
  · exact range_new _ _ _ _ _ rfl rfl
  · exact range_new _ _ _ _ _ rfl rfl

def exA : List Ev := [callEv 0 1 5 0 3 0, callEv 1 1 2 1 2 5]
def exB : List Ev := [callEv 0 1 5 0 1 2, callEv 1 1 2 2 3 0]

theorem hist_two {x y : Ev} (h1 : Timed x) (h2 : Timed y) (h : x.thr ≠ y.thr) : Hist [x, y] := by
  intro i hi
  have : i = 0 ∨ i = 1 := by simp at hi; omega
  rcases this with rfl | rfl
  · exact ⟨h1, fun k hk => by omega⟩
  · refine ⟨h2, fun k hk => ?_⟩
    have : k = 0 := by omega
    subst this
    exact fun e => absurd e.symm h
theorem histA : Hist exA := hist_two (by unfold Timed callEv; simp) (by unfold Timed callEv; simp) (by simp [callEv])
theorem histB : Hist exB := hist_two (by unfold Timed callEv; simp) (by unfold Timed callEv; simp) (by simp [callEv])
theorem linA : Lin wayAdder 0 exA := by
  refine ⟨[0, 1], by decide, by simp [exA], fun i hi _ => ?_, ?_, ?_⟩
  · have : i = 0 ∨ i = 1 := by simp [exA] at hi; omega
    rcases this with rfl | rfl <;> simp
  · simp [exA, callEv, evAhead, Ev.over]
  · refine ⟨((0, 0), 5), ?_, fun _ => rfl, ((0, 5), 7), ?_, fun _ => rfl, trivial⟩
    · simp [exA, callEv, wayAdder, wrap64]
    · simp [exA, callEv, wayAdder, wrap64]
theorem linB : ¬ Lin wayAdder 0 exB := by
  rintro ⟨ord, h1, h2, h3, h4, h5⟩
  have m0 : 0 ∈ ord := h3 0 (by simp [exB]) (by simp [exB, callEv, Ev.over])
  have m1 : 1 ∈ ord := h3 1 (by simp [exB]) (by simp [exB, callEv, Ev.over])
  match ord, h1, h2, h4, h5, m0, m1 with
  | 0 :: r, h1, h2, h4, h5, m0, m1 =>
    obtain ⟨o, ho, ha, _⟩ := h5
    have := ha (by simp [exB, callEv, Ev.over])
    simp [exB, callEv, wayAdder] at ho
    subst ho
    simp [exB, callEv, Ev.ans] at this
  | 1 :: r, h1, h2, h4, h5, m0, m1 =>
    have h0 : 0 ∈ r := by simpa using m0
    have := (List.pairwise_cons.1 h4).1 0 h0
    simp [exB, callEv, evAhead, Ev.over] at this
  | (n + 2) :: r, h1, h2, h4, h5, m0, m1 =>
    have := h2 (n + 2) (by simp)
    simp [exB] at this
    omega

def exSc : List (List Call) := [[⟨2, 7, 0, 0⟩]]
def exAn : List (List (Int × Int)) := [[(0, 9)]]
def exTr : List Step := [⟨0, 0, 9, 0, 0⟩, ⟨1, 0, 1, 0, 0⟩, ⟨0, 0, 10, 0, 0⟩]
theorem alikeX : Alike exSc exAn := by
  refine ⟨rfl, fun i hi => ?_⟩
  have : i = 0 := by simp [exSc] at hi; omega
  subst this
  rfl
section
variable {sc : List (List Call)} {an : List (List (Int × Int))} {k : Nat} {s : Step} {l : List Step} {st : St} {r : Option St}
theorem ofs_skip (n9 : s.op ≠ 9) (n10 : s.op ≠ 10) (h : Ofs sc an k (s :: l) st r) : Ofs sc an (k + 1) l st r := by
  rcases h with ⟨_, _, h⟩ | ⟨h, _⟩ | ⟨_, _, _, h, _⟩ | ⟨_, _, _, h, _⟩ | ⟨_, _, _, h, _⟩ | ⟨_, _, _, h, _⟩
  · exact h
  all_goals omega
theorem ofs_out (h9 : s.op = 9 ∨ s.op = 10) (ht : s.thr < 0 ∨ (sc.length : Int) ≤ s.thr) (h : Ofs sc an k (s :: l) st r) : r = none := by
  rcases h with ⟨h1, h2, _⟩ | ⟨_, _, h⟩ | ⟨t, h1, h2, _⟩ | ⟨t, h1, h2, _⟩ | ⟨t, h1, h2, _⟩ | ⟨t, h1, h2, _⟩
  · omega
  · exact h
  all_goals omega
theorem ofs_begin {t : Nat} (h9 : s.op = 9) (ht : s.thr = t) (hl : t < sc.length) (ho : beginOk an st t s) (h : Ofs sc an k (s :: l) st r) : Ofs sc an (k + 1) l (beginSt sc st t k) r := by
  rcases h with ⟨h1, h2, _⟩ | ⟨_, h, _⟩ | ⟨t', h1, h2, _, _, h⟩ | ⟨t', h1, h2, h3, _⟩ | ⟨t', h1, h2, _, h, _⟩ | ⟨t', h1, h2, h3, _⟩
  · omega
  · omega
  · have : t' = t := by omega
    subst this
    exact h
  · omega
  · have : t' = t := by omega
    subst this
    exact absurd ho h
  · omega
theorem ofs_end {t : Nat} (h9 : s.op = 10) (ht : s.thr = t) (hl : t < sc.length) (ho : endOk an st t s) (h : Ofs sc an k (s :: l) st r) : Ofs sc an (k + 1) l (endSt an st t k) r := by
  rcases h with ⟨h1, h2, _⟩ | ⟨_, h, _⟩ | ⟨t', h1, h2, h3, _⟩ | ⟨t', h1, h2, _, _, h⟩ | ⟨t', h1, h2, h3, _⟩ | ⟨t', h1, h2, _, h, _⟩
  · omega
  · omega
  · omega
  · have : t' = t := by omega
    subst this
    exact h
  · omega
  · have : t' = t := by omega
    subst this
    exact absurd ho h
theorem ofs_nobegin {t : Nat} (h9 : s.op = 9) (ht : s.thr = t) (hl : t < sc.length) (ho : ¬ beginOk an st t s) (h : Ofs sc an k (s :: l) st r) : r = none := by
  rcases h with ⟨h1, h2, _⟩ | ⟨_, h, _⟩ | ⟨t', h1, h2, _, h, _⟩ | ⟨t', h1, h2, h3, _⟩ | ⟨t', h1, h2, _, _, h⟩ | ⟨t', h1, h2, h3, _⟩
  · omega
  · omega
  · have : t' = t := by omega
    subst this
    exact absurd h ho
  · omega
  · exact h
  · omega
theorem ofs_noend {t : Nat} (h9 : s.op = 10) (ht : s.thr = t) (hl : t < sc.length) (ho : ¬ endOk an st t s) (h : Ofs sc an k (s :: l) st r) : r = none := by
  rcases h with ⟨h1, h2, _⟩ | ⟨_, h, _⟩ | ⟨t', h1, h2, h3, _⟩ | ⟨t', h1, h2, _, h, _⟩ | ⟨t', h1, h2, h3, _⟩ | ⟨t', h1, h2, _, _, h⟩
  · omega
  · omega
  · omega
  · have : t' = t := by omega
    subst this
    exact absurd h ho
  · omega
  · exact h
end

theorem ofX {r : Option St} (h : Ofs exSc exAn 0 exTr st0 r) : ∃ st, r = some st ∧ st.evs = [callEv 0 2 7 0 2 9] := by
  have h1 := ofs_begin (t := 0) rfl rfl (by decide) ⟨rfl, by decide, rfl, rfl⟩ h
  have h2 := ofs_skip (by decide) (by decide) h1
  have h3 := ofs_end (t := 0) rfl rfl (by decide) ⟨by decide, rfl, rfl⟩ h2
  exact ⟨_, h3, rfl⟩

theorem exMem (w : World) :
    SS 4 callL (((((w.alloc (.cells #[I 2, I 7, I 0, I 0] 59)).alloc (.cells #[.slice (some ⟨w.heap.size, 0, none⟩) 1 1] 60)).alloc (.cells #[I 0, I 9] 31)).alloc (.cells #[.slice (some ⟨w.heap.size + 1 + 1, 0, none⟩) 1 1] 61)).alloc (.cells #[I 0, I 0, I 9, I 0, I 0, I 1, I 0, I 1, I 0, I 0, I 0, I 0, I 10, I 0, I 0] 45))
      (.slice (some ⟨w.heap.size + 1, 0, none⟩) 1 1) exSc ∧
    SS 2 ansL (((((w.alloc (.cells #[I 2, I 7, I 0, I 0] 59)).alloc (.cells #[.slice (some ⟨w.heap.size, 0, none⟩) 1 1] 60)).alloc (.cells #[I 0, I 9] 31)).alloc (.cells #[.slice (some ⟨w.heap.size + 1 + 1, 0, none⟩) 1 1] 61)).alloc (.cells #[I 0, I 0, I 9, I 0, I 0, I 1, I 0, I 1, I 0, I 0, I 0, I 0, I 10, I 0, I 0] 45))
      (.slice (some ⟨w.heap.size + 1 + 1 + 1, 0, none⟩) 1 1) exAn ∧
    SL 5 stepL (((((w.alloc (.cells #[I 2, I 7, I 0, I 0] 59)).alloc (.cells #[.slice (some ⟨w.heap.size, 0, none⟩) 1 1] 60)).alloc (.cells #[I 0, I 9] 31)).alloc (.cells #[.slice (some ⟨w.heap.size + 1 + 1, 0, none⟩) 1 1] 61)).alloc (.cells #[I 0, I 0, I 9, I 0, I 0, I 1, I 0, I 1, I 0, I 0, I 0, I 0, I 10, I 0, I 0] 45))
      (.slice (some ⟨w.heap.size + 1 + 1 + 1 + 1, 0, none⟩) 3 3) exTr := by
  obtain ⟨wA, hA⟩ : ∃ u, u = w.alloc (.cells #[I 2, I 7, I 0, I 0] 59) := ⟨_, rfl⟩
  obtain ⟨wB, hB⟩ : ∃ u, u = wA.alloc (.cells #[.slice (some ⟨w.heap.size, 0, none⟩) 1 1] 60) := ⟨_, rfl⟩
  obtain ⟨wC, hC⟩ : ∃ u, u = wB.alloc (.cells #[I 0, I 9] 31) := ⟨_, rfl⟩
  obtain ⟨wD, hD⟩ : ∃ u, u = wC.alloc (.cells #[.slice (some ⟨w.heap.size + 1 + 1, 0, none⟩) 1 1] 61) := ⟨_, rfl⟩
  obtain ⟨wE, hEE⟩ : ∃ u, u = wD.alloc (.cells #[I 0, I 0, I 9, I 0, I 0, I 1, I 0, I 1, I 0, I 0, I 0, I 0, I 10, I 0, I 0] 45) := ⟨_, rfl⟩
  rw [← hA, ← hB, ← hC, ← hD, ← hEE]
  have sA : wA.heap.size = w.heap.size + 1 := by rw [hA]; simp
  have sB : wB.heap.size = w.heap.size + 1 + 1 := by rw [hB, World.size_alloc, sA]
  have sC : wC.heap.size = w.heap.size + 1 + 1 + 1 := by rw [hC, World.size_alloc, sB]
  have sD : wD.heap.size = w.heap.size + 1 + 1 + 1 + 1 := by rw [hD, World.size_alloc, sC]
  have sE : wE.heap.size = w.heap.size + 1 + 1 + 1 + 1 + 1 := by rw [hEE, World.size_alloc, sD]
  have bD : Below wD.heap.size wD wE := by rw [hEE]; exact below_alloc (Below.refl _ _) _
  have bC : Below wC.heap.size wC wE := below_step (by rw [hD]; exact below_alloc (Below.refl _ _) _) bD
  have bB : Below wB.heap.size wB wE := below_step (by rw [hC]; exact below_alloc (Below.refl _ _) _) bC
  have bA : Below wA.heap.size wA wE := below_step (by rw [hB]; exact below_alloc (Below.refl _ _) _) bB
  have rA : wE.rangeAt w.heap.size 0 [I 2, I 7, I 0, I 0] := range_later bA (by rw [hA]; exact range_new _ _ _ _ _ rfl rfl) (by omega)
  have rB : wE.cell? ⟨w.heap.size + 1, 0, none⟩ = some (.slice (some ⟨w.heap.size, 0, none⟩) 1 1) := by
    rw [bB.cell (p := ⟨w.heap.size + 1, 0, none⟩) (by simp; omega), hB, ← sA]; exact one_new _ _ _
  have rC : wE.rangeAt (w.heap.size + 1 + 1) 0 [I 0, I 9] := range_later bC (by rw [hC]; exact range_new _ _ _ _ _ rfl sB.symm) (by omega)
  have rD : wE.cell? ⟨w.heap.size + 1 + 1 + 1, 0, none⟩ = some (.slice (some ⟨w.heap.size + 1 + 1, 0, none⟩) 1 1) := by
    rw [bD.cell (p := ⟨w.heap.size + 1 + 1 + 1, 0, none⟩) (by simp; omega), hD, ← sC]; exact one_new _ _ _
  refine ⟨⟨_, 1, rfl, Nat.le_refl _, by simp [maxLen], fun i x hi => ?_⟩, ⟨_, 1, rfl, Nat.le_refl _, by simp [maxLen], fun i x hi => ?_⟩, ⟨_, 3, rfl, Nat.le_refl _, by simp [maxLen], fun i x hi => ?_⟩⟩
  · match i, hi with
    | 0, hi =>
      simp [exSc] at hi
      subst hi
      refine ⟨_, 0, _, rfl, rB, ⟨_, 1, rfl, Nat.le_refl _, by simp [maxLen], fun j c hj => ?_⟩⟩
      match j, hj with
      | 0, hj => simp at hj; subst hj; exact ⟨_, 0, rfl, by omega, rA⟩
  · match i, hi with
    | 0, hi =>
      simp [exAn] at hi
      subst hi
      refine ⟨_, 0, _, rfl, rD, ⟨_, 1, rfl, Nat.le_refl _, by simp [maxLen], fun j c hj => ?_⟩⟩
      match j, hj with
      | 0, hj => simp at hj; subst hj; exact ⟨_, 0, rfl, by omega, rC⟩
  · refine ⟨_, 0, rfl, by omega, ?_⟩
    rw [hEE]
    match i, hi with
    | 0, hi => simp [exTr] at hi; subst hi; exact range_new _ _ _ _ _ rfl sD.symm
    | 1, hi => simp [exTr] at hi; subst hi; exact range_new _ _ _ _ _ rfl sD.symm
    | 2, hi => simp [exTr] at hi; subst hi; exact range_new _ _ _ _ _ rfl sD.symm

theorem call_lit (w : World) :
    Calls Try.prog 23 #[I 0, I 2, I 7, I 0, I 2, I 9] w fun ed w' => ed = .returned (.agg #[I 0, I 2, I 7, I 0, I 0, I 2, I 0, I 9]) ∧ Below w.heap.size w w' := call_any 0 2 7 0 2 9 w

theorem keep8 {u u' : World} {a1 a2 a3 a4 a5 a6 a7 a8 : Addr} {v1 v2 v3 v4 v5 v6 v7 v8 : Value}
    (h : u.cell? a1 = some v1 ∧ u.cell? a2 = some v2 ∧ u.cell? a3 = some v3 ∧ u.cell? a4 = some v4 ∧ u.cell? a5 = some v5 ∧ u.cell? a6 = some v6 ∧ u.cell? a7 = some v7 ∧ u.cell? a8 = some v8) (hb : Below u.heap.size u u') :
    u'.cell? a1 = some v1 ∧ u'.cell? a2 = some v2 ∧ u'.cell? a3 = some v3 ∧ u'.cell? a4 = some v4 ∧ u'.cell? a5 = some v5 ∧ u'.cell? a6 = some v6 ∧ u'.cell? a7 = some v7 ∧ u'.cell? a8 = some v8 := by
  obtain ⟨h1, h2, h3, h4, h5, h6, h7, h8⟩ := h
  exact ⟨kcell hb h1, kcell hb h2, kcell hb h3, kcell hb h4, kcell hb h5, kcell hb h6, kcell hb h7, kcell hb h8⟩

set_option maxHeartbeats 2000000 in
set_option maxRecDepth 100000 in
theorem awake_any (w : World) :
    Calls Try.prog 7 #[] w fun e w' => e = .returned (.bool true) ∧ Below w.heap.size w w' := by
  go_enter Try.func7, Try.ntmps7
  go_wp2_with fail
  refine (call_any 0 1 5 0 3 0 _).mono ?_
  rintro e w1 ⟨rfl, hb1⟩
  have HB1 : Hid (Below w.heap.size w w1) := hb1
  clear hb1
  go_wp2_with fail
  refine (call_any 1 1 2 1 2 5 _).mono ?_
  rintro e w2 ⟨rfl, hb2⟩
  have HB2 : Hid (Below w.heap.size w w2) := below_step HB1.out hb2
  clear hb2
  go_wp2_with fail
  refine (linear_adder 0 _ exA _ (by unfold Fits; omega) (by simp [exA]) histA (two_evs w2 _ _ 33)).mono ?_
  rintro e w3 ⟨⟨b, rfl, hb⟩, hb3⟩
  have : b = true := hb.2 linA
  subst this
  have HB3 : Hid (Below w.heap.size w w3) := below_step (below_alloc HB2.out _) hb3
  clear hb hb3
  go_wp2_with fail
  refine (call_any 0 1 5 0 1 2 _).mono ?_
  rintro e w4 ⟨rfl, hb4⟩
  have HB4 : Hid (Below w.heap.size w w4) := below_step HB3.out hb4
  clear hb4
  go_wp2_with fail
  refine (call_any 1 1 2 2 3 0 _).mono ?_
  rintro e w5 ⟨rfl, hb5⟩
  have HB5 : Hid (Below w.heap.size w w5) := below_step HB4.out hb5
  clear hb5
  go_wp2_with fail
  refine (linear_adder 0 _ exB _ (by unfold Fits; omega) (by simp [exB]) histB (two_evs w5 _ _ 33)).mono ?_
  rintro e w6 ⟨⟨b, rfl, hb⟩, hb6⟩
  have : b = false := by
    cases b with
    | false => rfl
    | true => exact absurd (hb.1 rfl) linB
  subst this
  have HB6 : Hid (Below w.heap.size w w6) := below_step (below_alloc HB5.out _) hb6
  clear hb hb6
  go_wp2_with fail
  refine (linear_arg 6 0 _ _ (by unfold Starts; omega)).mono ?_
  rintro e w7 ⟨⟨b, rfl, hb⟩, hw7⟩
  have hw8 := hw7.symm
  subst hw8
  have : b = false := by
    cases b with
    | false => rfl
    | true => exact (hb.1 rfl).elim
  subst this
  clear hb hw7
  go_wp2_with fail
  refine (of_any _ _ _ exSc exAn exTr _ (exMem w6).1 (exMem w6).2.1 (exMem w6).2.2 (by decide) (fun i => ?_) (by decide)).mono ?_
  · match i with
    | 0 => decide
    | i + 1 => simp [exAn]
  rintro e w9 ⟨⟨r, hr, _, hret⟩, hb9⟩
  obtain ⟨st, rfl, hst⟩ := ofX (hr alikeX)
  rcases hret with ⟨h, _⟩ | ⟨st', v, h, rfl, hown⟩
  · cases h
  · cases h
    have HB9 : Hid (Below w.heap.size w w9) := below_step (below_alloc (below_alloc (below_alloc (below_alloc (below_alloc HB6.out _) _) _) _) _) hb9
    rw [hst] at hown
    obtain ⟨g, cap, rfl, _, hg⟩ := hown.form (by decide)
    have hr8 : w9.rangeAt g 0 (evL (callEv 0 2 7 0 2 9)) := by
      rcases hown.2 with ⟨h0, _⟩ | ⟨g', cap', cur, hv, _, hh, _, _, _, h4⟩
      · cases h0
      · cases hv
        intro j u hj
        have h5 : cur.toList[j]? = some u := by
          have hj8 : j < 8 := by have := (List.getElem?_eq_some_iff.1 hj).1; simpa [evL] using this
          have h4' : cur.toList.take 8 = evL (callEv 0 2 7 0 2 9) := by simpa using h4
          rw [← List.getElem?_take_of_lt (j := 8) hj8, h4']
          exact hj
        simp only [World.cell?, hh]
        simpa using h5
    obtain ⟨x0, x1, x2, x3, x4, x5, x6, x7⟩ := box8 hr8
    simp only [callEv] at x0 x1 x2 x3 x4 x5 x6 x7
    clear hr hb9 hown hst hr8
    go_wp2_with fail
    go_region_held3 (fun u => u.cell? ⟨g, 0, none⟩ = some (I 0) ∧ u.cell? ⟨g, 1, none⟩ = some (I 2) ∧ u.cell? ⟨g, 2, none⟩ = some (I 7) ∧ u.cell? ⟨g, 3, none⟩ = some (I 0) ∧ u.cell? ⟨g, 4, none⟩ = some (I 0) ∧ u.cell? ⟨g, 5, none⟩ = some (I 2) ∧ u.cell? ⟨g, 6, none⟩ = some (I 0) ∧ u.cell? ⟨g, 7, none⟩ = some (I 9))
      (first | (exact keep8 ‹_› ‹Below _ _ _›) | (simp [go_sem, *]; done))
      ((go_at_call 23; refine (call_lit _).mono ?_; rintro e w10 ⟨rfl, hb10⟩))
    rename_i hH
    clear hH
    have HB10 : Hid (Below w.heap.size w w10) := below_step HB9.out.drew hb10
    clear hb10
    go_wp2_with fail
    go_ret
    exact ⟨rfl, HB10.out⟩

end Go.Proofs.Yteniopbmkooomaa
