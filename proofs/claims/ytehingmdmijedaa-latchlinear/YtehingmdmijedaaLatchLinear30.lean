/- LatchLinear: whatever the schedule, the number and the scripts, what a latch's calls are told could have been one call behind the other, as chapter 3's own functions say; no conditions. Part 30 of 39. (Joined, by program, of: GEvs2.) -/
import Derived.Test.YtehingmdmijedaaLatchLinear29
set_option linter.unusedSimpArgs false
set_option linter.unusedVariables false
namespace Go.Proofs.Ytehingmdmijedaa.Gen
open Go Go.Lift Go.Conc Go.RowKit
open Go.Proofs.Ytehingmdmijedaa.His
open Go.ConcN (upd upd_same upd_ne)
inductive Ev9 (cl : Nat → List Cl) (an : Nat → List (Int × Int)) : List Stp → List His.Ev → (Nat → Nat) → Prop
  | nil : Ev9 cl an [] [] (fun _ => 0)
  | other {L : List Stp} {x : Stp} {E : List His.Ev} {id : Nat → Nat} : Ev9 cl an L E id → x.op ≠ 9 → x.op ≠ 10 → Ev9 cl an (L ++ [x]) E id
  | beg {L : List Stp} {E : List His.Ev} {id : Nat → Nat} {i k : Nat} {c : Cl} : Ev9 cl an L E id → nt L i = 2 * k → (cl i)[k]? = some c → Ev9 cl an (L ++ [⟨i, -1, 9, k, 0⟩]) (E ++ [⟨i, c.po, c.ca, c.cb, L.length, -1, 4, 0⟩]) (upd id i E.length)
  | stuck {L : List Stp} {E : List His.Ev} {id : Nat → Nat} {i k : Nat} {a : Int × Int} : Ev9 cl an L E id → nt L i = 2 * k + 1 → (an i)[k]? = some a → a.1 = 4 → Ev9 cl an (L ++ [⟨i, -1, 10, k, a.1⟩]) E id
  | fin {L : List Stp} {E : List His.Ev} {id : Nat → Nat} {i k : Nat} {a : Int × Int} {e : His.Ev} : Ev9 cl an L E id → nt L i = 2 * k + 1 → (an i)[k]? = some a → a.1 ≠ 4 → E[id i]? = some e → Ev9 cl an (L ++ [⟨i, -1, 10, k, a.1⟩]) (E.set (id i) ⟨e.thr, e.op, e.a, e.b, e.beg, L.length, a.1, a.2⟩) id
def AccTo {τ : Type} (ways : Ways τ) : τ → List His.Ev → τ → Prop
  | s, [], t => s = t
  | s, e :: r, t => ∃ o, o ∈ ways s e ∧ o.1 = e.ans ∧ AccTo ways o.2 r t
theorem AccTo.acc {τ : Type} {ways : Ways τ} : ∀ {l : List His.Ev} {s t : τ}, AccTo ways s l t → Acc ways s l
  | [], _, _, _ => trivial
  | e :: r, s, t, h => by obtain ⟨o, h1, h2, h3⟩ := h; exact ⟨o, h1, fun _ => h2, AccTo.acc h3⟩
theorem AccTo.snoc {τ : Type} {ways : Ways τ} {e : His.Ev} {o : (Int × Int) × τ} : ∀ {l : List His.Ev} {s t : τ}, AccTo ways s l t → o ∈ ways t e → o.1 = e.ans → AccTo ways s (l ++ [e]) o.2
  | [], s, t, h, h1, h2 => by have : s = t := h; subst this; exact ⟨o, h1, h2, rfl⟩
  | x :: r, s, t, h, h1, h2 => by obtain ⟨p, k1, k2, k3⟩ := h; exact ⟨p, k1, k2, AccTo.snoc k3 h1 h2⟩
structure EvI (cl : Nat → List Cl) (an : Nat → List (Int × Int)) {τ : Type} (ways : Ways τ) (t0 : τ) (L : List Stp) (E : List His.Ev) (id : Nat → Nat) (ord : List Nat) (t : τ) : Prop where
  timed : ∀ (m : Nat) (e : His.Ev), E[m]? = some e → 0 ≤ e.beg ∧ e.beg < L.length ∧ (e.fin = -1 ∨ (e.beg < e.fin ∧ e.fin < L.length))
  act : ∀ (i k : Nat), nt L i = 2 * k + 1 → ∃ (e : His.Ev) (c : Cl), E[id i]? = some e ∧ e.thr = (i : Int) ∧ e.fin = -1 ∧ (cl i)[k]? = some c ∧ e.op = c.po ∧ e.a = c.ca ∧ e.b = c.cb
  two : ∀ (m m' : Nat) (e e' : His.Ev), m' < m → E[m]? = some e → E[m']? = some e' → e.thr = e'.thr → evAhead e' e = true
  open_ : ∀ (m : Nat) (e : His.Ev) (i : Nat), E[m]? = some e → e.thr = (i : Int) → e.fin = -1 → (nt L i % 2 = 1 ∧ m = id i) ∨ ∃ (q : Nat) (a : Int × Int), q < nt L i / 2 ∧ (an i)[q]? = some a ∧ a.1 = 4
  nodup : ord.Nodup
  over : ∀ (m : Nat), m ∈ ord → ∃ (e : His.Ev), E[m]? = some e ∧ e.over = true
  all : ∀ (m : Nat) (e : His.Ev), E[m]? = some e → e.over = true → m ∈ ord
  ord_ : ord.Pairwise fun m m' => (E.getD m ev0).fin < (E.getD m' ev0).fin
  acc : AccTo ways t0 (ord.map fun m => E.getD m ev0) t
theorem getD_ev {E : List His.Ev} {m : Nat} {e : His.Ev} (h : E[m]? = some e) : E.getD m ev0 = e := by rw [List.getD_eq_getElem?_getD, h]; rfl
theorem over_fin {e : His.Ev} : e.over = true ↔ e.fin ≠ -1 := over_iff
section
variable {cl : Nat → List Cl} {an : Nat → List (Int × Int)} {τ : Type} {ways : Ways τ} {t0 t : τ} {L : List Stp} {E : List His.Ev} {id : Nat → Nat} {ord : List Nat}
theorem EvI.skip (h : EvI cl an ways t0 L E id ord t) (x : Stp) (ha : ∀ (i k : Nat), nt (L ++ [x]) i = 2 * k + 1 → nt L i = 2 * k + 1) (ho : ∀ (i m : Nat), nt L i % 2 = 1 → m = id i → nt (L ++ [x]) i = nt L i ∨ ∃ (q : Nat) (a : Int × Int), q < nt (L ++ [x]) i / 2 ∧ (an i)[q]? = some a ∧ a.1 = 4) : EvI cl an ways t0 (L ++ [x]) E id ord t := by
  refine ⟨fun m e he => ?_, fun i k hn => h.act i k (ha i k hn), h.two, fun m e i he hi hf => ?_, h.nodup, h.over, h.all, h.ord_, h.acc⟩
  · have := h.timed m e he
    rw [List.length_append, List.length_singleton]
    refine ⟨this.1, by omega, ?_⟩
    rcases this.2.2 with h | h
    · exact .inl h
    · exact .inr ⟨h.1, by omega⟩
  · rcases h.open_ m e i he hi hf with ⟨h1, h2⟩ | ⟨q, a, h1, h2, h3⟩
    · rcases ho i m h1 h2 with e | e
      · exact .inl ⟨by rw [e]; exact h1, h2⟩
      · exact .inr e
    · exact .inr ⟨q, a, by have := nt_le L x i; omega, h2, h3⟩
theorem EvI.begin (h : EvI cl an ways t0 L E id ord t) {i k : Nat} {c : Cl} (hn : nt L i = 2 * k) (hc : (cl i)[k]? = some c) (h4 : No4 (an i) k) : EvI cl an ways t0 (L ++ [⟨i, -1, 9, k, 0⟩]) (E ++ [⟨i, c.po, c.ca, c.cb, L.length, -1, 4, 0⟩]) (upd id i E.length) ord t := by
  have get : ∀ (m : Nat) (e : His.Ev), (E ++ [(⟨i, c.po, c.ca, c.cb, L.length, -1, 4, 0⟩ : His.Ev)])[m]? = some e → E[m]? = some e ∨ (m = E.length ∧ e = ⟨i, c.po, c.ca, c.cb, L.length, -1, 4, 0⟩) := fun m e he => by
    rw [List.getElem?_append] at he
    split at he
    · exact .inl he
    · right
      have : m - E.length = 0 := by have := (List.getElem?_eq_some_iff.1 he).1; simp at this; omega
      rw [this] at he
      exact ⟨by omega, by simpa using he.symm⟩
  have lift : ∀ (m : Nat) (e : His.Ev), E[m]? = some e → (E ++ [(⟨i, c.po, c.ca, c.cb, L.length, -1, 4, 0⟩ : His.Ev)])[m]? = some e := fun m e he => by rw [List.getElem?_append_left (List.getElem?_eq_some_iff.1 he).1]; exact he
  have own : nt (L ++ [⟨i, -1, 9, k, 0⟩]) i = 2 * k + 1 := by rw [nt_own _ _ _ _ (.inl rfl), hn]
  have oth : ∀ j, j ≠ i → nt (L ++ [⟨i, -1, 9, k, 0⟩]) j = nt L j := fun j hj => nt_oth _ hj _ _ _
  have mem : ∀ (m : Nat), m ∈ ord → (E ++ [(⟨i, c.po, c.ca, c.cb, L.length, -1, 4, 0⟩ : His.Ev)]).getD m ev0 = E.getD m ev0 := fun m hm => by
    obtain ⟨e, he, _⟩ := h.over m hm
    rw [getD_ev he, getD_ev (lift m e he)]
  refine ⟨fun m e he => ?_, fun j q hq => ?_, fun m m' e e' hlt he he' ht => ?_, fun m e j he hj hf => ?_, h.nodup, fun m hm => ?_, fun m e he ho => ?_, ?_, ?_⟩
  · rw [List.length_append, List.length_singleton]
    rcases get m e he with he | ⟨_, rfl⟩
    · have := h.timed m e he
      refine ⟨this.1, by omega, ?_⟩
      rcases this.2.2 with h | h
      · exact .inl h
      · exact .inr ⟨h.1, by omega⟩
    · exact ⟨by show (0 : Int) ≤ (L.length : Int); omega, by show (L.length : Int) < ((L.length + 1 : Nat) : Int); omega, .inl rfl⟩
  · by_cases e : j = i
    · subst e
      have : q = k := by omega
      subst this
      rw [upd_same]
      exact ⟨⟨j, c.po, c.ca, c.cb, L.length, -1, 4, 0⟩, c, by rw [List.getElem?_append_right (Nat.le_refl _)]; simp, rfl, rfl, hc, rfl, rfl, rfl⟩
    · rw [oth j e] at hq
      obtain ⟨e1, c1, k1, k2⟩ := h.act j q hq
      rw [upd_ne _ _ e]
      exact ⟨e1, c1, lift _ _ k1, k2⟩
  · rcases get m e he with he | ⟨rfl, rfl⟩
    · rcases get m' e' he' with he' | ⟨rfl, _⟩
      · exact h.two m m' e e' hlt he he' ht
      · have := (List.getElem?_eq_some_iff.1 he).1; omega
    · rcases get m' e' he' with he' | ⟨rfl, _⟩
      · have hfin : e'.fin ≠ -1 := fun hf => by
          rcases h.open_ m' e' i he' ht.symm hf with ⟨h1, _⟩ | ⟨q, a, h1, h2, h3⟩
          · omega
          · exact h4 q a (by omega) h2 h3
        have := (h.timed m' e' he').2.2
        unfold evAhead
        rw [over_fin.2 hfin, Bool.true_and]
        exact decide_eq_true (by show e'.fin < (L.length : Int); rcases this with h | h; exact absurd h hfin; exact h.2)
      · omega
  · rcases get m e he with hE | ⟨rfl, rfl⟩
    · by_cases ej : j = i
      · subst ej
        rcases h.open_ m e j hE hj hf with ⟨h1, _⟩ | ⟨q, a, h1, h2, h3⟩
        · omega
        · exact .inr ⟨q, a, by omega, h2, h3⟩
      · rw [oth j ej, upd_ne _ _ ej]
        exact h.open_ m e j hE hj hf
    · have : (i : Int) = j := hj
      obtain rfl : j = i := by omega
      exact .inl ⟨by omega, by rw [upd_same]⟩
  · obtain ⟨e, he, ho⟩ := h.over m hm
    exact ⟨e, lift m e he, ho⟩
  · rcases get m e he with he | ⟨rfl, rfl⟩
    · exact h.all m e he ho
    · exact absurd rfl (over_fin.1 ho)
  · exact h.ord_.imp_of_mem fun ha hb hlt => by rw [mem _ ha, mem _ hb]; exact hlt
  · have : ord.map (fun m => (E ++ [(⟨i, c.po, c.ca, c.cb, L.length, -1, 4, 0⟩ : His.Ev)]).getD m ev0) = ord.map fun m => E.getD m ev0 := List.map_congr_left mem
    rw [this]; exact h.acc
theorem EvI.finish (h : EvI cl an ways t0 L E id ord t) {i k : Nat} {a : Int × Int} {e0 : His.Ev} {o : (Int × Int) × τ} (hn : nt L i = 2 * k + 1) (he0 : E[id i]? = some e0) (hf0 : e0.fin = -1) (ht0 : e0.thr = (i : Int)) (ho : o ∈ ways t ⟨e0.thr, e0.op, e0.a, e0.b, e0.beg, L.length, a.1, a.2⟩) (hoa : o.1 = a) :
    EvI cl an ways t0 (L ++ [⟨i, -1, 10, k, a.1⟩]) (E.set (id i) ⟨e0.thr, e0.op, e0.a, e0.b, e0.beg, L.length, a.1, a.2⟩) id (ord ++ [id i]) o.2 := by
  have hlt0 : id i < E.length := (List.getElem?_eq_some_iff.1 he0).1
  have get : ∀ (m : Nat) (e : His.Ev), (E.set (id i) (⟨e0.thr, e0.op, e0.a, e0.b, e0.beg, L.length, a.1, a.2⟩ : His.Ev))[m]? = some e → (m ≠ id i ∧ E[m]? = some e) ∨ (m = id i ∧ e = ⟨e0.thr, e0.op, e0.a, e0.b, e0.beg, L.length, a.1, a.2⟩) := fun m e he => by
    rw [List.getElem?_set] at he
    by_cases em : id i = m
    · rw [if_pos em, if_pos hlt0] at he
      exact .inr ⟨em.symm, (Option.some.inj he).symm⟩
    · rw [if_neg em] at he
      exact .inl ⟨fun x => em x.symm, he⟩
  have put : (E.set (id i) (⟨e0.thr, e0.op, e0.a, e0.b, e0.beg, L.length, a.1, a.2⟩ : His.Ev))[id i]? = some ⟨e0.thr, e0.op, e0.a, e0.b, e0.beg, L.length, a.1, a.2⟩ := by rw [List.getElem?_set, if_pos rfl, if_pos hlt0]
  have lift : ∀ (m : Nat) (e : His.Ev), m ≠ id i → E[m]? = some e → (E.set (id i) (⟨e0.thr, e0.op, e0.a, e0.b, e0.beg, L.length, a.1, a.2⟩ : His.Ev))[m]? = some e := fun m e hm he => by rw [List.getElem?_set, if_neg (fun x => hm x.symm)]; exact he
  have nin : id i ∉ ord := fun hm => by
    obtain ⟨e, he, hov⟩ := h.over _ hm
    rw [he0] at he
    cases he
    exact over_fin.1 hov hf0
  have mem : ∀ (m : Nat), m ∈ ord → (E.set (id i) (⟨e0.thr, e0.op, e0.a, e0.b, e0.beg, L.length, a.1, a.2⟩ : His.Ev)).getD m ev0 = E.getD m ev0 := fun m hm => by
    obtain ⟨e, he, _⟩ := h.over m hm
    rw [getD_ev he, getD_ev (lift m e (fun x => nin (x ▸ hm)) he)]
  have own : nt (L ++ [⟨i, -1, 10, k, a.1⟩]) i = 2 * (k + 1) := by rw [nt_own _ _ _ _ (.inr rfl), hn]; omega
  have oth : ∀ j, j ≠ i → nt (L ++ [⟨i, -1, 10, k, a.1⟩]) j = nt L j := fun j hj => nt_oth _ hj _ _ _
  have hb0 := h.timed _ _ he0
  have hov : (⟨e0.thr, e0.op, e0.a, e0.b, e0.beg, L.length, a.1, a.2⟩ : His.Ev).over = true := over_fin.2 (by show (L.length : Int) ≠ -1; omega)
  refine ⟨fun m e he => ?_, fun j q hq => ?_, fun m m' e e' hlt he he' ht => ?_, fun m e j he hj hf => ?_, ?_, fun m hm => ?_, fun m e he ho => ?_, ?_, ?_⟩
  · rw [List.length_append, List.length_singleton]
    rcases get m e he with ⟨_, he⟩ | ⟨_, rfl⟩
    · have := h.timed m e he
      refine ⟨this.1, by omega, ?_⟩
      rcases this.2.2 with h | h
      · exact .inl h
      · exact .inr ⟨h.1, by omega⟩
    · exact ⟨hb0.1, by have := hb0.2.1; show e0.beg < ((L.length + 1 : Nat) : Int); omega, .inr ⟨hb0.2.1, by show (L.length : Int) < ((L.length + 1 : Nat) : Int); omega⟩⟩
  · by_cases e : j = i
    · subst e; omega
    · rw [oth j e] at hq
      obtain ⟨e1, c1, k1, k2, k3⟩ := h.act j q hq
      have : id j ≠ id i := fun x => by
        rw [x, he0] at k1
        cases k1
        rw [ht0] at k2
        exact e (by omega)
      exact ⟨e1, c1, lift _ _ this k1, k2, k3⟩
  · rcases get m e he with ⟨_, he⟩ | ⟨rfl, rfl⟩
    · rcases get m' e' he' with ⟨_, he'⟩ | ⟨rfl, rfl⟩
      · exact h.two m m' e e' hlt he he' ht
      · have := evAhead_over (h.two m _ e e0 hlt he he0 ht)
        exact absurd hf0 (over_fin.1 this)
    · rcases get m' e' he' with ⟨_, he'⟩ | ⟨rfl, _⟩
      · exact h.two _ m' e0 e' hlt he0 he' ht
      · omega
  · rcases get m e he with ⟨hm, hE⟩ | ⟨rfl, rfl⟩
    · by_cases ej : j = i
      · subst ej
        rcases h.open_ m e j hE hj hf with ⟨_, h1⟩ | ⟨q, b, h1, h2, h3⟩
        · exact absurd h1 hm
        · exact .inr ⟨q, b, by omega, h2, h3⟩
      · rw [oth j ej]
        exact h.open_ m e j hE hj hf
    · exact absurd hf (over_fin.1 hov)
  · exact List.nodup_append.2 ⟨h.nodup, by simp, fun x hx y hy => by rw [List.mem_singleton] at hy; subst hy; exact fun e => nin (e ▸ hx)⟩
  · rw [List.mem_append, List.mem_singleton] at hm
    rcases hm with hm | rfl
    · obtain ⟨e, he, ho⟩ := h.over m hm
      exact ⟨e, lift m e (fun x => nin (x ▸ hm)) he, ho⟩
    · exact ⟨_, put, hov⟩
  · rw [List.mem_append, List.mem_singleton]
    rcases get m e he with ⟨_, he⟩ | ⟨rfl, _⟩
    · exact .inl (h.all m e he ho)
    · exact .inr rfl
  · rw [List.pairwise_append]
    refine ⟨h.ord_.imp_of_mem fun ha hb hlt => by rw [mem _ ha, mem _ hb]; exact hlt, List.pairwise_singleton _ _, fun x hx y hy => ?_⟩
    rw [List.mem_singleton] at hy
    subst hy
    obtain ⟨e, he, ho⟩ := h.over x hx
    rw [mem _ hx, getD_ev he, getD_ev put]
    have := (h.timed x e he).2.2
    rcases this with h | h
    · exact absurd h (over_fin.1 ho)
    · exact h.2
  · have e1 : ord.map (fun m => (E.set (id i) (⟨e0.thr, e0.op, e0.a, e0.b, e0.beg, L.length, a.1, a.2⟩ : His.Ev)).getD m ev0) = ord.map fun m => E.getD m ev0 := List.map_congr_left mem
    rw [List.map_append, e1, List.map_singleton, getD_ev put]
    exact h.acc.snoc ho (by rw [hoa]; rfl)
end
theorem run_lin {σ τ : Type} {N : Nat} {cl : Nat → List Cl} {an : Nat → List (Int × Int)} {st : σ → Cl → Int × Int → σ → Prop} {s0 s : σ} {ways : Ways τ} (f : σ → τ) (hw : ∀ (s : σ) (c : Cl) (a : Int × Int) (s' : σ) (e : His.Ev), st s c a s' → e.op = c.po → e.a = c.ca → e.b = c.cb → e.ans = a → ∃ o, o ∈ ways (f s) e ∧ o.1 = a ∧ o.2 = f s') {L : List Stp} (h : Run9 N cl an st s0 L s) :
    ∃ E id ord, Ev9 cl an L E id ∧ EvI cl an ways (f s0) L E id ord (f s) := by
  induction h with
  | nil => exact ⟨[], _, [], .nil, ⟨fun m e he => by simp at he, fun i k hn => by simp [nt] at hn, fun m m' e e' _ he => by simp at he, fun m e i he => by simp at he, List.nodup_nil, fun m hm => (nomatch hm), fun m e he => by simp at he, .nil, rfl⟩⟩
  | @other L x s h h9 h10 ih =>
    obtain ⟨E, id, ord, h1, h2⟩ := ih
    exact ⟨E, id, ord, .other h1 h9 h10, h2.skip x (fun i k hn => by rw [nt_no h9 h10] at hn; exact hn) (fun i m _ _ => .inl (nt_no h9 h10 i))⟩
  | beg h hi hn hc h4 ih =>
    obtain ⟨E, id, ord, h1, h2⟩ := ih
    exact ⟨_, _, ord, .beg h1 hn hc, h2.begin hn hc h4⟩
  | @stuck L i k a s h hi hn ha h4 ih =>
    obtain ⟨E, id, ord, h1, h2⟩ := ih
    refine ⟨E, id, ord, .stuck h1 hn ha h4, h2.skip _ (fun j q hq => ?_) (fun j m _ _ => ?_)⟩
    · by_cases e : j = i
      · subst e; rw [nt_own _ _ _ _ (.inr rfl), hn] at hq; omega
      · rw [nt_oth _ e] at hq; exact hq
    · by_cases e : j = i
      · subst e; exact .inr ⟨k, a, by rw [nt_own _ _ _ _ (.inr rfl), hn]; omega, ha, h4⟩
      · exact .inl (nt_oth _ e _ _ _)
  | @fin L i k c a s s' h hi hn hc ha h4 hs ih =>
    obtain ⟨E, id, ord, h1, h2⟩ := ih
    obtain ⟨e0, c0, k1, k2, k3, k4, k5, k6, k7⟩ := h2.act i k hn
    obtain rfl : c = c0 := by rw [hc] at k4; exact Option.some.inj k4
    obtain ⟨o, w1, w2, w3⟩ := hw s c a s' ⟨e0.thr, e0.op, e0.a, e0.b, e0.beg, L.length, a.1, a.2⟩ hs k5 k6 k7 rfl
    refine ⟨_, _, ord ++ [id i], .fin h1 hn ha h4 k1, ?_⟩
    rw [← w3]
    exact h2.finish hn k1 k3 k2 w1 w2
theorem EvI.hist {cl : Nat → List Cl} {an : Nat → List (Int × Int)} {τ : Type} {ways : Ways τ} {t0 t : τ} {L : List Stp} {E : List His.Ev} {id : Nat → Nat} {ord : List Nat} (h : EvI cl an ways t0 L E id ord t) : Hist E := fun i hi => by
  have hg : ∀ m, m < E.length → E[m]? = some (E.getD m ev0) := fun m hm => by rw [List.getD_eq_getElem?_getD, List.getElem?_eq_getElem hm]; rfl
  refine ⟨?_, fun k hk ht => .inr (h.two i k _ _ hk (hg i hi) (hg k (by omega)) ht)⟩
  have := h.timed i _ (hg i hi)
  exact ⟨this.1, this.2.2.imp (fun x => x) (·.1)⟩
theorem EvI.lin {cl : Nat → List Cl} {an : Nat → List (Int × Int)} {τ : Type} {ways : Ways τ} {t0 t : τ} {L : List Stp} {E : List His.Ev} {id : Nat → Nat} {ord : List Nat} (h : EvI cl an ways t0 L E id ord t) : Lin ways t0 E := by
  have hg : ∀ m, m < E.length → E[m]? = some (E.getD m ev0) := fun m hm => by rw [List.getD_eq_getElem?_getD, List.getElem?_eq_getElem hm]; rfl
  refine ⟨ord, h.nodup, fun m hm => ?_, fun m hm ho => h.all m _ (hg m hm) ho, h.ord_.imp_of_mem fun ha hb hlt => ?_, h.acc.acc⟩
  · obtain ⟨e, he, _⟩ := h.over m hm
    exact (List.getElem?_eq_some_iff.1 he).1
  · obtain ⟨e, he, ho⟩ := h.over _ ha
    rw [getD_ev he] at hlt ⊢
    unfold evAhead
    rw [Bool.and_eq_false_iff]
    right
    refine decide_eq_false ?_
    have := (h.timed _ e he).2.2
    rcases this with h | h
    · exact absurd h (over_fin.1 ho)
    · omega
end Go.Proofs.Ytehingmdmijedaa.Gen
