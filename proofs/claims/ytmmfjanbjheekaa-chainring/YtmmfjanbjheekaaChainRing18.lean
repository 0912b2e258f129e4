/- ChainRing: of a ring the last who writes down is told, under every schedule. Part 18 of 28. (Joined, by program, of: ChI, ChR, ChE, GWp, GObj, GRK, GL12.) -/
import Derived.Test.YtmmfjanbjheekaaChainRing14
import Derived.Test.YtmmfjanbjheekaaChainRing17
import Derived.Deep.LoopGhost
import Derived.Deep.OwnRows
import Derived.Deep.RegionWith
import Derived.Deep.RegionHeld3
import Derived.BigQuiet

/- What holds of a chain's Play, whatever the schedule: who is told went by what was asked; no call has more steps than n + 1. -/
set_option linter.unusedSimpArgs false
set_option linter.unusedVariables false
namespace Go.Proofs.Ytmmfjanbjheekaa.Gen
open Go Go.Lift Go.Conc Go.RowKit
open Go.ConcN (upd upd_same upd_ne)

structure HI (N n : Nat) (E : Nat → Nat → Prop) (cl : Nat → List Cl) (v : Vw) : Prop where
  kl : v.K.length = n
  cel : ∀ (j : Nat) (x : Int), v.K[j]? = some x → x = 0 ∨ ∃ b : Nat, x = (b : Int) + 1 ∧ b < n ∧ E j b
  stk : v.stk = false
  seat : ∀ i, i < N → HSeat n E (cl i) (repH cl v.L) v.K i (v.l i)
  alen : ∀ i, i < N → (v.l i).ans.length = (cl i).length
  sto : ∀ i, i < N → ∀ (k : Nat) (c : Cl), k < upC (cl i) (v.l i) → (cl i)[k]? = some c → c.po = 1 → Kn v.K (keyH n c.ca)
  told : ∀ i, i < N → ∀ (k : Nat) (a : Int × Int), (v.l i).ans[k]? = some a → a.2 ≠ 0 → ∃ c, (cl i)[k]? = some c ∧ Rc E (keyH n c.ca) (keyH n c.ca)
  stp : StsR N n cl rh0 v.L
/-- A cell in which something is written down. -/
theorem kn_set {K : List Int} {j : Nat} {y : Int} (hy : y ≠ 0) {a : Nat} (h : Kn K a) : Kn (K.set j y) a := by
  obtain ⟨x, h1, h2⟩ := h
  have hl := (List.getElem?_eq_some_iff.1 h1).1
  by_cases e : j = a
  · subst e
    exact ⟨y, by rw [List.getElem?_set, if_pos rfl, if_pos hl], hy⟩
  · exact ⟨x, by rw [List.getElem?_set, if_neg e]; exact h1, h2⟩
theorem set_getD {K : List Int} {j : Nat} (hj : j < K.length) : K.set j (K.getD j 0) = K ∧ K[j]? = some (K.getD j 0) := by
  have h : K[j]? = some (K.getD j 0) := by rw [List.getD_eq_getElem?_getD, List.getElem?_eq_getElem hj]; rfl
  refine ⟨?_, h⟩
  apply List.ext_getElem?
  intro k
  rw [List.getElem?_set]
  split
  · rename_i e
    subst e
    first | exact h.symm | rw [if_pos hj, h]
  · rfl

/-- What comes next is an answer, or a look. -/
def NxG (n : Nat) (E : Nat → Nat → Prop) (a cn : Nat) (nx : Nx) : Prop := (∃ z : Int, nx = .ans 0 z ∧ (z ≠ 0 → Rc E a a)) ∨ (∃ k x' : Nat, nx = .turn 1 x' (1, [(a : Int), (k : Int), (x' : Int)]) ∧ x' < n ∧ k < n ∧ cn = k ∧ Rc E a x')
/-- A thread's turn: of its step s, and of what follows in the same turn. -/
theorem HI.move {N n : Nat} {E : Nat → Nat → Prop} {cl : Nat → List Cl} {v v1 : Vw} (h : HI N n E cl v) {i : Nat} (hi : i < N) {op : Int} {j : Nat} {q : Q} {rest : List Cl} {ii : Nat} {ans : List (Int × Int)} (hl : v.l i = .turn op j q rest ii ans)
    {x y : Int} {nx : Nx} {X : List Stp} {l' : Ph} {c : Cl} (hc : (cl i)[ii]? = some c) (hp : c.po = 1) (hrest : rest = (cl i).drop (ii + 1)) (hcall : (repH cl v.L).call i = ii) (hop : op = 1 ∨ op = 2)
    (ho : On (mcH n) i false rest ii ans nx X l') (e : Els i l' v v1) (hst : v1.stk = v.stk) (hL : v1.L = v.L ++ ⟨i, j, op, x, y⟩ :: X)
    (kl : v1.K.length = n) (cel : ∀ (j : Nat) (x : Int), v1.K[j]? = some x → x = 0 ∨ ∃ b : Nat, x = (b : Int) + 1 ∧ b < n ∧ E j b) (hkn : ∀ a, Kn v.K a → Kn v1.K a) (hme : Kn v1.K (keyH n c.ca)) (hcnt : (repH cl v.L).cnt i ≤ n)
    (hnx : NxG n E (keyH n c.ca) ((repH cl v.L).cnt i) nx) : HI N n E cl v1 := by
  have hlt : ii < (cl i).length := (List.getElem?_eq_some_iff.1 hc).1
  have hal : ans.length = (cl i).length := by have := h.alen i hi; rw [hl] at this; exact this
  have hr1 : ∀ k, k ≠ i → (rsH cl (repH cl v.L) ⟨i, j, op, x, y⟩).cnt k = (repH cl v.L).cnt k ∧ (rsH cl (repH cl v.L) ⟨i, j, op, x, y⟩).call k = (repH cl v.L).call k := fun k hk => by
    rcases hop with rfl | rfl
    · rw [rsH_look]; exact ⟨upd_ne _ _ hk, rfl⟩
    · rw [rsH_put]; exact ⟨upd_ne _ _ hk, rfl⟩
  have hr2 : (rsH cl (repH cl v.L) ⟨i, j, op, x, y⟩).cnt i = (repH cl v.L).cnt i + 1 ∧ (rsH cl (repH cl v.L) ⟨i, j, op, x, y⟩).call i = ii := by
    rcases hop with rfl | rfl
    · rw [rsH_look]; exact ⟨upd_same _ _ _, hcall⟩
    · rw [rsH_put]; exact ⟨upd_same _ _ _, hcall⟩
  have hS1 : ∀ N', i < N' → StR N' n cl (rsH cl (repH cl v.L) ⟨i, j, op, x, y⟩) ⟨i, j, op, x, y⟩ := fun N' hN => ⟨i, rfl, hN, by rw [hr2.2]; exact hlt, fun _ => by rw [hr2.1]; omega, fun e9 => by
    have e9 : op = 9 := e9
    rcases hop with rfl | rfl <;> simp at e9⟩
  rcases hnx with ⟨z, rfl, hz⟩ | ⟨k, x', rfl, hx', hk, hkc, hrc⟩
  · cases ho with
    | @ans _ _ X2 _ hfw =>
      have f := fw_H (E := E) (cl := cl) hfw (rsH cl (rsH cl (repH cl v.L) ⟨i, j, op, x, y⟩) ⟨i, -1, 10, ii, 0⟩) v1.K hrest (by omega) (by rw [List.length_set]; exact hal) rfl
      have e2 := rsH_end (cl := cl) (r := rsH cl (repH cl v.L) ⟨i, j, op, x, y⟩) (i := i) ii 0
      have hrep : repH cl v1.L = List.foldl (rsH cl) (rsH cl (rsH cl (repH cl v.L) ⟨i, j, op, x, y⟩) ⟨i, -1, 10, ii, 0⟩) X2 := by
        rw [hL, repH_app]; rfl
      rw [← hrep] at f
      have hup := f.up
      have hoth : ∀ k, k ≠ i → (repH cl v1.L).cnt k = (repH cl v.L).cnt k ∧ (repH cl v1.L).call k = (repH cl v.L).call k := fun k hk => by
        obtain ⟨q1, q2⟩ := f.oth k hk
        rw [e2] at q1 q2
        exact ⟨(q1.trans (upd_ne _ _ hk)).trans (hr1 k hk).1, q2.trans (hr1 k hk).2⟩
      refine ⟨kl, cel, by rw [hst]; exact h.stk, fun m hm => ?_, fun m hm => ?_, fun m hm k c' h1 h2 h3 => ?_, fun m hm k a h1 h2 => ?_, ?_⟩
      · rw [e.l]
        by_cases hne : m = i
        · subst hne; rw [upd_same]; exact f.seat
        · rw [upd_ne _ _ hne]
          exact (h.seat m hm).oth (hoth m hne).1 (hoth m hne).2 hkn
      · rw [e.l]
        by_cases hne : m = i
        · subst hne; rw [upd_same]; exact f.len
        · rw [upd_ne _ _ hne]; exact h.alen m hm
      · rw [e.l] at h1
        by_cases hne : m = i
        · subst hne
          rw [upd_same] at h1
          by_cases h4 : k < ii
          · exact hkn _ (h.sto m hm k c' (by rw [hl]; exact h4) h2 h3)
          · by_cases h5 : k = ii
            · subst h5
              rw [hc] at h2
              cases h2
              exact hme
            · exact absurd h3 (f.sto k c' (by omega) h1 h2)
        · rw [upd_ne _ _ hne] at h1
          exact hkn _ (h.sto m hm k c' h1 h2 h3)
      · rw [e.l] at h1
        by_cases hne : m = i
        · subst hne
          rw [upd_same] at h1
          have h3 := f.zer k a h1 h2
          rw [List.getElem?_set] at h3
          split at h3
          · rename_i h4
            subst h4
            split at h3
            · cases h3
              exact ⟨c, hc, hz h2⟩
            · cases h3
          · exact h.told m hm k a (by rw [hl]; exact h3) h2
        · rw [upd_ne _ _ hne] at h1
          exact h.told m hm k a h1 h2
      · rw [hL]
        refine h.stp.app ⟨hS1 N hi, ⟨i, rfl, hi, ?_, fun h => absurd rfl h, fun h => absurd (show (10 : Int) = 9 from h) (by decide)⟩, f.xs N hi⟩
        show (rsH cl (rsH cl (repH cl v.L) ⟨i, j, op, x, y⟩) ⟨i, -1, 10, ii, 0⟩).call i < _
        rw [e2]
        show (rsH cl (repH cl v.L) ⟨i, j, op, x, y⟩).call i < _
        rw [hr2.2]
        exact hlt
  · cases ho
    have hrep : repH cl v1.L = rsH cl (repH cl v.L) ⟨i, j, op, x, y⟩ := by rw [hL, repH_one]
    refine ⟨kl, cel, by rw [hst]; exact h.stk, fun m hm => ?_, fun m hm => ?_, fun m hm k c' h1 h2 h3 => ?_, fun m hm k a h1 h2 => ?_, ?_⟩
    · rw [e.l]
      by_cases hne : m = i
      · subst hne
        rw [upd_same, hrep]
        exact ⟨hrest, hr2.2, c, hc, hp, .inr ⟨rfl, k, rfl, hx', hk, by rw [hr2.1]; omega, hrc, hme⟩⟩
      · rw [upd_ne _ _ hne, hrep]
        exact (h.seat m hm).oth (hr1 m hne).1 (hr1 m hne).2 hkn
    · rw [e.l]
      by_cases hne : m = i
      · subst hne; rw [upd_same]; exact hal
      · rw [upd_ne _ _ hne]; exact h.alen m hm
    · rw [e.l] at h1
      by_cases hne : m = i
      · subst hne
        rw [upd_same] at h1
        exact hkn _ (h.sto m hm k c' (by rw [hl]; exact h1) h2 h3)
      · rw [upd_ne _ _ hne] at h1
        exact hkn _ (h.sto m hm k c' h1 h2 h3)
    · rw [e.l] at h1
      by_cases hne : m = i
      · subst hne
        rw [upd_same] at h1
        exact h.told m hm k a (by rw [hl]; exact h1) h2
      · rw [upd_ne _ _ hne] at h1
        exact h.told m hm k a h1 h2
    · rw [hL]
      exact h.stp.app ⟨hS1 N hi, trivial⟩

theorem nxH_cases (n fr x k : Nat) (P : Nx → Prop) (h1 : k < n → x = fr → P (.ans 0 1)) (h2 : k < n → x ≠ fr → P (.turn 1 x (1, [(fr : Int), (k : Int), (x : Int)]))) (h3 : n ≤ k → P (.ans 0 0)) : P (nxH n fr x k) := by
  unfold nxH
  split
  · split
    · exact h1 (by assumption) (by assumption)
    · exact h2 (by assumption) (by assumption)
  · exact h3 (by omega)
/-- The machine's two turns. -/
theorem mcH_put {n a b : Nat} (hb : b < n) (x : Int) : (mcH n).turn (0, [(a : Int), (b : Int)]) x = ((x, (b : Int) + 1), (b : Int) + 1, nxH n a b 0) := by
  have e : ((b : Int) % (n : Int)) = b := Int.emod_eq_of_lt (by omega) (by omega)
  simp [mcH, Nat.mod_eq_of_lt hb, e]
theorem mcH_look {n a k j : Nat} (x : Int) : (mcH n).turn (1, [(a : Int), (k : Int), (j : Int)]) x = ((x, x), x, if x = 0 then .ans 0 0 else nxH n a (x - 1).toNat (k + 1)) := by
  simp [mcH]

theorem chain_mv {N n : Nat} (h0 : 0 < n) {E : Nat → Nat → Prop} {cl : Nat → List Cl} (hE : ∀ i, i < N → ∀ c ∈ cl i, c.po = 1 → E (keyH n c.ca) (keyH n c.cb)) {v v1 : Vw} (h : HI N n E cl v) (m : Mv (mcH n) N v v1) : HI N n E cl v1 := by
  cases m with
  | stuck hs hall hex e =>
    obtain ⟨i, hi, j, q, r, k, a, hl⟩ := hex
    have := h.seat i hi
    rw [hl] at this
    exact this.elim
  | wake i j q rest ii ans X l' hi hl _ _ _ _ _ _ _ _ =>
    have := h.seat i hi
    rw [hl] at this
    exact this.elim
  | free i j q rest ii ans X l' hi hl _ _ _ _ _ _ _ =>
    have := h.seat i hi
    rw [hl] at this
    exact this.elim
  | turn i op j q rest ii ans X l' hi hl ho e hK hst hchg hL =>
    have hs := h.seat i hi
    rw [hl] at hs
    obtain ⟨hrest, hcall, c, hc, hp, h5⟩ := hs
    have hcm : c ∈ cl i := List.mem_of_getElem? hc
    have hEc := hE i hi c hcm hp
    rw [h.stk] at ho
    rcases h5 with ⟨rfl, rfl, rfl, hcn⟩ | ⟨rfl, k, rfl, hj, hk, hcn, hrc, hkn⟩
    · -- it writes down
      have hb := keyH_lt h0 c.cb
      have ha := keyH_lt h0 c.ca
      rw [mcH_put hb] at ho hK hL
      have hK : v1.K = v.K.set (keyH n c.ca) ((keyH n c.cb : Int) + 1) := hK
      have hy : ((keyH n c.cb : Int) + 1) ≠ 0 := by omega
      refine h.move hi hl hc hp hrest hcall (.inr rfl) ho e hst hL (by rw [hK, List.length_set]; exact h.kl) (fun j x hx => ?_) (fun a ha => by rw [hK]; exact kn_set hy ha) ?_ (by omega) ?_
      · rw [hK, List.getElem?_set] at hx
        split at hx
        · rename_i e1
          subst e1
          split at hx
          · cases hx
            exact .inr ⟨keyH n c.cb, rfl, hb, hEc⟩
          · cases hx
        · exact h.cel j x hx
      · exact ⟨_, by rw [hK, List.getElem?_set, if_pos rfl, if_pos (by rw [h.kl]; exact ha)], hy⟩
      · show NxG n E (keyH n c.ca) _ (nxH n (keyH n c.ca) (keyH n c.cb) 0)
        refine nxH_cases n _ _ _ (NxG n E (keyH n c.ca) _) (fun h1 h2 => .inl ⟨1, rfl, fun _ => ?_⟩) (fun h1 h2 => .inr ⟨0, _, rfl, hb, h0, hcn, .one hEc⟩) (fun h1 => by omega)
        have := Rc.one hEc
        rw [h2] at this
        exact this
    · -- it looks
      have hjs : j < v.K.length := by rw [h.kl]; exact hj
      obtain ⟨g1, g2⟩ := set_getD hjs
      generalize v.K.getD j 0 = x at *
      rw [mcH_look] at ho hK hL
      have hK : v1.K = v.K := hK.trans g1
      refine h.move hi hl hc hp hrest hcall (.inl rfl) ho e hst hL (by rw [hK]; exact h.kl) (by rw [hK]; exact h.cel) (fun a ha => by rw [hK]; exact ha) (by rw [hK]; exact hkn) (by omega) ?_
      show NxG n E (keyH n c.ca) _ (if x = 0 then .ans 0 0 else nxH n (keyH n c.ca) (x - 1).toNat (k + 1))
      by_cases hx : x = 0
      · rw [if_pos hx]
        exact .inl ⟨0, rfl, fun h => absurd rfl h⟩
      · rw [if_neg hx]
        rcases h.cel j x g2 with h1 | ⟨b, rfl, hb, hEb⟩
        · exact absurd h1 hx
        · have e1 : ((b : Int) + 1 - 1).toNat = b := by omega
          rw [e1]
          have hrc' := Rc.step hrc hEb
          refine nxH_cases n _ _ _ (NxG n E (keyH n c.ca) _) (fun h1 h2 => .inl ⟨1, rfl, fun _ => ?_⟩) (fun h1 h2 => .inr ⟨k + 1, _, rfl, hb, h1, by omega, hrc'⟩) (fun h1 => .inl ⟨0, rfl, fun h => absurd rfl h⟩)
          rw [h2] at hrc'
          exact hrc'

theorem hi_chain {n : Nat} {E : Nat → Nat → Prop} {cl : Nat → List Cl} {k : Nat} {cs : List (List Cl)} {v v' : Vw} (h : Hi (mcH n) k cs v v') : cs = (List.range' k cs.length).map cl → HI k n E cl v → HI (k + cs.length) n E cl v' := by
  induction h with
  | nil => exact fun _ hv => hv
  | @cons k c cs v v1 v2 X l' hF e1 e2 e3 e4 e5 _ ih =>
    intro hc hv
    rw [List.length_cons, List.range'_succ, List.map_cons] at hc
    obtain ⟨hc1, hc2⟩ := List.cons.inj hc
    rw [hv.stk] at hF
    have f := fw_H (E := E) (cl := cl) (i := k) hF (repH cl v.L) v.K (by rw [hc1]; rfl) (Nat.zero_le _) (by rw [List.length_replicate, hc1]) rfl
    rw [← repH_app, ← e4] at f
    have hl : v1.l = upd v.l k l' := e5.l
    have := ih hc2 ⟨by rw [e1]; exact hv.kl, by rw [e1]; exact hv.cel, by rw [e2]; exact hv.stk, fun i hi => ?_, fun i hi => ?_, fun i hi m c' h1 h2 h3 => ?_, fun i hi m a h1 h2 => ?_, ?_⟩
    · rw [show k + (c :: cs).length = k + 1 + cs.length by simp only [List.length_cons]; omega]
      exact this
    · rw [hl, e1]
      by_cases hne : i = k
      · subst hne; rw [upd_same]; exact f.seat
      · rw [upd_ne _ _ hne]; exact (hv.seat i (by omega)).oth (f.oth i hne).1 (f.oth i hne).2 (fun _ h => h)
    · rw [hl]
      by_cases hne : i = k
      · subst hne; rw [upd_same]; exact f.len
      · rw [upd_ne _ _ hne]; exact hv.alen i (by omega)
    · rw [hl] at h1
      rw [e1]
      by_cases hne : i = k
      · subst hne
        rw [upd_same] at h1
        exact absurd h3 (f.sto m c' (Nat.zero_le _) h1 h2)
      · rw [upd_ne _ _ hne] at h1
        exact hv.sto i (by omega) m c' h1 h2 h3
    · rw [hl] at h1
      by_cases hne : i = k
      · subst hne
        rw [upd_same] at h1
        have h3 := f.zer m a h1 h2
        rw [List.getElem?_replicate] at h3
        split at h3
        · cases h3; exact absurd rfl h2
        · cases h3
      · rw [upd_ne _ _ hne] at h1
        exact hv.told i (by omega) m a h1 h2
    · rw [e4]
      exact (hv.stp.more (Nat.le_succ k)).app (f.xs (k + 1) (by omega))
end Go.Proofs.Ytmmfjanbjheekaa.Gen

/- Of a ring the last who writes down is told, under every schedule. -/
set_option linter.unusedSimpArgs false
set_option linter.unusedVariables false
namespace Go.Proofs.Ytmmfjanbjheekaa.Gen
open Go Go.Lift Go.Conc Go.RowKit
open Go.ConcN (upd upd_same upd_ne)

/-- The ring's keys, one behind the other. -/
def rg (R : List Nat) (i : Nat) : Nat := R.getD (i % R.length) 0
theorem rg_turn (R : List Nat) (i : Nat) : rg R (i + R.length) = rg R i := by unfold rg; rw [Nat.add_mod_right]
theorem rg_mem {R : List Nat} (h : 0 < R.length) (i : Nat) : rg R i ∈ R := by
  unfold rg
  have hl := Nat.mod_lt i h
  rw [List.getD_eq_getElem?_getD, List.getElem?_eq_getElem hl]
  exact List.getElem_mem hl
theorem rg_inj {R : List Nat} (nd : R.Nodup) {i j : Nat} (hi : i < R.length) (hj : j < R.length) (h : rg R i = rg R j) : i = j := by
  unfold rg at h
  rw [Nat.mod_eq_of_lt hi, Nat.mod_eq_of_lt hj, List.getD_eq_getElem?_getD, List.getD_eq_getElem?_getD, List.getElem?_eq_getElem hi, List.getElem?_eq_getElem hj] at h
  have h : R[i] = R[j] := h
  have hp := List.pairwise_iff_getElem.1 nd
  rcases Nat.lt_trichotomy i j with h1 | h1 | h1
  · exact absurd h (hp i j hi hj h1)
  · exact h1
  · exact absurd h.symm (hp j i hj hi h1)
/-- .. by whatever number. -/
theorem rg_next {R : List Nat} (nd : R.Nodup) (h0 : 0 < R.length) {i j : Nat} (h : rg R i = rg R j) : rg R (i + 1) = rg R (j + 1) := by
  have e : ∀ k, rg R k = rg R (k % R.length) := fun k => by unfold rg; rw [Nat.mod_mod]
  rw [e i, e j] at h
  have := rg_inj nd (Nat.mod_lt i h0) (Nat.mod_lt j h0) h
  unfold rg
  rw [Nat.add_mod, this, ← Nat.add_mod]
/-- What the scripts ask. -/
structure Rg (N n : Nat) (R : List Nat) (cl : Nat → List Cl) : Prop where
  pos : 0 < R.length
  le : R.length ≤ n
  nd : R.Nodup
  yes : ∀ i, i < N → ∀ c ∈ cl i, c.ca < 12 → ∃ i0, keyH n c.ca = rg R i0 ∧ keyH n c.cb = rg R (i0 + 1)
  no : ∀ i, i < N → ∀ c ∈ cl i, ¬ c.ca < 12 → ∀ i0, keyH n c.ca ≠ rg R i0
  all : ∀ i0, ∃ i, i < N ∧ ∃ c ∈ cl i, c.po = 1 ∧ keyH n c.ca = rg R i0
/-- The last one's call: told, or on its way round. -/
def RGood (R : List Nat) (calls : List Cl) (k : Nat) (l : Ph) : Prop :=
  (k < upC calls l ∧ l.ans[k]? = some (0, 1)) ∨ ∃ (kk i0 : Nat) (rest : List Cl) (ans : List (Int × Int)), l = .turn 1 (rg R (i0 + 1 + kk)) (1, [(rg R i0 : Int), (kk : Int), (rg R (i0 + 1 + kk) : Int)]) rest k ans ∧ kk + 1 < R.length
structure RI (N n : Nat) (R : List Nat) (cl : Nat → List Cl) (v : Vw) : Prop where
  cel : ∀ (i0 : Nat) (x : Int), v.K[rg R i0]? = some x → x = 0 ∨ x = (rg R (i0 + 1) : Int) + 1
  good : (∀ i0, Kn v.K (rg R i0)) → ∃ i k, i < N ∧ (repH cl v.L).last = some (i, k) ∧ k < (cl i).length ∧ RGood R (cl i) k (v.l i)

theorem on_last {n i : Nat} {E : Nat → Nat → Prop} {cl : Nat → List Cl} {rest : List Cl} {ii : Nat} {ans : List (Int × Int)} {z : Int} {X : List Stp} {l' : Ph} (hfw : Fw (mcH n) i false rest (ii + 1) ((0 : Int) == 4) (ans.set ii (0, z)) X l') (hrest : rest = (cl i).drop (ii + 1)) (hlt : ii < (cl i).length) (hal : ans.length = (cl i).length) (r : Rh) (K : List Int) :
    ((⟨i, -1, 10, ii, 0⟩ :: X).foldl (rsH cl) r).last = r.last ∧ ii < upC (cl i) l' ∧ l'.ans[ii]? = some (0, z) ∧ ∀ k, k < ii → l'.ans[k]? = ans[k]? := by
  have f := fw_H (E := E) (cl := cl) hfw (rsH cl r ⟨i, -1, 10, ii, 0⟩) K hrest (by omega) (by rw [List.length_set]; exact hal) rfl
  refine ⟨?_, by have := f.up; omega, ?_, fun k hk => ?_⟩
  · refine f.last.trans ?_
    rw [rsH_end]
  · rw [f.old ii (by omega), List.getElem?_set, if_pos rfl, if_pos (by omega)]
  · rw [f.old k (by omega), List.getElem?_set, if_neg (by omega)]

theorem ring_mv {N n : Nat} {R : List Nat} {E : Nat → Nat → Prop} {cl : Nat → List Cl} (hR : Rg N n R cl) {v v1 : Vw} (h : HI N n E cl v) (hr : RI N n R cl v) (m : Mv (mcH n) N v v1) : RI N n R cl v1 := by
  have h0 : 0 < n := Nat.lt_of_lt_of_le hR.pos hR.le
  cases m with
  | stuck hs hall hex e =>
    obtain ⟨i, hi, j, q, r, k, a, hl⟩ := hex
    have := h.seat i hi
    rw [hl] at this
    exact this.elim
  | wake i j q rest ii ans X l' hi hl _ _ _ _ _ _ _ _ =>
    have := h.seat i hi
    rw [hl] at this
    exact this.elim
  | free i j q rest ii ans X l' hi hl _ _ _ _ _ _ _ =>
    have := h.seat i hi
    rw [hl] at this
    exact this.elim
  | turn i op j q rest ii ans X l' hi hl ho e hK hst hchg hL =>
    have hs := h.seat i hi
    rw [hl] at hs
    obtain ⟨hrest, hcall, c, hc, hp, h5⟩ := hs
    have hcm : c ∈ cl i := List.mem_of_getElem? hc
    have hlt : ii < (cl i).length := (List.getElem?_eq_some_iff.1 hc).1
    have hal : ans.length = (cl i).length := by have := h.alen i hi; rw [hl] at this; exact this
    have hl1 : v1.l i = l' := by rw [e.l, upd_same]
    rw [h.stk] at ho
    -- the others' calls, and this thread's older ones
    have keep : ∀ {nx : Nx} {s : Stp}, On (mcH n) i false rest ii ans nx X l' → ((∃ z, nx = .ans 0 z) ∨ ∃ j' q', nx = .turn 1 j' q') → v1.L = v.L ++ s :: X →
        (repH cl v1.L).last = (rsH cl (repH cl v.L) s).last ∧ (∀ i' k, i' < N → RGood R (cl i') k (v.l i') → (i' = i → k ≠ ii) → RGood R (cl i') k (v1.l i')) := by
      intro nx s ho hnx hL
      have hstay : (∀ k, k < ii → k < upC (cl i) l' ∧ l'.ans[k]? = ans[k]?) → ∀ i' k, i' < N → RGood R (cl i') k (v.l i') → (i' = i → k ≠ ii) → RGood R (cl i') k (v1.l i') := fun hk i' k hi' hg hne => by
        by_cases hii : i' = i
        · subst hii
          rw [hl] at hg
          rw [hl1]
          rcases hg with ⟨g1, g2⟩ | ⟨kk, i0, rest', ans', g1, g2⟩
          · have g1 : k < ii := g1
            exact .inl ⟨(hk k g1).1, by rw [(hk k g1).2]; exact g2⟩
          · cases g1
            exact absurd rfl (hne rfl)
        · rw [e.l, upd_ne _ _ hii]; exact hg
      rcases hnx with ⟨z, rfl⟩ | ⟨j', q', rfl⟩
      · cases ho with
        | @ans _ _ X2 _ hfw =>
          obtain ⟨f1, f2, f3, f4⟩ := on_last (E := E) (cl := cl) hfw hrest hlt hal (rsH cl (repH cl v.L) s) v.K
          refine ⟨?_, hstay fun k hk => ⟨by omega, f4 k hk⟩⟩
          rw [hL, repH_app]
          exact f1
      · cases ho
        refine ⟨by rw [hL, repH_one], hstay fun k hk => ⟨hk, rfl⟩⟩
    rcases h5 with ⟨rfl, rfl, rfl, hcn⟩ | ⟨rfl, k, rfl, hj, hk, hcn, hrc, hkn⟩
    · -- it writes down
      have hb := keyH_lt h0 c.cb
      have ha := keyH_lt h0 c.ca
      rw [mcH_put hb] at ho hK hL
      have hK : v1.K = v.K.set (keyH n c.ca) ((keyH n c.cb : Int) + 1) := hK
      have ho : On (mcH n) i false rest ii ans (nxH n (keyH n c.ca) (keyH n c.cb) 0) X l' := ho
      obtain ⟨k1, k2⟩ := keep ho (nxH_cases n _ _ _ (fun nx => (∃ z, nx = .ans 0 z) ∨ ∃ j' q', nx = .turn 1 j' q') (fun _ _ => .inl ⟨_, rfl⟩) (fun _ _ => .inr ⟨_, _, rfl⟩) (fun _ => .inl ⟨_, rfl⟩)) hL
      rw [rsH_put, hcall, caOf_eq hc] at k1
      by_cases h12 : c.ca < 12
      · obtain ⟨i0, r1, r2⟩ := hR.yes i hi c hcm h12
        refine ⟨fun i1 x hx => ?_, fun _ => ⟨i, ii, hi, by rw [k1, if_pos h12], hlt, ?_⟩⟩
        · rw [hK, List.getElem?_set] at hx
          split at hx
          · rename_i e1
            split at hx
            · cases hx
              right
              rw [r2, rg_next hR.nd hR.pos (r1.symm.trans e1)]
            · cases hx
          · exact hr.cel i1 x hx
        · rw [hl1]
          revert ho
          refine nxH_cases n _ _ _ (fun nx => On (mcH n) i false rest ii ans nx X l' → RGood R (cl i) ii l') (fun _ h2 ho => ?_) (fun _ h2 ho => ?_) (fun h1 => by omega)
          · cases ho with
            | ans hfw =>
              obtain ⟨f1, f2, f3, f4⟩ := on_last (E := E) (cl := cl) hfw hrest hlt hal (repH cl v.L) v.K
              exact .inl ⟨f2, f3⟩
          · cases ho
            refine .inr ⟨0, i0, rest, ans, ?_, ?_⟩
            · rw [r1, r2]
            · rcases Nat.lt_or_ge (0 + 1) R.length with h3 | h3
              · exact h3
              · exfalso
                apply h2
                have := hR.pos
                have e1 : R.length = 1 := by omega
                rw [r1, r2]
                have := rg_turn R i0
                rw [e1] at this
                exact this
      · have hno := hR.no i hi c hcm h12
        have hcell : ∀ i1, v1.K[rg R i1]? = v.K[rg R i1]? := fun i1 => by rw [hK, List.getElem?_set, if_neg (hno i1)]
        refine ⟨fun i1 x hx => by rw [hcell] at hx; exact hr.cel i1 x hx, fun hfull => ?_⟩
        obtain ⟨i', k', g1, g2, g3, g4⟩ := hr.good (fun i1 => by obtain ⟨x, x1, x2⟩ := hfull i1; exact ⟨x, by rw [← hcell]; exact x1, x2⟩)
        refine ⟨i', k', g1, by rw [k1, if_neg h12]; exact g2, g3, k2 i' k' g1 g4 (fun ei ek => ?_)⟩
        subst ei
        subst ek
        rw [hl] at g4
        rcases g4 with ⟨g, _⟩ | ⟨_, _, _, _, g, _⟩
        · exact Nat.lt_irrefl _ g
        · cases g
    · -- it looks
      have hjs : j < v.K.length := by rw [h.kl]; exact hj
      obtain ⟨g1, g2⟩ := set_getD hjs
      generalize v.K.getD j 0 = x at *
      rw [mcH_look] at ho hK hL
      have hK : v1.K = v.K := hK.trans g1
      have ho : On (mcH n) i false rest ii ans (if x = 0 then .ans 0 0 else nxH n (keyH n c.ca) (x - 1).toNat (k + 1)) X l' := ho
      obtain ⟨k1, k2⟩ := keep ho (by
        split
        · exact .inl ⟨_, rfl⟩
        · exact nxH_cases n _ _ _ (fun nx => (∃ z, nx = .ans 0 z) ∨ ∃ j' q', nx = .turn 1 j' q') (fun _ _ => .inl ⟨_, rfl⟩) (fun _ _ => .inr ⟨_, _, rfl⟩) (fun _ => .inl ⟨_, rfl⟩)) hL
      rw [rsH_look] at k1
      refine ⟨by rw [hK]; exact hr.cel, fun hfull => ?_⟩
      rw [hK] at hfull
      obtain ⟨i', k', p1, p2, p3, p4⟩ := hr.good hfull
      refine ⟨i', k', p1, k1.trans p2, p3, ?_⟩
      by_cases hsame : i' = i ∧ k' = ii
      · obtain ⟨rfl, rfl⟩ := hsame
        rw [hl] at p4
        rw [hl1]
        rcases p4 with ⟨g, _⟩ | ⟨kk, i0, rest', ans', g, hkk⟩
        · exact absurd g (Nat.lt_irrefl _)
        · injection g with _ gj gq _ _ _
          injection gq with _ gq
          injection gq with q1 gq
          injection gq with q2 gq
          have q1 : keyH n c.ca = rg R i0 := by omega
          have q2 : k = kk := by omega
          subst q2
          rw [gj] at g2
          obtain ⟨y, y1, y2⟩ := hfull (i0 + 1 + k)
          rw [g2] at y1
          cases y1
          rcases hr.cel (i0 + 1 + k) _ g2 with hx | hx
          · exact absurd hx y2
          · rw [if_neg y2] at ho
            have e1 : (x - 1).toNat = rg R (i0 + 1 + (k + 1)) := by rw [hx]; show _ = rg R (i0 + 1 + k + 1); omega
            rw [e1] at ho
            have hle := hR.le
            revert ho
            refine nxH_cases n _ _ _ (fun nx => On (mcH n) i' false rest k' ans nx X l' → RGood R (cl i') k' l') (fun _ h2 ho => ?_) (fun _ h2 ho => ?_) (fun h1 => by omega)
            · cases ho with
              | ans hfw =>
                obtain ⟨f1, f2, f3, f4⟩ := on_last (E := E) (cl := cl) hfw hrest hlt hal (repH cl v.L) v.K
                exact .inl ⟨f2, f3⟩
            · cases ho
              refine .inr ⟨k + 1, i0, rest, ans, by rw [q1], ?_⟩
              rcases Nat.lt_or_ge (k + 1 + 1) R.length with h3 | h3
              · exact h3
              · exfalso
                apply h2
                rw [q1, show i0 + 1 + (k + 1) = i0 + R.length by omega, rg_turn]
      · exact k2 i' k' p1 p4 (fun ei ek => hsame ⟨ei, ek⟩)
theorem hi_K {mc : Mc} {k : Nat} {cs : List (List Cl)} {v v' : Vw} (h : Hi mc k cs v v') : v'.K = v.K := by
  induction h with
  | nil => rfl
  | cons _ e1 _ _ _ _ _ ih => exact ih.trans e1
theorem ri_zero {N n : Nat} {R : List Nat} {cl : Nat → List Cl} {v : Vw} (h : v.K = List.replicate n 0) : RI N n R cl v := by
  refine ⟨fun i0 x hx => ?_, fun hf => ?_⟩
  · rw [h, List.getElem?_replicate] at hx
    split at hx
    · cases hx; exact .inl rfl
    · cases hx
  · obtain ⟨x, h1, h2⟩ := hf 0
    rw [h, List.getElem?_replicate] at h1
    split at h1
    · cases h1; exact absurd rfl h2
    · cases h1
/-- At the end. -/
theorem ring_end {N n : Nat} {R : List Nat} {E : Nat → Nat → Prop} {cl : Nat → List Cl} (hR : Rg N n R cl) {v : Vw} (h : HI N n E cl v) (hr : RI N n R cl v) (hd : ∀ i, i < N → ∃ a, v.l i = .done a) : ∃ i k, i < N ∧ (repH cl v.L).last = some (i, k) ∧ k < (cl i).length ∧ (v.l i).ans[k]? = some (0, 1) := by
  obtain ⟨i, k, h1, h2, h3, h4⟩ := hr.good (fun i0 => by
    obtain ⟨i, hi, c, hc, hp, e⟩ := hR.all i0
    obtain ⟨k, hk⟩ := List.getElem?_of_mem hc
    obtain ⟨a, ha⟩ := hd i hi
    rw [← e]
    exact h.sto i hi k c (by rw [ha]; exact (List.getElem?_eq_some_iff.1 hk).1) hk hp)
  refine ⟨i, k, h1, h2, h3, ?_⟩
  obtain ⟨a, ha⟩ := hd i h1
  rw [ha] at h4 ⊢
  rcases h4 with ⟨_, h4⟩ | ⟨_, _, _, _, h4, _⟩
  · exact h4
  · cases h4
end Go.Proofs.Ytmmfjanbjheekaa.Gen

/- A chain's calls have a measure; what a chain's Play comes to. -/
set_option linter.unusedSimpArgs false
set_option linter.unusedVariables false
namespace Go.Proofs.Ytmmfjanbjheekaa.Gen
open Go Go.Lift Go.Conc Go.RowKit
open Go.ConcN (upd upd_same upd_ne)

def levH (n : Nat) (q : Q) : Nat := if q.1 = 0 then n + 1 else n - (q.2.getD 1 0).toNat
def clH (q : Q) : Nat := if q.1 = 0 then (q.2.getD 0 0).toNat else (q.2.getD 2 0).toNat
theorem seatH {n fr x k : Nat} (L : Nat) (hL : k < n → n - k < L) (hk : n + 1 ≥ L) : seatOk (n + 1) (levH n) clH (fun _ => False) (nxH n fr x k) ∧ nlev (levH n) (nxH n fr x k) < L ∨ L ≤ 0 := by
  by_cases h0 : L ≤ 0
  · exact .inr h0
  left
  refine nxH_cases n fr x k (fun nx => seatOk (n + 1) (levH n) clH (fun _ => False) nx ∧ nlev (levH n) nx < L) (fun _ _ => ⟨trivial, by show 0 < L; omega⟩) (fun h1 _ => ?_) (fun _ => ⟨trivial, by show 0 < L; omega⟩)
  have e : levH n (1, [(fr : Int), (k : Int), (x : Int)]) = n - k := by simp [levH]
  have e2 : clH (1, [(fr : Int), (k : Int), (x : Int)]) = x := by simp [clH]
  refine ⟨⟨by rw [e]; omega, by rw [e]; omega, e2.symm⟩, ?_⟩
  show levH n (1, [(fr : Int), (k : Int), (x : Int)]) < L
  rw [e]
  exact hL h1
def metH (n : Nat) : Met (mcH n) where
  L := n + 1
  hL := by omega
  lev := levH n
  ws _ _ := 0
  cl := clH
  wq _ := False
  ws_le _ _ := by omega
  start i c := by
    unfold mcH
    simp only
    split
    · refine ⟨?_, ?_, ?_⟩
      · simp [levH]
      · simp [levH]
      · simp [clH]
    · trivial
  turn q x h1 h2 := by
    by_cases e : q.1 = 0
    · have ht : ((mcH n).turn q x).2.2 = nxH n (q.2.getD 0 0).toNat (q.2.getD 1 0).toNat 0 := by
        show (if q.1 = 0 then _ else _ : (Int × Int) × Int × Nx).2.2 = _
        rw [if_pos e]
      rw [ht]
      have hl : levH n q = n + 1 := by unfold levH; rw [if_pos e]
      rw [hl]
      rcases seatH (fr := (q.2.getD 0 0).toNat) (x := (q.2.getD 1 0).toNat) (k := 0) (n + 1) (fun _ => by omega) (Nat.le_refl _) with ⟨a, b⟩ | h
      · exact ⟨a, .inl b⟩
      · omega
    · have ht : ((mcH n).turn q x).2.2 = if x = 0 then .ans 0 0 else nxH n (q.2.getD 0 0).toNat (x - 1).toNat ((q.2.getD 1 0).toNat + 1) := by
        show (if q.1 = 0 then _ else _ : (Int × Int) × Int × Nx).2.2 = _
        rw [if_neg e]
      rw [ht]
      have hl : levH n q = n - (q.2.getD 1 0).toNat := by unfold levH; rw [if_neg e]
      rw [hl] at h1 ⊢
      by_cases hx : x = 0
      · rw [if_pos hx]
        exact ⟨trivial, .inl (by show 0 < _; omega)⟩
      · rw [if_neg hx]
        rcases seatH (fr := (q.2.getD 0 0).toNat) (x := (x - 1).toNat) (k := (q.2.getD 1 0).toNat + 1) (n := n) (n - (q.2.getD 1 0).toNat) (fun _ => by omega) (by omega) with ⟨a, b⟩ | h
        · exact ⟨a, .inl b⟩
        · omega
  woke q _ _ h := h.elim

theorem ends_far {mc : Mc} (M : Met mc) {ss : List (Scr mc)} {S S1 : TS} {l0 l1 : Nat → Ph} {K : List (Nat × Int)} (h : Hires mc 0 ss S l0 S1 l1) (h0 : S.thr = []) (h8 : ss.length ≤ 8) (hl : lens ss ≤ 512) (hL : M.L ≤ 101) (hn : S.n = 0) :
    ∃ m p', m ≤ 2000000 ∧ Turns mc m ⟨S1, K, l1⟩ p' ∧ p'.S.n * 40 ≤ 140737488355328 := by
  obtain ⟨a1, a2, a3, a4⟩ := hires_gd M h (by rw [h0]; rfl) (by omega) (fun i t ht => by rw [h0] at ht; cases ht)
  have g : Gd M ⟨S1, K, l1⟩ := ⟨by show S1.thr.length ≤ 8; omega, a2⟩
  have hm := mu_le M ⟨S1, K, l1⟩ g.len
  rw [h0] at a4
  simp only [List.length_nil, List.range_zero, List.map_nil, List.sum_nil] at a4
  have h5 : M.L * lens ss ≤ 101 * 512 := Nat.mul_le_mul hL hl
  have hm2 : mu M ⟨S1, K, l1⟩ ≤ 2000000 := by
    refine Nat.le_trans hm ?_
    show 25 + 32 * ((List.range S1.thr.length).map fun i => tot M (l1 i)).sum ≤ 2000000
    omega
  obtain ⟨m, p', k1, k2, k3⟩ := turns_end M 2000000 ⟨S1, K, l1⟩ hm2 g
  refine ⟨m, p', k1, k2, ?_⟩
  have k3 : p'.S.n ≤ S1.n + mu M ⟨S1, K, l1⟩ := k3
  omega
theorem small_far {mc : Mc} (M : Met mc) {m : Nat} {ss : List (Scr mc)} {S S1 : TS} {l0 l1 : Nat → Ph} {K : List (Nat × Int)} {p' : PSt} (h : Hires mc 0 ss S l0 S1 l1) (hT : Turns mc m ⟨S1, K, l1⟩ p') (h0 : S.thr = []) (h8 : ss.length ≤ 8) (hl : lens ss ≤ 512) (hL : M.L ≤ 101) (hn : S.n = 0) : p'.S.n ≤ 4000000 := by
  obtain ⟨a1, a2, a3, a4⟩ := hires_gd M h (by rw [h0]; rfl) (by omega) (fun i t ht => by rw [h0] at ht; cases ht)
  have g : Gd M ⟨S1, K, l1⟩ := ⟨by show S1.thr.length ≤ 8; omega, a2⟩
  have hm := mu_le M ⟨S1, K, l1⟩ g.len
  rw [h0] at a4
  simp only [List.length_nil, List.range_zero, List.map_nil, List.sum_nil] at a4
  have h5 : M.L * lens ss ≤ 101 * 512 := Nat.mul_le_mul hL hl
  have hm2 : mu M ⟨S1, K, l1⟩ ≤ 2000000 := by
    refine Nat.le_trans hm ?_
    show 25 + 32 * ((List.range S1.thr.length).map fun i => tot M (l1 i)).sum ≤ 2000000
    omega
  have := (turns_gd M hT g).2
  have k3 : p'.S.n + mu M p' ≤ S1.n + mu M ⟨S1, K, l1⟩ := this
  omega

/-- A chain's Play, told as the laws count. -/
theorem chain_run {n : Nat} (h0 : 0 < n) {E : Nat → Nat → Prop} {ss : List (Scr (mcH n))} {cl : Nat → List Cl} {N : Nat} {S S1 : TS} {l0 l1 : Nat → Ph} {K : List (Nat × Int)} {m : Nat} {p' : PSt}
    (hn : ss.length = N) (hn8 : N ≤ 8) (hE : ∀ i, i < N → ∀ c ∈ cl i, c.po = 1 → E (keyH n c.ca) (keyH n c.cb)) (hss : ss.map (·.calls) = (List.range' 0 N).map cl) (ha : ∀ x ∈ ss, x.ans = List.replicate x.calls.length (0, 0))
    (ht : S.thr = []) (htr : S.tr = []) (hSn : S.n = 0) (hsk : S.stk = false) (hK : K.map (·.2) = List.replicate n 0)
    (hH : Hires (mcH n) 0 ss S l0 S1 l1) (hT : Turns (mcH n) m ⟨S1, K, l1⟩ p') :
    ∃ v, p'.S.tr = flat v.L ∧ p'.S.n = v.L.length ∧ p'.S.stk = false ∧ v.l = p'.l ∧ HI N n E cl v ∧ (∀ R, Rg N n R cl → RI N n R cl v) ∧ ∀ i, i < N → ∃ a, v.l i = .done a := by
  let v0 : Vw := ⟨List.replicate n 0, false, S.chg, fun i => (thrI S i).se, l0, []⟩
  have hs0 : Seen ⟨S, K, l0⟩ v0 := ⟨hK.symm, hsk.symm, rfl, fun i => rfl, rfl, htr, hSn, fun i t h => by rw [ht] at h; cases h⟩
  obtain ⟨v1, hi1, hs1⟩ := hires_hi (K := K) hH v0 (by rw [ht]; rfl) ha hs0
  rw [hss] at hi1
  have hcz : ∀ (j : Nat) (x : Int), v0.K[j]? = some x → x = 0 ∨ ∃ b : Nat, x = (b : Int) + 1 ∧ b < n ∧ E j b := fun j x hx => by
    have hx : (List.replicate n (0 : Int))[j]? = some x := hx
    rw [List.getElem?_replicate] at hx
    split at hx
    · cases hx; exact .inl rfl
    · cases hx
  have hc0 : HI 0 n E cl v0 := ⟨by simp [v0], hcz, rfl, fun i hi => by omega, fun i hi => by omega, fun i hi => by omega, fun i hi => by omega, trivial⟩
  have hci := hi_chain hi1 (by simp) hc0
  rw [List.length_map, List.length_range', Nat.zero_add] at hci
  have hr1 : ∀ R, Rg N n R cl → RI N n R cl v1 := fun R _ => ri_zero (hi_K hi1)
  obtain ⟨a1, a2, a3, a4⟩ := hires_gd (metH n) hH (by rw [ht]; rfl) (by omega) (fun i t h => by rw [ht] at h; cases h)
  have g : Gd (metH n) ⟨S1, K, l1⟩ := ⟨by show S1.thr.length ≤ 8; omega, a2⟩
  obtain ⟨v', hI, hs', _, hd⟩ := turns_mv (metH n) (N := N) (Inv := fun v => HI N n E cl v ∧ ∀ R, Rg N n R cl → RI N n R cl v) (fun v v1 hv hm => ⟨chain_mv h0 hE hv.1 hm, fun R hR => ring_mv hR hv.1 (hv.2 R hR) hm⟩) hT v1 (by show S1.thr.length = N; omega) g hs1 ⟨hci, hr1⟩
  exact ⟨v', hs'.tr, hs'.n, by rw [← hs'.stk]; exact hI.1.stk, hs'.l, hI.1, hI.2, hd⟩
end Go.Proofs.Ytmmfjanbjheekaa.Gen

/- Code walked alone, piece by piece. -/
set_option linter.unusedSimpArgs false
set_option linter.unusedVariables false
namespace Go.Proofs.Ytmmfjanbjheekaa.Gen
open Go Go.Lift Go.Conc Go.RowKit

section
variable {P : Program} {Q : Exit → Act → World → Prop} {a : Act} {w : World} {x y c : Code} {R : Act → World → Prop}
/-- A piece, and what follows it. -/
theorem wp_then (h : x.wp P (fun e a' w' => e = .normal ∧ R a' w') a w) (k : ∀ a' w', R a' w' → y.wp P Q a' w') : (Code.seq x y).wp P Q a w :=
  wp_seq (wp_mono h (fun e a w h => by obtain ⟨rfl, hr⟩ := h; exact k a w hr))
/-- A piece, the last one. -/
theorem wp_last (h : x.wp P (fun e a' w' => e = .normal ∧ R a' w') a w) (k : ∀ a' w', R a' w' → Q .normal a' w') : x.wp P Q a w :=
  wp_mono h (fun e a w h => by obtain ⟨rfl, hr⟩ := h; exact k a w hr)
/-- A loop that is left by its head's test. -/
theorem wp_while {id : Nat} {hd body : Code} {t : Nat} (I : Nat → Act → World → Prop) (n : Nat) (h0 : I n a w)
    (head : ∀ n a w, I n a w → ∃ (J : Act → World → Prop), hd.wp P (fun e a' w' => e = .normal ∧ J a' w') a w ∧
      ∀ a' w', J a' w' → (a'.eval (.tmp t) = .bool false ∧ Q .normal a' w') ∨ (a'.eval (.tmp t) = .bool true ∧ body.wp P (Exit.then (fun a'' w'' => ∃ n', n' < n ∧ I n' a'' w'') (Exit.inBlock id Q)) a' w')) :
    (Code.block id (.loop (.seq (.seq hd (.cond (.tmp t) .skip (.exit id))) body))).wp P Q a w := by
  refine wp_block (wp_loop_ghost I n h0 fun n a w hI => ?_)
  obtain ⟨J, h1, h2⟩ := head n a w hI
  refine wp_seq (wp_then h1 fun a' w' hJ => ?_)
  rcases h2 a' w' hJ with ⟨e, hq⟩ | ⟨e, hb⟩
  · refine wp_cond_false e (wp_exit ?_)
    show if id = id then Q .normal a' w' else _
    rw [if_pos rfl]
    exact hq
  · exact wp_cond_true e (wp_skip hb)
end
end Go.Proofs.Ytmmfjanbjheekaa.Gen

/- A Play's objects, one by one: a cell more, a row more. -/
set_option linter.unusedSimpArgs false
set_option linter.unusedVariables false
namespace Go.Proofs.Ytmmfjanbjheekaa.Gen
open Go Go.Lift Go.Conc Go.RowKit

def padd (pk : Nat → Option Obj) (b : Nat) (o : Obj) : Nat → Option Obj := fun x => if x = b then some o else pk x
theorem padd_at (pk : Nat → Option Obj) (b : Nat) (o : Obj) : padd pk b o b = some o := by unfold padd; rw [if_pos rfl]
theorem padd_ne {pk : Nat → Option Obj} {b x : Nat} {o : Obj} (h : x ≠ b) : padd pk b o x = pk x := by unfold padd; rw [if_neg h]
theorem cell_of {v : World} {b j : Nat} {c : Array Value} {t : TypeId} {f : Nat × Nat} {x : Value} (h : v.heap[b]? = some (.cells c t f)) (hj : c[j]? = some x) : v.cell? ⟨b, j, none⟩ = some x := by
  unfold World.cell?
  rw [h]
  exact hj

section
variable {v u u' : World} {S S1 : TS} {K : List (Nat × Int)} {xs : List Int} {pk : Nat → Option Obj}
theorem Objs.start (hm : Mem zn S [] v) (hch : S.chg = []) : Objs v S [] (fun _ => none) S [] v :=
  ⟨Cel.refl hm, rfl, ⟨S.cv, by unfold cellsS; rw [List.length_nil, List.replicate_zero, ← hch]⟩, fun b o h => (by cases h), fun b h => absurd rfl h, fun b o h => (by cases h)⟩
/-- Some of what was there may be read, too. -/
theorem Objs.startG (hm : Mem zn S [] v) (hch : S.chg = []) (hpk : Has pk v) (hf : ∀ b, pk b ≠ none → ¬ Own S [] b ∧ b ≠ S.bk) (hr : ∀ b o, pk b = some o → ∃ c e f, o = .cells c e f) : Objs v S [] pk S [] v :=
  ⟨Cel.refl hm, rfl, ⟨S.cv, by unfold cellsS; rw [List.length_nil, List.replicate_zero, ← hch]⟩, hpk, fun b h => ⟨.inr (hf b h).2, (hf b h).1⟩, hr⟩
theorem Objs.push (h : Objs v S xs pk S1 K u) {c : Array Value} {t : TypeId} (e : u'.heap = u.heap.push (.cells c t)) (e1 : u'.os = u.os) (e2 : u'.output = u.output) : Objs v S xs (padd pk u.heap.size (.cells c t)) S1 K u' := by
  refine ⟨h.cel.push e e1 e2, h.vals, h.st, fun b o hb => ?_, fun b hb => ?_, fun b o hb => ?_⟩
  · by_cases hbu : b = u.heap.size
    · subst hbu
      rw [padd_at] at hb
      cases hb
      rw [e]
      exact Array.getElem?_push_size
    · rw [padd_ne hbu] at hb
      have := h.has b o hb
      have hl := (Array.getElem?_eq_some_iff.1 this).1
      rw [e, Array.getElem?_push, if_neg (by omega)]
      exact this
  · by_cases hbu : b = u.heap.size
    · subst hbu
      exact ⟨.inl h.cel.fr.size, fun ho => by have := h.cel.mem.lt ho; omega⟩
    · rw [padd_ne hbu] at hb
      exact h.new b hb
  · by_cases hbu : b = u.heap.size
    · subst hbu
      rw [padd_at] at hb
      cases hb
      exact ⟨_, _, _, rfl⟩
    · rw [padd_ne hbu] at hb
      exact h.row b o hb
theorem Objs.more (h : Objs v S xs pk S1 K u) {S2 : TS} {K2 : List (Nat × Int)} {ys : List Int} (c : Cel zn S1 K u S2 K2 u') (hv : K2.map (·.2) = ys) (hs : ∃ cv, S2 = cellsS S cv ys.length) : Objs v S ys pk S2 K2 u' := by
  have hl : ∀ b o, pk b = some o → b < u.heap.size := fun b o hb => (Array.getElem?_eq_some_iff.1 (h.has b o hb)).1
  refine ⟨h.cel.trans c, hv, hs, fun b o hb => ?_, fun b hb => ?_, h.row⟩
  · rw [c.fr.block b (hl b o hb) (h.new b (by rw [hb]; simp)).2]
    exact h.has b o hb
  · obtain ⟨o, ho⟩ := Option.ne_none_iff_exists'.1 hb
    refine ⟨(h.new b hb).1, fun ho' => ?_⟩
    rcases c.own b ho' with e | e
    · exact (h.new b hb).2 e
    · have := hl b o ho; omega
/-- cell.New. -/
theorem Objs.cell (h : Objs v S xs pk S1 K u) (x : Int) (hl : xs.length ≤ 1000000) : Calls Try.prog 17 #[Pt S.wb 0, I x] u (fun e w' => ∃ cb, e = .returned (Pt cb 0) ∧ u.heap.size ≤ w'.heap.size ∧ ∃ S2, Objs v S (xs ++ [x]) pk S2 (K ++ [(cb, x)]) w') := by
  obtain ⟨cv, rfl⟩ := h.st
  have h10 := (body10 h.cel.mem x (by show (List.replicate xs.length (0 : Int)).length ≤ _; simp; omega)).calls Try.func17 rfl
  refine h10.mono ?_
  rintro e w' ⟨r, rfl, cb, cv', rfl, hm1, hf1, hn1⟩
  refine ⟨cb, rfl, hf1.size, _, h.more ⟨hm1, hf1, hn1⟩ (by rw [List.map_append, h.vals]; rfl) ⟨cv', ?_⟩⟩
  unfold celledS cellsS
  simp only [List.length_append, List.length_cons, List.length_nil, Nat.zero_add, List.replicate_succ']
end
end Go.Proofs.Ytmmfjanbjheekaa.Gen

/- What laws read behind a Play: where answers, scripts and the trace lie. -/
set_option linter.unusedSimpArgs false
set_option linter.unusedVariables false
namespace Go.Proofs.Ytmmfjanbjheekaa.Gen
open Go Go.Lift Go.Conc Go.RowKit

/-- The trace lies there. -/
def TrL (g : Nat) (L : List Stp) (v : World) : Prop := ∀ (k : Nat) (s : Stp), L[k]? = some s → v.cell? ⟨g, k * 5, none⟩ = some (I s.th) ∧ v.cell? ⟨g, k * 5 + 1, none⟩ = some (I s.ce) ∧ v.cell? ⟨g, k * 5 + 2, none⟩ = some (I s.op) ∧ v.cell? ⟨g, k * 5 + 3, none⟩ = some (I s.ol) ∧ v.cell? ⟨g, k * 5 + 4, none⟩ = some (I s.ne)
theorem grow_same {v v' : World} (e : v'.heap = v.heap) (e1 : v'.os = v.os) (e2 : v'.output = v.output) : Grows v v' := ⟨by rw [e]; exact Nat.le_refl _, fun b _ => by rw [e], e1, e2⟩
theorem grow_push {v v' : World} {x : Obj} (e : v'.heap = v.heap.push x) (e1 : v'.os = v.os) (e2 : v'.output = v.output) : Grows v v' := ⟨by rw [e]; simp, fun b hb => by rw [e, Array.getElem?_push, if_neg (by omega)], e1, e2⟩
theorem grow_trans {v v' v2 : World} (a : Grows v v') (b : Grows v' v2) : Grows v v2 := ⟨Nat.le_trans a.size b.size, fun q hq => by rw [b.old q (Nat.lt_of_lt_of_le hq a.size), a.old q hq], b.os.trans a.os, b.output.trans a.output⟩

/-- Where the answers and the scripts lie. -/
structure RK (n M b o : Nat) (A ln cp rb ro : Nat → Nat) (pc : Nat → Option Addr) (cl : Nat → List Cl) (l : Nat → Ph) (v : World) : Prop where
  ar : ∀ k, k < n → v.cell? ⟨M, k, none⟩ = some (.slice (some ⟨A k, 0, none⟩) (ln k) (ln k))
  an : ∀ k, k < n → ∀ (j : Nat) (q : Int × Int), (l k).ans[j]? = some q → v.cell? ⟨A k, j * 2, none⟩ = some (I q.1) ∧ v.cell? ⟨A k, j * 2 + 1, none⟩ = some (I q.2)
  sr : ∀ k, k < n → v.cell? ⟨b, o + k, none⟩ = some (.slice (pc k) (ln k) (cp k))
  pq : ∀ k, k < n → 0 < ln k → pc k = some ⟨rb k, ro k, none⟩
  sa : ∀ k, k < n → ∀ (j : Nat) (c : Cl), (cl k)[j]? = some c → v.cell? ⟨rb k, ro k + j * 4, none⟩ = some (I c.po) ∧ v.cell? ⟨rb k, ro k + j * 4 + 1, none⟩ = some (I c.ca)
theorem RK.go {n M b o : Nat} {A ln cp rb ro : Nat → Nat} {pc : Nat → Option Addr} {cl : Nat → List Cl} {l : Nat → Ph} {v v' : World} (h : RK n M b o A ln cp rb ro pc cl l v) (g : ∀ q, q < v.heap.size → v'.heap[q]? = v.heap[q]?) : RK n M b o A ln cp rb ro pc cl l v' := by
  have hc : ∀ (a : Addr) (x : Value), v.cell? a = some x → v'.cell? a = some x := fun a x ha => by rw [World.cell?_of_block (w := v) (w' := v') (g _ (World.block_lt_of_cell? _ _ ha))]; exact ha
  exact ⟨fun k hk => hc _ _ (h.ar k hk), fun k hk j q hq => ⟨hc _ _ (h.an k hk j q hq).1, hc _ _ (h.an k hk j q hq).2⟩, fun k hk => hc _ _ (h.sr k hk), h.pq, fun k hk j c hj => ⟨hc _ _ (h.sa k hk j c hj).1, hc _ _ (h.sa k hk j c hj).2⟩⟩
theorem TrL.go {g : Nat} {L : List Stp} {v v' : World} (h : TrL g L v) (q : ∀ b, b < v.heap.size → v'.heap[b]? = v.heap[b]?) : TrL g L v' := fun k s hs => by
  have hc : ∀ (a : Addr) (x : Value), v.cell? a = some x → v'.cell? a = some x := fun a x ha => by rw [World.cell?_of_block (w := v) (w' := v') (q _ (World.block_lt_of_cell? _ _ ha))]; exact ha
  obtain ⟨h1, h2, h3, h4, h5⟩ := h k s hs
  exact ⟨hc _ _ h1, hc _ _ h2, hc _ _ h3, hc _ _ h4, hc _ _ h5⟩
end Go.Proofs.Ytmmfjanbjheekaa.Gen

/- Code walked alone, piece by piece: what the chain's laws use; where scripts and answers lie; rows of bools; ways by going through the keys one behind the other. -/
set_option linter.unusedSimpArgs false
set_option linter.unusedVariables false
namespace Go.Proofs.Ytmmfjanbjheekaa.Gen
open Go Go.Lift Go.Conc Go.RowKit

theorem Fl.hd {n k : Nat} {c : Bool} {l : List (Nat × Value)} {a : Act} (h : Fl n ((k, .bool c) :: l) a) (hc : c = true) : a.eval (.tmp k) = .bool true := by subst hc; exact h.2.2 (k, .bool true) (.head _)
theorem Fl.hf {n k : Nat} {c : Bool} {l : List (Nat × Value)} {a : Act} (h : Fl n ((k, .bool c) :: l) a) (hc : c = false) : a.eval (.tmp k) = .bool false := by subst hc; exact h.2.2 (k, .bool false) (.head _)
theorem Fl.tl {n : Nat} {x : Nat × Value} {l : List (Nat × Value)} {a : Act} (h : Fl n (x :: l) a) : Fl n l a := ⟨h.1, h.2.1, fun p hp => h.2.2 p (.tail _ hp)⟩

/-- What lies below B stays. -/
structure Kq (B : Nat) (w w' : World) : Prop where
  os : w'.os = w.os
  out : w'.output = w.output
  size : w.heap.size ≤ w'.heap.size
  old : ∀ k, k < B → w'.heap[k]? = w.heap[k]?
section
variable {B : Nat} {u v w : World}
theorem Kq.refl (B : Nat) (w : World) : Kq B w w := ⟨rfl, rfl, Nat.le_refl _, fun _ _ => rfl⟩
theorem Kq.trans (h : Kq B u v) (k : Kq B v w) : Kq B u w := ⟨k.os.trans h.os, k.out.trans h.out, Nat.le_trans h.size k.size, fun i hi => (k.old i hi).trans (h.old i hi)⟩
theorem Kq.same (e1 : w.heap = v.heap) (e2 : w.os = v.os) (e3 : w.output = v.output) : Kq B v w := ⟨e2, e3, by rw [e1]; exact Nat.le_refl _, fun i _ => by rw [e1]⟩
theorem Kq.alloc (o : Obj) (h : B ≤ v.heap.size) : Kq B v (v.alloc o) := ⟨rfl, rfl, by show _ ≤ (v.heap.push o).size; simp, fun i hi => by show (v.heap.push o)[i]? = _; rw [Array.getElem?_push, if_neg (by omega)]⟩
theorem Kq.set {b o : Nat} (x : Value) (h : B ≤ b) : Kq B v (v.setCell ⟨b, o, none⟩ x) := ⟨rfl, rfl, by simp [World.setCell], fun i hi => Below.heap_setCell _ _ _ _ (by show i ≠ b; omega)⟩
theorem Kq.cell (k : Kq B u v) {a : Addr} {x : Value} (h : u.cell? a = some x) (hb : a.block < B) : v.cell? a = some x := by rw [World.cell?_of_block (w := u) (w' := v) (k.old _ hb)]; exact h
theorem Kq.grows (k : Kq B u v) (h : u.heap.size ≤ B) : Grows u v := ⟨k.size, fun b hb => k.old b (by omega), k.os, k.out⟩
theorem Kq.le {B' : Nat} (k : Kq B u v) (h : B' ≤ B) : Kq B' u v := ⟨k.os, k.out, k.size, fun i hi => k.old i (by omega)⟩
end

/-- Where the scripts lie. -/
structure SL (N b o : Nat) (ln cp rb ro : Nat → Nat) (pc : Nat → Option Addr) (cl : Nat → List Cl) (v : World) : Prop where
  len : ∀ k, k < N → (cl k).length = ln k
  sr : ∀ k, k < N → v.cell? ⟨b, o + k, none⟩ = some (.slice (pc k) (ln k) (cp k))
  pq : ∀ k, k < N → 0 < ln k → pc k = some ⟨rb k, ro k, none⟩
  sa : ∀ k, k < N → ∀ (j : Nat) (c : Cl), (cl k)[j]? = some c → v.cell? ⟨rb k, ro k + j * 4, none⟩ = some (I c.po) ∧ v.cell? ⟨rb k, ro k + j * 4 + 1, none⟩ = some (I c.ca) ∧ v.cell? ⟨rb k, ro k + j * 4 + 2, none⟩ = some (I c.cb) ∧ v.cell? ⟨rb k, ro k + j * 4 + 3, none⟩ = some (I c.cc)
/-- Where the answers lie. -/
structure AL (N M : Nat) (A ln : Nat → Nat) (l : Nat → Ph) (v : World) : Prop where
  ar : ∀ k, k < N → v.cell? ⟨M, k, none⟩ = some (.slice (some ⟨A k, 0, none⟩) (ln k) (ln k))
  al : ∀ k, k < N → (l k).ans.length = ln k
  an : ∀ k, k < N → ∀ (j : Nat) (q : Int × Int), (l k).ans[j]? = some q → v.cell? ⟨A k, j * 2, none⟩ = some (I q.1) ∧ v.cell? ⟨A k, j * 2 + 1, none⟩ = some (I q.2)
theorem kq_all {v u : World} (k : Kq v.heap.size v u) (a : Addr) (x : Value) (h : v.cell? a = some x) : u.cell? a = some x := k.cell h (World.block_lt_of_cell? _ _ h)
theorem SL.go {N b o : Nat} {ln cp rb ro : Nat → Nat} {pc : Nat → Option Addr} {cl : Nat → List Cl} {v u : World} (h : SL N b o ln cp rb ro pc cl v) (k : Kq v.heap.size v u) : SL N b o ln cp rb ro pc cl u := by
  have hc := kq_all k
  exact ⟨h.len, fun i hi => hc _ _ (h.sr i hi), h.pq, fun i hi j c hj => ⟨hc _ _ (h.sa i hi j c hj).1, hc _ _ (h.sa i hi j c hj).2.1, hc _ _ (h.sa i hi j c hj).2.2.1, hc _ _ (h.sa i hi j c hj).2.2.2⟩⟩
theorem AL.go {N M : Nat} {A ln : Nat → Nat} {l : Nat → Ph} {v u : World} (h : AL N M A ln l v) (k : Kq v.heap.size v u) : AL N M A ln l u := by
  have hc := kq_all k
  exact ⟨fun i hi => hc _ _ (h.ar i hi), h.al, fun i hi j q hj => ⟨hc _ _ (h.an i hi j q hj).1, hc _ _ (h.an i hi j q hj).2⟩⟩

theorem info3b : (Try.prog.info? 3).map (fun i => (i.zero, i.size, i.bytes)) = some (some (I 0), 1, 8) := by kernel_rfl
theorem make_3 (n : Nat) (hn : n ≤ 1048576) (w : World) :
    (Instr.makeSlice 22 (.int .i64 (n : Int)) (.int .i64 (n : Int))).run Try.prog w = .ok (.slice (some ⟨w.heap.size, 0, none⟩) n n) (w.alloc (.cells (madeCells #[I 0] n) 3)) := by
  cases hq : Try.prog.info? 3 with
  | none => have := info3b; rw [hq] at this; cases this
  | some i =>
    have hi := info3b
    rw [hq] at hi
    simp only [Option.map_some, Option.some.injEq, Prod.mk.injEq] at hi
    obtain ⟨hz, hs, hb⟩ := hi
    have := run_make (P := Try.prog) w 22 3 i _ Try.underlying22 hq hz .i64 .i64 (n : Int) (n : Int) (by omega) (by omega) (by rw [hb]; omega) (by omega)
    rw [hs] at this
    rw [this]
    simp [Value.cells]

/-- A table of n rows of n bools, in the blocks from G on. -/
structure Tb (n G : Nat) (T : Nat → Nat → Bool) (u : World) : Prop where
  out : u.rowIs G 44 n (fun i => .slice (some ⟨G + 1 + i, 0, none⟩) n n)
  row : ∀ i, i < n → u.rowIs (G + 1 + i) 4 n (fun k => .bool (T i k))
section
variable {n G B : Nat} {T T' : Nat → Nat → Bool} {u u' : World}
theorem Tb.same (h : Tb n G T u) (e : u'.heap = u.heap) : Tb n G T u' := ⟨h.out.of_block (by rw [e]), fun i hi => (h.row i hi).of_block (by rw [e])⟩
theorem Tb.go (h : Tb n G T u) (k : Kq (G + 1 + n) u u') : Tb n G T u' := ⟨h.out.of_block (k.old G (by omega)), fun i hi => (h.row i hi).of_block (k.old _ (by omega))⟩
theorem Tb.congr (h : Tb n G T u) (e : ∀ i k, i < n → k < n → T i k = T' i k) : Tb n G T' u := ⟨h.out, fun i hi => (h.row i hi).congr fun k hk => by rw [e i k hi hk]⟩
theorem Tb.set (h : Tb n G T u) {i : Nat} (hi : i < n) (k : Nat) (c : Bool) (hw : u'.heap = (u.setCell ⟨G + 1 + i, k, none⟩ (.bool c)).heap) : Tb n G (fun a b => if a = i ∧ b = k then c else T a b) u' := by
  have e : ∀ j : Nat, u'.heap[j]? = (u.setCell ⟨G + 1 + i, k, none⟩ (.bool c)).heap[j]? := fun j => by rw [hw]
  refine ⟨h.out.of_block ((e _).trans (Below.heap_setCell _ _ _ _ (by show G ≠ G + 1 + i; omega))), fun j hj => ?_⟩
  by_cases hji : j = i
  · subst hji
    refine (((h.row j hj).set k (.bool c)).of_block (e _)).congr fun b hb => ?_
    by_cases hbk : b = k
    · simp [hbk]
    · simp [hbk]
  · refine ((h.row j hj).of_block ((e _).trans (Below.heap_setCell _ _ _ _ (by show G + 1 + j ≠ G + 1 + i; omega)))).congr fun b hb => ?_
    rw [if_neg (fun e => hji e.1)]
end

/-! ### Ways -/
theorem Rc.trans {E : Nat → Nat → Prop} {a b c : Nat} (h : Rc E a b) (k : Rc E b c) : Rc E a c := by
  induction k with
  | one e => exact .step h e
  | step _ e ih => exact .step ih e
/-- A way whose inner keys are below m. -/
inductive Pth (E : Nat → Nat → Prop) (m : Nat) : Nat → Nat → Prop
  | one {a b : Nat} : E a b → Pth E m a b
  | via {a j b : Nat} : j < m → Pth E m a j → Pth E m j b → Pth E m a b
theorem Pth.split {E : Nat → Nat → Prop} {m a b : Nat} (h : Pth E (m + 1) a b) : Pth E m a b ∨ (Pth E m a m ∧ Pth E m m b) := by
  induction h with
  | one h => exact .inl (.one h)
  | @via a j b hj _ _ ih1 ih2 =>
    by_cases e : j = m
    · subst e
      refine .inr ⟨?_, ?_⟩
      · rcases ih1 with h | h
        · exact h
        · exact h.1
      · rcases ih2 with h | h
        · exact h
        · exact h.2
    · have hj' : j < m := by omega
      rcases ih1 with h1 | h1
      · rcases ih2 with h2 | h2
        · exact .inl (.via hj' h1 h2)
        · exact .inr ⟨.via hj' h1 h2.1, h2.2⟩
      · rcases ih2 with h2 | h2
        · exact .inr ⟨h1.1, .via hj' h1.2 h2⟩
        · exact .inr ⟨h1.1, h2.2⟩
theorem Pth.zero {E : Nat → Nat → Prop} {a b : Nat} (h : Pth E 0 a b) : E a b := by
  cases h with
  | one h => exact h
  | via h _ _ => omega
/-- The table holds all ways whose inner keys are below m. -/
def Wr (E : Nat → Nat → Prop) (n m : Nat) (T : Nat → Nat → Bool) : Prop := ∀ i k, i < n → k < n → Pth E m i k → T i k = true
/-- While keys go through m: as far as row i, and as far as k in it. -/
structure Wm (n m : Nat) (T : Nat → Nat → Bool) (i k : Nat) (T' : Nat → Nat → Bool) : Prop where
  more : ∀ i k, i < n → k < n → T i k = true → T' i k = true
  rows : ∀ a b, a < i → b < n → T a m = true → T m b = true → T' a b = true
  here : ∀ b, b < k → T i m = true → T m b = true → T' i b = true
theorem Wm.start (n m : Nat) (T : Nat → Nat → Bool) : Wm n m T 0 0 T := ⟨fun _ _ _ _ h => h, fun a b h => by omega, fun b h => by omega⟩
theorem Wm.set {n m i k : Nat} {T T' : Nat → Nat → Bool} (hm : m < n) (hi : i < n) (hk : k < n) (h : Wm n m T i k T') : Wm n m T i (k + 1) (fun a b => if a = i ∧ b = k then (T' i k || (T' i m && T' m k)) else T' a b) where
  more a b ha hb hab := by
    by_cases e : a = i ∧ b = k
    · obtain ⟨rfl, rfl⟩ := e; rw [if_pos ⟨rfl, rfl⟩, h.more _ _ ha hb hab]; rfl
    · rw [if_neg e]; exact h.more _ _ ha hb hab
  rows a b ha hb h1 h2 := by
    rw [if_neg (by omega)]; exact h.rows a b ha hb h1 h2
  here b hb h1 h2 := by
    by_cases e : b = k
    · subst e; rw [if_pos ⟨rfl, rfl⟩, h.more _ _ hm hk h2, h.more _ _ hi hm h1]; simp
    · rw [if_neg (by omega)]; exact h.here b (by omega) h1 h2
theorem Wm.next {n m i : Nat} {T T' : Nat → Nat → Bool} (h : Wm n m T i n T') : Wm n m T (i + 1) 0 T' where
  more := h.more
  rows a b ha hb h1 h2 := by
    by_cases e : a = i
    · subst e; exact h.here b hb h1 h2
    · exact h.rows a b (by omega) hb h1 h2
  here b hb := by omega
theorem Wm.done {E : Nat → Nat → Prop} {n m : Nat} {T T' : Nat → Nat → Bool} (hm : m < n) (h : Wr E n m T) (h' : Wm n m T n 0 T') : Wr E n (m + 1) T' := fun i k hi hk hp => by
  rcases hp.split with hp | ⟨h1, h2⟩
  · exact h'.more _ _ hi hk (h _ _ hi hk hp)
  · exact h'.rows _ _ hi hk (h _ _ hi hm h1) (h _ _ hm hk h2)
end Go.Proofs.Ytmmfjanbjheekaa.Gen
