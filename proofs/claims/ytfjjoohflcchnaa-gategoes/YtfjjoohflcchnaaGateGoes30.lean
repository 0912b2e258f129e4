/- GateGoes: for every schedule and all rows of numbers, the Play of scripts in which each Enter has a Leave of its own behind it, ahead of the next Shut, leaves nobody stuck and nobody in; no conditions. Part 30 of 37. (Joined, by program, of: GatMv, GatFin.) -/
import Derived.Test.YtfjjoohflcchnaaGateGoes29
set_option linter.unusedSimpArgs false
set_option linter.unusedVariables false
namespace Go.Proofs.Ytfjjoohflcchnaa.Gen
open Go Go.Lift Go.Conc Go.RowKit
open Go.ConcN (upd upd_same upd_ne)

theorem okE_no (c : Cl) (e x : Int) (h : e ≠ 0) : okE c (e, x) = false := by simp [okE, h]
theorem okL_no (c : Cl) (e x : Int) (h : e ≠ 0) : okL c (e, x) = false := by simp [okL, h]
theorem okF_no (c : Cl) (e x : Int) (h : e ≠ 0) : okF c (e, x) = false := by simp [okF, h]

/-- A call is answered, and the thread goes on to its next seat. -/
structure Adv (N : Nat) (cl : Nat → List Cl) (i : Nat) (c : Cl) (ii : Nat) (ans : List (Int × Int)) (e x : Int) (X : List Stp) (l' : Ph) : Prop where
  len : l'.ans.length = (cl i).length
  seat : SeatG (cl i) l'
  cnt : ∀ p : Cl → Int × Int → Bool, (∀ c e x, e ≠ 0 → p c (e, x) = false) → cnp p (cl i) l'.ans (upG (cl i) l') = cnp p (cl i) ans ii + if p c (e, x) then 1 else 0
  pnd : pend l' = 0
  X : ∀ pp, ∀ s ∈ X, Calm s ∧ EndG N cl pp s
  has : Has4 ans ii → Has4 l'.ans (upG (cl i) l')
  now : e = 4 → Has4 l'.ans (upG (cl i) l')
theorem adv_of {N : Nat} {cl : Nat → List Cl} {i : Nat} (hi : i < N) {stk : Bool} {rest : List Cl} {ii : Nat} {ans : List (Int × Int)} {e x : Int} {X : List Stp} {l' : Ph} {c : Cl} (hc : (cl i)[ii]? = some c) (hr : rest = (cl i).drop (ii + 1)) (ha : ans.length = (cl i).length) (h : Fw mcGate i stk rest (ii + 1) (e == 4) (ans.set ii (e, x)) X l') : Adv N cl i c ii ans e x X l' := by
  have hlt : ii < (cl i).length := (List.getElem?_eq_some_iff.1 hc).1
  have hset : (ans.set ii (e, x))[ii]? = some (e, x) := by rw [List.getElem?_set, if_pos rfl, if_pos (by omega)]
  have k := fun pp => fw_gate (N := N) (cl := cl) (pp := pp) hi h hr (by omega) (by simpa using ha)
  obtain ⟨h1, h2, h3, h4, _, h6, h7⟩ := k none
  refine ⟨h1, h2, fun p hp => ?_, h4, fun pp => (k pp).2.2.2.2.1, fun hh => ?_, fun he => ⟨ii, (e, x), by omega, by rw [h7 ii (by omega)]; exact hset, he⟩⟩
  · rw [h3 p hp, cnp_next p _ hc ha]
  · obtain ⟨k, a, hk, hka, e4⟩ := hh
    exact ⟨k, a, by omega, by rw [h7 k (by omega), List.getElem?_set, if_neg (by omega)]; exact hka, e4⟩

section
variable {N : Nat} {cl : Nat → List Cl} {a b : Nat} {v v1 : Vw}
theorem GI.answer (h : GI N cl a b v) {i : Nat} (hi : i < N) {ans : List (Int × Int)} {ii : Nat} {c : Cl} (hans : (v.l i).ans = ans) (hup : upG (cl i) (v.l i) = ii) (hc : (cl i)[ii]? = some c) {e x : Int} {X : List Stp} {l' : Ph} (A : Adv N cl i c ii ans e x X l') (el : v1.l = upd v.l i l')
    {a' b' : Nat} (hb : b' ≤ 1) (hbb : b ≤ b') (hK : v1.K = [((2 * a' + b' : Nat) : Int)]) {L1 : List Stp} (hL1 : EndsG N cl L1) (hf1 : gfold L1 = some (a', b')) (hsm : a' ≤ L1.length) (eL : v1.L = L1 ++ ⟨i, -1, 10, ii, e⟩ :: X) (hend : c.po = 3 → e = 0 → a' = 0 ∧ b' = 1)
    (hent : a' + (if okL c (e, x) then 1 else 0) = a + (if okE c (e, x) then 1 else 0)) {dF : Nat} (hF : (if okF c (e, x) then 1 else 0) + dF = pend (v.l i) + (b' - b)) (hd : dF = 0 ∨ e = 4) : GI N cl a' b' v1 := by
  have hX : ∀ s ∈ (⟨i, -1, 10, ii, e⟩ :: X : List Stp), Calm s ∧ EndG N cl (some (a', b')) s := fun s hs => by
    simp only [List.mem_cons] at hs
    rcases hs with rfl | hs
    · exact ⟨fun h => absurd (show (10 : Int) = 4 from h.1) (by decide), fun _ => ⟨i, ii, c, rfl, hi, rfl, hc, fun h1 h2 => by obtain ⟨rfl, rfl⟩ := hend h1 h2; rfl⟩⟩
    · exact A.X _ s hs
  obtain ⟨k1, k2⟩ := EndsG.more _ hL1 hf1 hX
  rw [← eL] at k1 k2
  refine h.step hi el hb hK k2 (by rw [eL, List.length_append]; omega) k1 A.len A.seat (dE := if okE c (e, x) then 1 else 0) (dL := if okL c (e, x) then 1 else 0) (dF := dF) ?_ ?_ ?_ hbb hent (fun hh => A.has (by rw [← hans, ← hup]; exact hh)) (hd.imp_right A.now)
  · rw [A.cnt okE okE_no]; unfold cE; rw [hans, hup]
  · rw [A.cnt okL okL_no]; unfold cE; rw [hans, hup]
  · rw [A.cnt okF okF_no, A.pnd]; unfold cFp cE; rw [hans, hup]; omega
/-- A thread comes to another seat of its call. -/
theorem GI.sit (h : GI N cl a b v) {i : Nat} (hi : i < N) {ans : List (Int × Int)} {ii : Nat} (hans : (v.l i).ans = ans) (hup : upG (cl i) (v.l i) = ii) {l' : Ph} (el : v1.l = upd v.l i l') (hans' : l'.ans = ans) (hup' : upG (cl i) l' = ii) (hseat : SeatG (cl i) l')
    {b' : Nat} (hb : b' ≤ 1) (hbb : b ≤ b') (hK : v1.K = [((2 * a + b' : Nat) : Int)]) (hL : EndsG N cl v1.L) (hf : gfold v1.L = some (a, b')) (hlen : v.L.length ≤ v1.L.length) (hp : pend l' = pend (v.l i) + (b' - b)) : GI N cl a b' v1 := by
  refine h.step hi el hb hK hf (by have := h.small; omega) hL (by rw [hans', ← hans]; exact h.len i hi) hseat (dE := 0) (dL := 0) (dF := 0) ?_ ?_ ?_ hbb rfl (fun hh => by rw [hans', hup', ← hans, ← hup]; exact hh) (.inl rfl)
  · rw [hans', hup']; unfold cE; rw [hans, hup]; rfl
  · rw [hans', hup']; unfold cE; rw [hans, hup]; rfl
  · rw [hans', hup', hp]; unfold cFp cE; rw [hans, hup]; omega
/-- A step that changes nothing, and ends no call. -/
theorem GI.calm (h : GI N cl a b v) {s : Stp} (hs : Calm s) (h10 : s.op ≠ 10) : EndsG N cl (v.L ++ [s]) ∧ gfold (v.L ++ [s]) = some (a, b) :=
  EndsG.more [s] h.ends h.fold (fun x hx => by simp at hx; subst hx; exact ⟨hs, fun h => absurd h h10⟩)
theorem GI.change (h : GI N cl a b v) {s : Stp} (h4 : s.op = 4) {a' b' : Nat} (hg : gcnt (a, b) s = some (a', b')) : EndsG N cl (v.L ++ [s]) ∧ gfold (v.L ++ [s]) = some (a', b') :=
  ⟨h.ends.one (fun h10 => by rw [h4] at h10; exact absurd h10 (by decide)), by rw [gfold_one, h.fold]; exact hg⟩

set_option maxHeartbeats 1000000 in
theorem gate_mv (h : GI N cl a b v) (hB : v.L.length ≤ 400000) (m : Mv mcGate N v v1) : ∃ a' b', GI N cl a' b' v1 := by
  have ha : a ≤ 1000000 := by have := h.small; omega
  have hx : v.K.getD 0 0 = ((2 * a + b : Nat) : Int) := by rw [h.num]; rfl
  cases m with
  | stuck h1 h2 h3 e =>
    subst e
    obtain ⟨k1, k2⟩ := h.calm (s := ⟨-1, -1, 7, 0, 0⟩) (fun h => absurd (show (7 : Int) = 4 from h.1) (by decide)) (by show (7 : Int) ≠ 10; decide)
    exact ⟨a, b, h.b1, h.num, k2, by have := h.small; simp; omega, k1, h.len, h.seat, h.ent, h.fst, h.fst2⟩
  | wake i j q rest ii ans X l' hi hl hs hc hon els eK eS eC eL =>
    have hseat := h.seat i hi
    rw [hl] at hseat
    obtain ⟨rfl, hr, c, hc1, hpo, f, rfl⟩ := hseat
    have hw : mcGate.woke (7, [f]) = .turn 1 0 (6, [f]) := rfl
    rw [hw] at hon
    cases hon
    obtain ⟨k1, k2⟩ := h.calm (s := ⟨i, (0 : Nat), 6, 0, 0⟩) (fun h => absurd (show (6 : Int) = 4 from h.1) (by decide)) (by show (6 : Int) ≠ 10; decide)
    refine ⟨a, b, h.sit hi (ans := ans) (ii := ii) (by rw [hl]; rfl) (by rw [hl]; rfl) els.l rfl rfl ⟨rfl, hr, c, hc1, .inr (.inr (.inr (.inr (.inr (.inr ⟨f, rfl, rfl, hpo⟩)))))⟩ h.b1 (Nat.le_refl _) (by rw [eK]; exact h.num) (by rw [eL]; exact k1) (by rw [eL]; exact k2) (by rw [eL]; simp) ?_⟩
    rw [hl]
    simp [pend]
  | free i j q rest ii ans X l' hi hl hs hfw els eK eS eC eL =>
    have hseat := h.seat i hi
    rw [hl] at hseat
    obtain ⟨rfl, hr, c, hc1, hpo, f, rfl⟩ := hseat
    have hlen : ans.length = (cl i).length := by have := h.len i hi; rw [hl] at this; exact this
    have hfw' : Fw mcGate i true rest (ii + 1) ((4 : Int) == 4) (ans.set ii ((4 : Int), (0 : Int))) X l' := hfw
    have eL' : v1.L = v.L ++ ⟨i, -1, 10, ii, 4⟩ :: X := eL
    have A := adv_of (N := N) (cl := cl) hi hc1 hr hlen hfw'
    refine ⟨a, b, h.answer hi (by rw [hl]; rfl) (by rw [hl]; rfl) hc1 A els.l h.b1 (Nat.le_refl _) (by rw [eK]; exact h.num) h.ends h.fold h.small eL' (fun _ h => absurd h (by decide)) (by rw [okE_no _ _ _ (by decide), okL_no _ _ _ (by decide)]) (dF := pend (v.l i)) (by rw [okF_no _ _ _ (by decide)]; simp) (.inr rfl)⟩
  | turn i op j q rest ii ans X l' hi hl hon els eK eS eC eL =>
    have hseat := h.seat i hi
    rw [hl] at hseat
    obtain ⟨rfl, hr, c, hc1, hq⟩ := hseat
    have hlen : ans.length = (cl i).length := by have := h.len i hi; rw [hl] at this; exact this
    have hans : (v.l i).ans = ans := by rw [hl]; rfl
    have hup : upG (cl i) (v.l i) = ii := by rw [hl]; rfl
    have hod := odd1_of h.b1 ha
    rw [hx] at hon eK eC eL
    have hK0 : v.K.set 0 ((2 * a + b : Nat) : Int) = [((2 * a + b : Nat) : Int)] := by rw [h.num]; rfl
    have hKs : ∀ y : Int, v.K.set 0 y = [y] := fun y => by rw [h.num]; rfl
    have calm : ∀ (o x : Int), o ≠ 10 → EndsG N cl (v.L ++ [⟨i, (0 : Nat), o, x, x⟩]) ∧ gfold (v.L ++ [⟨i, (0 : Nat), o, x, x⟩]) = some (a, b) := fun o x ho => h.calm (fun h => h.2 rfl) ho
    have hb01 : b = 0 ∨ b = 1 := by have := h.b1; omega
    have app : ∀ (s : Stp) (Y : List Stp), v.L ++ s :: Y = (v.L ++ [s]) ++ Y := fun s Y => by simp
    have sml : ∀ s : Stp, a ≤ (v.L ++ [s]).length := fun s => by have := h.small; simp; omega
    have grw : ∀ s : Stp, v.L.length ≤ (v.L ++ [s]).length := fun s => by simp
    rcases hq with ⟨rfl, rfl, hpo⟩ | ⟨y, rfl, rfl, hpo, hy⟩ | ⟨rfl, rfl, hpo⟩ | ⟨y, rfl, rfl, hpo, hy⟩ | ⟨rfl, rfl, hpo⟩ | ⟨y, rfl, rfl, hpo, hy⟩ | ⟨f, rfl, rfl, hpo⟩
    · -- Enter looks
      have hp0 : pend (v.l i) = 0 := by rw [hl]; rfl
      have ht : mcGate.turn (0, []) ((2 * a + b : Nat) : Int) = ((((2 * a + b : Nat) : Int), ((2 * a + b : Nat) : Int)), ((2 * a + b : Nat) : Int), if odd1 ((2 * a + b : Nat) : Int) then .ans 60 0 else .turn 4 0 (1, [((2 * a + b : Nat) : Int)])) := rfl
      rw [ht] at hon eK eL
      simp only at hon eK eL
      obtain ⟨k1, k2⟩ := calm 1 ((2 * a + b : Nat) : Int) (by decide)
      cases ho : odd1 ((2 * a + b : Nat) : Int) with
      | true =>
        rw [ho, if_pos rfl] at hon
        cases hon with
        | ans hfw =>
          have A := adv_of (N := N) (cl := cl) hi hc1 hr hlen hfw
          rw [app] at eL
          exact ⟨a, b, h.answer hi hans hup hc1 A els.l h.b1 (Nat.le_refl _) (by rw [eK]; exact hK0) k1 k2 (sml _) eL (fun _ h => absurd h (by decide)) (by rw [okE_no _ _ _ (by decide), okL_no _ _ _ (by decide)]) (dF := 0) (by rw [okF_no _ _ _ (by decide), hp0]; simp) (.inl rfl)⟩
      | false =>
        rw [ho, if_neg (by simp)] at hon
        cases hon
        exact ⟨a, b, h.sit hi hans hup els.l rfl rfl ⟨rfl, hr, c, hc1, .inr (.inl ⟨_, rfl, rfl, hpo, ho⟩)⟩ h.b1 (Nat.le_refl _) (by rw [eK]; exact hK0) (by rw [eL]; exact k1) (by rw [eL]; exact k2) (by rw [eL]; exact grw _) (by rw [hp0]; simp [pend])⟩
    · -- Enter tries
      have hp0 : pend (v.l i) = 0 := by rw [hl]; rfl
      have ht : mcGate.turn (1, [y]) ((2 * a + b : Nat) : Int) = ((effCas y (wrap64 (y + 2)) ((2 * a + b : Nat) : Int)).1, (effCas y (wrap64 (y + 2)) ((2 * a + b : Nat) : Int)).2.1, if ((2 * a + b : Nat) : Int) = y then .ans 0 0 else .turn 1 0 (0, [])) := rfl
      rw [ht] at hon eK eL
      simp only at hon eK eL
      by_cases hxy : ((2 * a + b : Nat) : Int) = y
      · rw [if_pos hxy] at hon
        subst hxy
        have hb0 : b = 0 := by rw [hod] at hy; rcases hb01 with rfl | rfl; rfl; exact absurd hy (by decide)
        subst hb0
        have hw : wrap64 (((2 * a + 0 : Nat) : Int) + 2) = ((2 * (a + 1) + 0 : Nat) : Int) := by unfold wrap64; omega
        rw [show effCas ((2 * a + 0 : Nat) : Int) (wrap64 (((2 * a + 0 : Nat) : Int) + 2)) ((2 * a + 0 : Nat) : Int) = ((((2 * a + 0 : Nat) : Int), wrap64 (((2 * a + 0 : Nat) : Int) + 2)), wrap64 (((2 * a + 0 : Nat) : Int) + 2), .bool true) by unfold effCas; rw [if_pos rfl], hw] at eK eL
        simp only at eK eL
        obtain ⟨k1, k2⟩ := h.change (s := ⟨i, (0 : Nat), 4, ((2 * a + 0 : Nat) : Int), ((2 * (a + 1) + 0 : Nat) : Int)⟩) rfl (a' := a + 1) (b' := 0) (by
          unfold gcnt
          rw [if_pos ⟨rfl, by simp only; omega⟩, if_pos rfl, if_pos ⟨by simp only; omega, rfl⟩])
        cases hon with
        | ans hfw =>
          have A := adv_of (N := N) (cl := cl) hi hc1 hr hlen hfw
          rw [app] at eL
          refine ⟨a + 1, 0, h.answer hi hans hup hc1 A els.l (by decide) (Nat.le_refl _) (by rw [eK, hKs]) k1 k2 (by have := h.small; simp; omega) eL (fun h => by rw [hpo] at h; exact absurd h (by decide)) ?_ (dF := 0) ?_ (.inl rfl)⟩
          · rw [show okL c (0, 0) = false by simp [okL, hpo], show okE c (0, 0) = true by simp [okE, hpo]]; simp
          · rw [show okF c (0, 0) = false by simp [okF, hpo], hp0]; simp
      · rw [if_neg hxy] at hon
        rw [show effCas y (wrap64 (y + 2)) ((2 * a + b : Nat) : Int) = ((((2 * a + b : Nat) : Int), ((2 * a + b : Nat) : Int)), ((2 * a + b : Nat) : Int), .bool false) by unfold effCas; rw [if_neg hxy]] at eK eL
        simp only at eK eL
        obtain ⟨k1, k2⟩ := calm 4 ((2 * a + b : Nat) : Int) (by decide)
        cases hon
        exact ⟨a, b, h.sit hi hans hup els.l rfl rfl ⟨rfl, hr, c, hc1, .inl ⟨rfl, rfl, hpo⟩⟩ h.b1 (Nat.le_refl _) (by rw [eK]; exact hK0) (by rw [eL]; exact k1) (by rw [eL]; exact k2) (by rw [eL]; exact grw _) (by rw [hp0]; simp [pend])⟩
    · -- Leave looks
      have hp0 : pend (v.l i) = 0 := by rw [hl]; rfl
      have ht : mcGate.turn (2, []) ((2 * a + b : Nat) : Int) = ((((2 * a + b : Nat) : Int), ((2 * a + b : Nat) : Int)), ((2 * a + b : Nat) : Int), if ((2 * a + b : Nat) : Int) < 2 then .ans 61 0 else .turn 4 0 (3, [((2 * a + b : Nat) : Int)])) := rfl
      rw [ht] at hon eK eL
      simp only at hon eK eL
      obtain ⟨k1, k2⟩ := calm 1 ((2 * a + b : Nat) : Int) (by decide)
      by_cases ho : ((2 * a + b : Nat) : Int) < 2
      · rw [if_pos ho] at hon
        cases hon with
        | ans hfw =>
          have A := adv_of (N := N) (cl := cl) hi hc1 hr hlen hfw
          rw [app] at eL
          exact ⟨a, b, h.answer hi hans hup hc1 A els.l h.b1 (Nat.le_refl _) (by rw [eK]; exact hK0) k1 k2 (sml _) eL (fun _ h => absurd h (by decide)) (by rw [okE_no _ _ _ (by decide), okL_no _ _ _ (by decide)]) (dF := 0) (by rw [okF_no _ _ _ (by decide), hp0]; simp) (.inl rfl)⟩
      · rw [if_neg ho] at hon
        cases hon
        exact ⟨a, b, h.sit hi hans hup els.l rfl rfl ⟨rfl, hr, c, hc1, .inr (.inr (.inr (.inl ⟨_, rfl, rfl, hpo, ho⟩)))⟩ h.b1 (Nat.le_refl _) (by rw [eK]; exact hK0) (by rw [eL]; exact k1) (by rw [eL]; exact k2) (by rw [eL]; exact grw _) (by rw [hp0]; simp [pend])⟩
    · -- Leave tries
      have hp0 : pend (v.l i) = 0 := by rw [hl]; rfl
      have ht : mcGate.turn (3, [y]) ((2 * a + b : Nat) : Int) = ((effCas y (wrap64 (y - 2)) ((2 * a + b : Nat) : Int)).1, (effCas y (wrap64 (y - 2)) ((2 * a + b : Nat) : Int)).2.1, if ((2 * a + b : Nat) : Int) = y then .ans 0 0 else .turn 1 0 (2, [])) := rfl
      rw [ht] at hon eK eL
      simp only at hon eK eL
      by_cases hxy : ((2 * a + b : Nat) : Int) = y
      · rw [if_pos hxy] at hon
        subst hxy
        obtain ⟨a0, rfl⟩ : ∃ a0, a = a0 + 1 := ⟨a - 1, by have := h.b1; omega⟩
        have hw : wrap64 (((2 * (a0 + 1) + b : Nat) : Int) - 2) = ((2 * a0 + b : Nat) : Int) := by unfold wrap64; omega
        rw [show effCas ((2 * (a0 + 1) + b : Nat) : Int) (wrap64 (((2 * (a0 + 1) + b : Nat) : Int) - 2)) ((2 * (a0 + 1) + b : Nat) : Int) = ((((2 * (a0 + 1) + b : Nat) : Int), wrap64 (((2 * (a0 + 1) + b : Nat) : Int) - 2)), wrap64 (((2 * (a0 + 1) + b : Nat) : Int) - 2), .bool true) by unfold effCas; rw [if_pos rfl], hw] at eK eL
        simp only at eK eL
        obtain ⟨k1, k2⟩ := h.change (s := ⟨i, (0 : Nat), 4, ((2 * (a0 + 1) + b : Nat) : Int), ((2 * a0 + b : Nat) : Int)⟩) rfl (a' := a0) (b' := b) (by
          unfold gcnt
          rw [if_pos ⟨rfl, by simp only; omega⟩, if_pos rfl, if_neg (by simp only; omega), if_pos ⟨by simp only; omega, by simp only; omega⟩]
          simp)
        cases hon with
        | ans hfw =>
          have A := adv_of (N := N) (cl := cl) hi hc1 hr hlen hfw
          rw [app] at eL
          refine ⟨a0, b, h.answer hi hans hup hc1 A els.l h.b1 (Nat.le_refl _) (by rw [eK, hKs]) k1 k2 (by have := h.small; simp; omega) eL (fun h => by rw [hpo] at h; exact absurd h (by decide)) ?_ (dF := 0) ?_ (.inl rfl)⟩
          · rw [show okL c (0, 0) = true by simp [okL, hpo], show okE c (0, 0) = false by simp [okE, hpo]]; simp
          · rw [show okF c (0, 0) = false by simp [okF, hpo], hp0]; simp
      · rw [if_neg hxy] at hon
        rw [show effCas y (wrap64 (y - 2)) ((2 * a + b : Nat) : Int) = ((((2 * a + b : Nat) : Int), ((2 * a + b : Nat) : Int)), ((2 * a + b : Nat) : Int), .bool false) by unfold effCas; rw [if_neg hxy]] at eK eL
        simp only at eK eL
        obtain ⟨k1, k2⟩ := calm 4 ((2 * a + b : Nat) : Int) (by decide)
        cases hon
        exact ⟨a, b, h.sit hi hans hup els.l rfl rfl ⟨rfl, hr, c, hc1, .inr (.inr (.inl ⟨rfl, rfl, hpo⟩))⟩ h.b1 (Nat.le_refl _) (by rw [eK]; exact hK0) (by rw [eL]; exact k1) (by rw [eL]; exact k2) (by rw [eL]; exact grw _) (by rw [hp0]; simp [pend])⟩
    · -- Shut looks whether it is shut
      have hp0 : pend (v.l i) = 0 := by rw [hl]; rfl
      have ht : mcGate.turn (4, []) ((2 * a + b : Nat) : Int) = ((((2 * a + b : Nat) : Int), ((2 * a + b : Nat) : Int)), ((2 * a + b : Nat) : Int), if odd1 ((2 * a + b : Nat) : Int) then .turn 1 0 (6, [0]) else .turn 4 0 (5, [((2 * a + b : Nat) : Int)])) := rfl
      rw [ht] at hon eK eL
      simp only at hon eK eL
      obtain ⟨k1, k2⟩ := calm 1 ((2 * a + b : Nat) : Int) (by decide)
      cases ho : odd1 ((2 * a + b : Nat) : Int) with
      | true =>
        rw [ho, if_pos rfl] at hon
        cases hon
        exact ⟨a, b, h.sit hi hans hup els.l rfl rfl ⟨rfl, hr, c, hc1, .inr (.inr (.inr (.inr (.inr (.inr ⟨0, rfl, rfl, hpo⟩)))))⟩ h.b1 (Nat.le_refl _) (by rw [eK]; exact hK0) (by rw [eL]; exact k1) (by rw [eL]; exact k2) (by rw [eL]; exact grw _) (by rw [hp0]; simp [pend])⟩
      | false =>
        rw [ho, if_neg (by simp)] at hon
        cases hon
        exact ⟨a, b, h.sit hi hans hup els.l rfl rfl ⟨rfl, hr, c, hc1, .inr (.inr (.inr (.inr (.inr (.inl ⟨_, rfl, rfl, hpo, ho⟩)))))⟩ h.b1 (Nat.le_refl _) (by rw [eK]; exact hK0) (by rw [eL]; exact k1) (by rw [eL]; exact k2) (by rw [eL]; exact grw _) (by rw [hp0]; simp [pend])⟩
    · -- Shut tries
      have hp0 : pend (v.l i) = 0 := by rw [hl]; rfl
      have ht : mcGate.turn (5, [y]) ((2 * a + b : Nat) : Int) = ((effCas y (wrap64 (y + 1)) ((2 * a + b : Nat) : Int)).1, (effCas y (wrap64 (y + 1)) ((2 * a + b : Nat) : Int)).2.1, if ((2 * a + b : Nat) : Int) = y then .turn 1 0 (6, [1]) else .turn 1 0 (4, [])) := rfl
      rw [ht] at hon eK eL
      simp only at hon eK eL
      by_cases hxy : ((2 * a + b : Nat) : Int) = y
      · rw [if_pos hxy] at hon
        subst hxy
        have hb0 : b = 0 := by rw [hod] at hy; rcases hb01 with rfl | rfl; rfl; exact absurd hy (by decide)
        subst hb0
        have hw : wrap64 (((2 * a + 0 : Nat) : Int) + 1) = ((2 * a + 1 : Nat) : Int) := by unfold wrap64; omega
        rw [show effCas ((2 * a + 0 : Nat) : Int) (wrap64 (((2 * a + 0 : Nat) : Int) + 1)) ((2 * a + 0 : Nat) : Int) = ((((2 * a + 0 : Nat) : Int), wrap64 (((2 * a + 0 : Nat) : Int) + 1)), wrap64 (((2 * a + 0 : Nat) : Int) + 1), .bool true) by unfold effCas; rw [if_pos rfl], hw] at eK eL
        simp only at eK eL
        obtain ⟨k1, k2⟩ := h.change (s := ⟨i, (0 : Nat), 4, ((2 * a + 0 : Nat) : Int), ((2 * a + 1 : Nat) : Int)⟩) rfl (a' := a) (b' := 1) (by
          unfold gcnt
          rw [if_pos ⟨rfl, by simp only; omega⟩, if_pos rfl, if_neg (by simp only; omega), if_neg (by simp only; omega), if_pos ⟨by simp only; omega, rfl⟩])
        cases hon
        exact ⟨a, 1, h.sit hi hans hup els.l rfl rfl ⟨rfl, hr, c, hc1, .inr (.inr (.inr (.inr (.inr (.inr ⟨1, rfl, rfl, hpo⟩)))))⟩ (Nat.le_refl _) (by decide) (by rw [eK, hKs]) (by rw [eL]; exact k1) (by rw [eL]; exact k2) (by rw [eL]; exact grw _) (by rw [hp0]; simp [pend])⟩
      · rw [if_neg hxy] at hon
        rw [show effCas y (wrap64 (y + 1)) ((2 * a + b : Nat) : Int) = ((((2 * a + b : Nat) : Int), ((2 * a + b : Nat) : Int)), ((2 * a + b : Nat) : Int), .bool false) by unfold effCas; rw [if_neg hxy]] at eK eL
        simp only at eK eL
        obtain ⟨k1, k2⟩ := calm 4 ((2 * a + b : Nat) : Int) (by decide)
        cases hon
        exact ⟨a, b, h.sit hi hans hup els.l rfl rfl ⟨rfl, hr, c, hc1, .inr (.inr (.inr (.inr (.inl ⟨rfl, rfl, hpo⟩))))⟩ h.b1 (Nat.le_refl _) (by rw [eK]; exact hK0) (by rw [eL]; exact k1) (by rw [eL]; exact k2) (by rw [eL]; exact grw _) (by rw [hp0]; simp [pend])⟩
    · -- Shut looks whether nobody is in
      have hp0 : pend (v.l i) = if f = 1 then 1 else 0 := by rw [hl]; simp [pend]
      have ht : mcGate.turn (6, [f]) ((2 * a + b : Nat) : Int) = ((((2 * a + b : Nat) : Int), ((2 * a + b : Nat) : Int)), ((2 * a + b : Nat) : Int), if ((2 * a + b : Nat) : Int) = 1 then .ans 0 f else .wait 0 (7, [f])) := rfl
      rw [ht] at hon eK eL
      simp only at hon eK eL
      obtain ⟨k1, k2⟩ := calm 1 ((2 * a + b : Nat) : Int) (by decide)
      by_cases ho : ((2 * a + b : Nat) : Int) = 1
      · rw [if_pos ho] at hon
        have hab : a = 0 ∧ b = 1 := by have := h.b1; omega
        cases hon with
        | ans hfw =>
          have A := adv_of (N := N) (cl := cl) hi hc1 hr hlen hfw
          rw [app] at eL
          refine ⟨a, b, h.answer hi hans hup hc1 A els.l h.b1 (Nat.le_refl _) (by rw [eK]; exact hK0) k1 k2 (sml _) eL (fun _ _ => hab) ?_ (dF := 0) ?_ (.inl rfl)⟩
          · rw [show okL c (0, f) = false by simp [okL, hpo], show okE c (0, f) = false by simp [okE, hpo]]
          · rw [hp0]
            by_cases hf : f = 1
            · subst hf; rw [show okF c (0, 1) = true by simp [okF, hpo]]; simp
            · rw [show okF c (0, f) = false by simp [okF, hf], if_neg hf]; simp
      · rw [if_neg ho] at hon
        cases hon with
        | wait hs =>
          exact ⟨a, b, h.sit hi hans hup els.l rfl rfl ⟨rfl, hr, c, hc1, hpo, f, rfl⟩ h.b1 (Nat.le_refl _) (by rw [eK]; exact hK0) (by rw [eL]; exact k1) (by rw [eL]; exact k2) (by rw [eL]; exact grw _) (by rw [hp0]; simp [pend])⟩
        | @waits _ _ X l' hs hfw =>
          have hfw' : Fw mcGate i v.stk rest (ii + 1) ((4 : Int) == 4) (ans.set ii ((4 : Int), (0 : Int))) X l' := hfw
          have A := adv_of (N := N) (cl := cl) hi hc1 hr hlen hfw'
          have eL : v1.L = v.L ++ ⟨i, (0 : Nat), 1, ((2 * a + b : Nat) : Int), ((2 * a + b : Nat) : Int)⟩ :: ⟨i, -1, 10, ii, 4⟩ :: X := eL
          rw [app] at eL
          exact ⟨a, b, h.answer hi hans hup hc1 A els.l h.b1 (Nat.le_refl _) (by rw [eK]; exact hK0) k1 k2 (sml _) eL (fun _ h => absurd h (by decide)) (by rw [okE_no _ _ _ (by decide), okL_no _ _ _ (by decide)]) (dF := pend (v.l i)) (by rw [okF_no _ _ _ (by decide)]; simp) (.inr rfl)⟩
end
end Go.Proofs.Ytfjjoohflcchnaa.Gen

namespace Go.Proofs.Ytfjjoohflcchnaa.Gen
open Go Go.Lift Go.Conc Go.RowKit
open Go.ConcN (upd upd_same upd_ne)

theorem EndsG.wide {N N' : Nat} {cl : Nat → List Cl} {L : List Stp} (h : EndsG N cl L) (hN : N ≤ N') : EndsG N' cl L := fun A s B e h10 => by
  obtain ⟨i, ii, c, h1, h2, h3⟩ := h A s B e h10
  exact ⟨i, ii, c, h1, by omega, h3⟩
theorem hi_gate {cl : Nat → List Cl} {k : Nat} {cs : List (List Cl)} {v v' : Vw} (h : Hi mcGate k cs v v') : cs = (List.range' k cs.length).map cl → GI k cl 0 0 v → GI (k + cs.length) cl 0 0 v' := by
  induction h with
  | nil => intro _ hv; exact hv
  | @cons k c cs v v1 v2 X l' hF e1 e2 e3 e4 e5 h ih =>
    intro hc hv
    rw [List.length_cons, List.range'_succ, List.map_cons] at hc
    obtain ⟨hc1, hc2⟩ := List.cons.inj hc
    subst hc1
    have own : v1.l k = l' := by rw [e5.l, upd_same]
    have els : ∀ i, i ≠ k → v1.l i = v.l i := fun i hi => by rw [e5.l, upd_ne _ _ hi]
    obtain ⟨f1, f2, f3, f4, f5, f6, f7⟩ := fw_gate (N := k + 1) (cl := cl) (pp := some (0, 0)) (by omega) hF rfl (Nat.zero_le _) (by simp)
    obtain ⟨g1, g2⟩ := EndsG.more X (hv.ends.wide (Nat.le_succ k)) hv.fold f5
    rw [← e4] at g1 g2
    have eqE : ∀ p i, i ≠ k → cE p cl v1.l i = cE p cl v.l i := fun p i hi => by unfold cE; rw [els i hi]
    have oE : ∀ p : Cl → Int × Int → Bool, (∀ c e x, e ≠ 0 → p c (e, x) = false) → cE p cl v1.l k = 0 := fun p hp => by unfold cE; rw [own, f3 p hp]; rfl
    have sE : ∀ p : Cl → Int × Int → Bool, (∀ c e x, e ≠ 0 → p c (e, x) = false) → sumN (cE p cl v1.l) (k + 1) = sumN (cE p cl v.l) k := fun p hp => by
      rw [sumN_succ, oE p hp, sumN_congr (fun i hi => eqE p i (by omega))]
      rfl
    have sF : sumN (cFp cl v1.l) (k + 1) = sumN (cFp cl v.l) k := by
      rw [sumN_succ, sumN_congr (g := cFp cl v.l) (fun i hi => by unfold cFp; rw [eqE okF i (by omega), els i (by omega)])]
      have : cFp cl v1.l k = 0 := by unfold cFp; rw [oE okF okF_no, own, f4]
      rw [this]
      rfl
    have hk : GI (k + 1) cl 0 0 v1 := by
      refine ⟨by decide, by rw [e1]; exact hv.num, g2, Nat.zero_le _, g1, fun i hi => ?_, fun i hi => ?_, ?_, by rw [sF]; exact hv.fst, ?_⟩
      · by_cases hne : i = k
        · subst hne; rw [own]; exact f1
        · rw [els i hne]; exact hv.len i (by omega)
      · by_cases hne : i = k
        · subst hne; rw [own]; exact f2
        · rw [els i hne]; exact hv.seat i (by omega)
      · rw [sE okL okL_no, sE okE okE_no]; exact hv.ent
      · rw [sF]
        rcases hv.fst2 with h | ⟨i, hi, hh⟩
        · exact .inl h
        · exact .inr ⟨i, by omega, by rw [els i (by omega)]; exact hh⟩
    have := ih hc2 hk
    rw [List.length_cons, show k + (cs.length + 1) = k + 1 + cs.length by omega]
    exact this

/-- What a gate's Play comes to. -/
structure GateEnd (n : Nat) (cl : Nat → List Cl) (l : Nat → Ph) (L : List Stp) (a b : Nat) : Prop where
  b1 : b ≤ 1
  fold : gfold L = some (a, b)
  small : a ≤ L.length
  ends : EndsG n cl L
  len : ∀ i, i < n → (l i).ans.length = (cl i).length
  ent : a + sumN (fun i => cnp okL (cl i) (l i).ans (cl i).length) n = sumN (fun i => cnp okE (cl i) (l i).ans (cl i).length) n
  fst : sumN (fun i => cnp okF (cl i) (l i).ans (cl i).length) n ≤ b
  fst2 : sumN (fun i => cnp okF (cl i) (l i).ans (cl i).length) n = b ∨ ∃ i k q, i < n ∧ k < (cl i).length ∧ (l i).ans[k]? = some q ∧ q.1 = 4

theorem mv_lenG {mc : Mc} {N : Nat} {v v1 : Vw} (m : Mv mc N v v1) : v.L.length ≤ v1.L.length := by
  cases m with
  | stuck _ _ _ e => rw [e]; simp
  | turn _ _ _ _ _ _ _ _ _ _ _ _ _ _ _ _ eL => rw [eL]; simp
  | wake _ _ _ _ _ _ _ _ _ _ _ _ _ _ _ _ _ eL => rw [eL]; simp
  | free _ _ _ _ _ _ _ _ _ _ _ _ _ _ _ _ eL => rw [eL]; simp

end Go.Proofs.Ytfjjoohflcchnaa.Gen
