/- CellAdds returns true, whatever the schedule, the start and the numbers, and leaves what it was given as it was: of the law's statement as given, with no condition of our own. Part 20 of 34. (Joined, by program, of: Home2, Birth, Hire, Hire2.) -/
import Derived.Test.YtfjjoohflcchnaaCellAdds12
import Derived.Test.YtfjjoohflcchnaaCellAdds14
import Derived.Test.YtfjjoohflcchnaaCellAdds18
import Derived.Test.YtfjjoohflcchnaaCellAdds19
import Derived.Conc.SmallLaws
set_option linter.unusedSimpArgs false
set_option linter.unusedVariables false
namespace Go.Proofs.Ytfjjoohflcchnaa
open Go Go.Lift Go.Conc Go.RowKit

/-- Behind an answer: noted, written down, and on to the next seat. -/
theorem back_goes {X : Fix} (ok : X.Ok) (hD : CallDef) (Hm : Ph → (Nat → Prop) → (Nat → Option Obj) → Goroutine → Prop) (hHm : ∀ l E M g, HomeBack X l E M g → Hm l E M g) {c : Cl} {rest : List Cl} {ii : Nat} {ans : List (Int × Int)} {E : Nat → Prop} {M : Nat → Option Obj} {cs : List Frame} {pb ab2 cb : Nat} {cu : Value → Goroutine} (hmid : Mid X c rest ii ans E M cs pb ab2 cb cu)
    {z : Nat → Option Nat} {Ch : Nat → Prop} {Stop : Goroutine → World → Prop} {cont : Addr → Value} (hz : z X.tb = some 2) (hcont : cont ⟨X.tb, 2, none⟩ = .chan (some X.gc)) {S S1 : TS} {K K1 : List (Nat × Int)} {v v1 w1 : World} {t1 : Thr} {σ : TS} (e x : Int)
    (hM : Has M v) (hfar : ∀ b, M b ≠ none → ¬ Own S K b) (he : EvoP (fun b => b = ab2) z S K v S1 K1 v1) (hvw1 : Rel z v1 w1) (hn1 : NoRow Ch v1) (ht1 : S1.thr[X.i]? = some t1) (htb : t1.tb = X.tb) (hgc : t1.gc = X.gc) (hbk : S1.bk = S.bk) (hK : K1.map (·.1) = X.kb) (hσ : nv S1 = σ)
    (hl : (back X.i X.kb.length rest ii ans e x σ K1).1.n * 40 ≤ 140737488355328)
    (hstop : ∀ g' w' E' M', Gives X Hm z cont Ch S K v E (back X.i X.kb.length rest ii ans e x σ K1).1 (back X.i X.kb.length rest ii ans e x σ K1).2.1 (back X.i X.kb.length rest ii ans e x σ K1).2.2 E' M' g' w' → Stop g' w') :
    GoesI Try.prog (X.h == 0) (DT (ScZ z) Ch) Stop (cu (.agg #[I e, I x])) w1 := by
  subst hσ
  have hE := hmid.e
  have hp : PM X ans v := hmid.sees.pm v hM
  have hlt : ∀ b, M b ≠ none → b < v.heap.size := fun b hb => by
    obtain ⟨o, ho⟩ := Option.ne_none_iff_exists'.1 hb
    exact (Array.getElem?_eq_some_iff.1 (hM b o ho)).1
  have hsame : ∀ b, M b ≠ none → b ≠ ab2 → v1.heap[b]? = v.heap[b]? ∧ ¬ Own S1 K1 b := fun b hb hne => he.keeps (hlt b hb) (hfar b hb) hne
  have npr : ∀ b, X.Pr b → b ≠ ab2 ∧ b ≠ pb := fun b hb => ⟨fun e => hmid.sees.apart b (by rw [hE]; exact .inr e) hb, fun e => hmid.sees.apart b (by rw [hE]; exact .inl e) hb⟩
  have hpr : ∀ b, X.Pr b → v1.heap[b]? = v.heap[b]? ∧ ¬ Own S1 K1 b := fun b hb => hsame b (hmid.sees.pr b hb) (npr b hb).1
  have hp1 : PM X ans v1 := hp.stay (fun b hb => (hpr b hb).1)
  have hpb := hsame pb (by rw [hmid.m1]; simp) hmid.ne
  have hlt' : ii < X.calls.length := by
    rcases Nat.lt_or_ge ii X.calls.length with h | h
    · exact h
    · have := hmid.drop; rw [List.drop_eq_nil_iff.2 h] at this; cases this
  have hd' : X.calls.drop (ii + 1) = rest := by
    have := congrArg List.tail hmid.drop
    simpa using this
  have hl1 : (S1.n + 1) * 40 ≤ 140737488355328 := Nat.le_trans (Nat.mul_le_mul_right 40 (flow_sta X.i X.kb.length rest (ii + 1) (e == 4) (ans.set ii (e, x)) (noted (nv S1) undef X.i 10 (-1) ii e)).n) hl
  refine hmid.answers z Ch Stop w1 v1 S1 K1 t1 e x hvw1 hn1 he.mem ht1 htb hl1 (by rw [hpb.1]; exact hM pb _ hmid.m1) hpb.2 (fun h => (npr pb h).2 rfl) hp1 (fun b hb => (hpr b hb).2) (fun v2 w2 tv u' hvw2 hn2 he2 hp2 => ?_)
  have ej : EvoP (fun b => b = X.ab ∨ E b) z S K v (noted S1 tv X.i 10 (-1) ii e) K1 v2 := (he.wider (Pr' := fun b => b = X.ab ∨ E b) (fun b _ hb => .inr (by rw [hE]; exact .inr hb))).join he2 (fun b hb => .inl (hb.imp id (fun h => by rw [hE]; exact .inl h)))
  refine flow_goes ok hD Hm hHm hmid.ends hz hcont rest (ii + 1) (e == 4) (ans.set ii (e, x)) E (noted S1 tv X.i 10 (-1) ii e) K1 v2 w2 t1 u' hd' (by omega) hvw2 hn2 he2.mem ht1 htb hgc hK hp2 (fun b hb ho => ?_) hl (fun g' w' E' M' hg => hstop g' w' E' M' (hg.join ej hbk (fun b h => .inl h)))
  rcases he2.new b ho with h1 | h1
  · exact (hpr b hb).2 h1
  · have := hp1.lt ok hb; omega

theorem kset_same {K : List (Nat × Int)} {j : Nat} {p : Nat × Int} (h : K[j]? = some p) : K.set j p = K := by
  apply List.ext_getElem?
  intro k
  rw [List.getElem?_set]
  by_cases e : j = k
  · subst e
    rw [if_pos rfl, if_pos (List.getElem?_eq_some_iff.1 h).1, h]
  · rw [if_neg e]
theorem kmap_set {K : List (Nat × Int)} {j cb : Nat} {x y : Int} (h : K[j]? = some (cb, x)) : (K.set j (cb, y)).map (·.1) = K.map (·.1) := by
  rw [List.map_set]
  apply List.ext_getElem?
  intro k
  rw [List.getElem?_set]
  by_cases e : j = k
  · subst e
    have hj := (List.getElem?_eq_some_iff.1 h).1
    rw [if_pos rfl, if_pos (by simpa using hj), List.getElem?_map, h]
    rfl
  · rw [if_neg e]

theorem seat_again {X : Fix} {z : Nat → Option Nat} {E : Nat → Prop} {M : Nat → Option Obj} {S S2 : TS} {K : List (Nat × Int)} {v v2 : World} (hM : Has M v) (hfar : ∀ b, M b ≠ none → ¬ Own S K b) (h : Evo z S K v S2 K v2) : EvoP (fun b => b = X.ab ∨ E b) z S K v S2 K v2 ∧ Has M v2 ∧ ∀ b, M b ≠ none → ¬ Own S2 K b := by
  have k : ∀ b o, M b = some o → v2.heap[b]? = v.heap[b]? ∧ ¬ Own S2 K b := fun b o hb => (Evo.toP (Pr := fun _ => False) h).keeps (Array.getElem?_eq_some_iff.1 (hM b o hb)).1 (hfar b (by rw [hb]; simp)) (fun h => h)
  refine ⟨h.toP, fun b o hb => by rw [(k b o hb).1]; exact hM b o hb, fun b hb => ?_⟩
  obtain ⟨o, ho⟩ := Option.ne_none_iff_exists'.1 hb
  exact (k b o ho).2

/-- Until has its answer. -/
theorem u_fin {X : Fix} (ok : X.Ok) (hD : CallDef) (Hm : Ph → (Nat → Prop) → (Nat → Option Obj) → Goroutine → Prop) (hHm : ∀ l E M g, HomeBack X l E M g → Hm l E M g) {c : Cl} {rest : List Cl} {ii : Nat} {ans : List (Int × Int)} {E : Nat → Prop} {M : Nat → Option Obj} {cs fs : List Frame} {pb ab2 cb : Nat} {cu : Value → Goroutine} (hmid : Mid X c rest ii ans E M cs pb ab2 cb cu)
    {bd : Frame} {ad : Act} {od : Array Oper} {rd : List Nat} {oe : Oper} {kd : List Item} (hC6 : C6Back (X.h == 0) ab2 (fun b => G (bd.at (ad.put oe.dst (.bool b)) (.inRegion od rd :: kd)) fs) cu)
    {z : Nat → Option Nat} {Ch : Nat → Prop} {Stop : Goroutine → World → Prop} {cont : Addr → Value} (hz : z X.tb = some 2) (hcont : cont ⟨X.tb, 2, none⟩ = .chan (some X.gc)) {S S1 : TS} {K : List (Nat × Int)} {v v1 w1 : World} {t1 : Thr} {σ : TS} (b : Bool)
    (hM : Has M v) (hfar : ∀ b, M b ≠ none → ¬ Own S K b) (he : Evo z S K v S1 K v1) (hvw1 : Rel z v1 w1) (hn1 : NoRow Ch v1) (ht1 : S1.thr[X.i]? = some t1) (htb : t1.tb = X.tb) (hgc : t1.gc = X.gc) (hbk : S1.bk = S.bk) (hK : K.map (·.1) = X.kb) (hσ : nv S1 = σ)
    (hl : (back X.i X.kb.length rest ii ans (if b then 0 else 4) 0 σ K).1.n * 40 ≤ 140737488355328)
    (hstop : ∀ g' w' E' M', Gives X Hm z cont Ch S K v E (back X.i X.kb.length rest ii ans (if b then 0 else 4) 0 σ K).1 (back X.i X.kb.length rest ii ans (if b then 0 else 4) 0 σ K).2.1 (back X.i X.kb.length rest ii ans (if b then 0 else 4) 0 σ K).2.2 E' M' g' w' → Stop g' w') :
    GoesI Try.prog (X.h == 0) (DT (ScZ z) Ch) Stop (G (bd.at (ad.put oe.dst (.bool b)) (.inRegion od rd :: kd)) fs) w1 := by
  have m2 : M ab2 ≠ none := by rw [hmid.m2]; simp
  have k2 := (Evo.toP (Pr := fun _ => False) he).keeps (Array.getElem?_eq_some_iff.1 (hM ab2 _ hmid.m2)).1 (hfar ab2 m2) (fun h => h)
  exact hC6 z Ch Stop w1 v1 S1 K b hvw1 hn1 he.mem (by rw [k2.1]; exact hM ab2 _ hmid.m2) k2.2 (fun v2 w2 hvw2 hn2 he2 => back_goes ok hD Hm hHm hmid hz hcont (if b then 0 else 4) 0 hM hfar ((Evo.toP he).trans he2) hvw2 hn2 ht1 htb hgc hbk hK hσ hl hstop)

set_option maxHeartbeats 1000000 in
theorem home_all {X : Fix} (ok : X.Ok) (hD : CallDef) : ∀ (n : Nat) (l : Ph) (E : Nat → Prop) (M : Nat → Option Obj) (g : Goroutine), HomeBack X l E M g → Home X n l E M g := by
  intro n
  induction n with
  | zero => intros; trivial
  | succ n ih =>
    intro l E M g hb z Ch Stop cont y w v S K t hvw hn hm ht htb hgc hfit hK hz hcont hM hfar hl hstop
    match l, hb, hfit, hl, hstop with
    | .turn (c :: rest) ii ans, hb, hfit, hl, hstop =>
      obtain ⟨cs, pb, ab2, cb, cu, hmid, hb⟩ := hb
      obtain ⟨hKj, hKe⟩ := kb_at hK hmid.kb
      have hx1 : (cellAt K (which c.ca X.kb.length)).1 = cb := by rw [hKe]
      have m2 : M ab2 ≠ none := by rw [hmid.m2]; simp
      have eth : thrI (nv S) X.i = t := thrI_of ht
      rcases hb with ⟨h6, ansf, ha, hg⟩ | ⟨h6, fs, bd, ad, od, qd, rd, oe, kd, u, hoe, hC6, hg⟩
      · have er : resume X.i X.kb.length (.turn (c :: rest) ii ans) (nv S) K = back X.i X.kb.length rest ii ans (ansC c (cellAt K (which c.ca X.kb.length)).2).1 (ansC c (cellAt K (which c.ca X.kb.length)).2).2 (didS (nv S) undef X.i t (effC c (cellAt K (which c.ca X.kb.length)).2).1.1 (effC c (cellAt K (which c.ca X.kb.length)).2).1.2) (K.set (which c.ca X.kb.length) (cb, (effC c (cellAt K (which c.ca X.kb.length)).2).2.1)) := by
          rw [resume_turn, if_neg (fun h => h6 h.1), eth, hx1]
        rw [er] at hl hstop
        generalize (cellAt K (which c.ca X.kb.length)).2 = x at *
        have hl1 : (S.n + 1) * 40 ≤ 140737488355328 := by
          refine Nat.le_trans (Nat.mul_le_mul_right 40 ?_) hl
          have q := (back_sta (i := X.i) (nk := X.kb.length) rest ii ans (ansC c x).1 (ansC c x).2 (K.set (which c.ca X.kb.length) (cb, (effC c x).2.1)) (didS (nv S) undef X.i t (effC c x).1.1 (effC c x).1.2)).n
          refine Nat.le_trans ?_ q
          unfold didS
          split <;> exact Nat.le_refl _
        refine hg z Ch Stop y w v S K t x hvw hn hm ht htb hfit.1 hfit.2 hKj hl1 (hM ab2 _ hmid.m2) (hfar ab2 m2) (fun v1 w1 tv hvw1 hn1 he1 => ?_)
        rw [ha]
        have sd := sta_did (i := X.i) S tv t (effC c x).1.1 (effC c x).1.2
        obtain ⟨t1, ht1, htb1, hgc1⟩ := sd.own t ht
        exact back_goes ok hD (Home X n) ih hmid hz hcont _ _ hM hfar he1 hvw1 hn1 ht1 (htb1.trans htb) (hgc1.trans hgc) sd.bk ((kmap_set hKj).trans hK) (nv_did tv t _ _) hl hstop
      · have hn0 : (didS (nv S) undef X.i t c.cb c.cb).n = S.n + 1 := by
          unfold didS
          split <;> rfl
        by_cases hx : (cellAt K (which c.ca X.kb.length)).2 = c.cb
        · rw [hx] at hKj
          cases hs : S.stk with
          | true =>
            have er : resume X.i X.kb.length (.turn (c :: rest) ii ans) (nv S) K = back X.i X.kb.length rest ii ans 4 0 (didS (nv S) undef X.i t c.cb c.cb) K := by
              rw [resume_turn, if_pos ⟨h6, hx⟩, if_pos (show (nv S).stk = true from hs), eth]
            rw [er] at hl hstop
            have hl1 : (S.n + 1) * 40 ≤ 140737488355328 := Nat.le_trans (Nat.mul_le_mul_right 40 (by have q := (back_sta (i := X.i) (nk := X.kb.length) rest ii ans 4 0 K (didS (nv S) undef X.i t c.cb c.cb)).n; rw [hn0] at q; exact q)) hl
            refine hg z Ch Stop y w v S K t c.cb hvw hn hm ht htb (by rw [hfit.1, h6]; rfl) hfit.2 hKj hl1 (fun v1 w1 tv hvw1 hn1 he1 => ?_)
            rw [show effLoad c.cb = ((c.cb, c.cb), c.cb, I c.cb) from rfl, kset_same hKj] at he1
            have sd := sta_did (i := X.i) S tv t c.cb c.cb
            obtain ⟨t1, ht1, htb1, hgc1⟩ := sd.own t ht
            rw [← htb, ← htb1]
            refine until_stuck (S := didS S tv X.i t c.cb c.cb) (K := K) (v := v1) (i := X.i) (j := which c.ca X.kb.length) (t := t1) c.cb c.cb u _ hvw1 hn1 he1.mem (sd.stk.trans hs) ht1 hKj (fun v2 w2 hvw2 hn2 he2 => ?_)
            refine until_no _ _ _ _ hoe hvw2 hn2 (fun v3 w3 hvw3 hn3 e1 e2 e3 => ?_)
            exact u_fin ok hD (Home X n) ih hmid hC6 hz hcont false hM hfar ((he1.trans he2).same e1 e2 e3) hvw3 hn3 ht1 (htb1.trans htb) (hgc1.trans hgc) sd.bk hK (nv_did tv t _ _) hl hstop
          | false =>
            have er : resume X.i X.kb.length (.turn (c :: rest) ii ans) (nv S) K = (waiting (didS (nv S) undef X.i t c.cb c.cb) X.i t 2 6 (which c.ca X.kb.length), K, .wait (c :: rest) ii ans) := by
              rw [resume_turn, if_pos ⟨h6, hx⟩, if_neg (show ¬ (nv S).stk = true from by show ¬ S.stk = true; rw [hs]; simp), eth]
            rw [er] at hl hstop
            have hl1 : (S.n + 1) * 40 ≤ 140737488355328 := by rw [← hn0]; exact hl
            refine hg z Ch Stop y w v S K t c.cb hvw hn hm ht htb (by rw [hfit.1, h6]; rfl) hfit.2 hKj hl1 (fun v1 w1 tv hvw1 hn1 he1 => ?_)
            rw [show effLoad c.cb = ((c.cb, c.cb), c.cb, I c.cb) from rfl, kset_same hKj] at he1
            have sd := sta_did (i := X.i) S tv t c.cb c.cb
            have ht1 : (didS S tv X.i t c.cb c.cb).thr[X.i]? = some t := by
              unfold didS
              split <;> exact ht
            rw [← htb]
            refine until_same (h := X.h) (S := didS S tv X.i t c.cb c.cb) (K := K) (v := v1) (i := X.i) (j := which c.ca X.kb.length) (t := t) c.cb c.cb u _ (Home X n (.wait (c :: rest) ii ans) E M) (fun g hg => ih _ _ _ _ ⟨cs, pb, ab2, cb, cu, hmid, h6, fs, bd, ad, od, qd, rd, oe, kd, _, hoe, hC6, by rw [htb] at hg; exact hg⟩) hvw1 hn1 he1.mem (sd.stk.trans hs) ht1 hKj (by rw [htb]; exact hz) (by rw [htb, hgc]; exact hcont) (fun g w' hg => ?_)
            rw [hgc, sd.bk] at hg
            refine hstop g w' E M ⟨hmid.sees, fun b h => .inl h, atGive_mono (fun hF => ?_) hg⟩
            obtain ⟨v4, k1, k2, k3⟩ := hF
            have := seat_again (X := X) (E := E) hM hfar (he1.trans k3)
            refine ⟨v4, _, k1, k2, ?_, this.1, this.2⟩
            show nv (waiting (didS S tv X.i t c.cb c.cb) X.i t 2 6 (which c.ca X.kb.length)) = _
            rw [← nv_did (i := X.i) tv t c.cb c.cb]
            rfl
        · have er : resume X.i X.kb.length (.turn (c :: rest) ii ans) (nv S) K = back X.i X.kb.length rest ii ans 0 0 (didS (nv S) undef X.i t (cellAt K (which c.ca X.kb.length)).2 (cellAt K (which c.ca X.kb.length)).2) K := by
            rw [resume_turn, if_neg (fun h => hx h.2), eth, hx1]
            have e1 : effC c (cellAt K (which c.ca X.kb.length)).2 = effLoad (cellAt K (which c.ca X.kb.length)).2 := by simp [effC, h6]
            have e2 : ansC c (cellAt K (which c.ca X.kb.length)).2 = (0, 0) := by simp [ansC, h6]
            rw [e1, e2, show effLoad (cellAt K (which c.ca X.kb.length)).2 = (((cellAt K (which c.ca X.kb.length)).2, (cellAt K (which c.ca X.kb.length)).2), (cellAt K (which c.ca X.kb.length)).2, I (cellAt K (which c.ca X.kb.length)).2) from rfl, kset_same hKj]
          rw [er] at hl hstop
          generalize (cellAt K (which c.ca X.kb.length)).2 = x at *
          have hn1 : (didS (nv S) undef X.i t x x).n = S.n + 1 := by
            unfold didS
            split <;> rfl
          have hl1 : (S.n + 1) * 40 ≤ 140737488355328 := Nat.le_trans (Nat.mul_le_mul_right 40 (by have q := (back_sta (i := X.i) (nk := X.kb.length) rest ii ans 0 0 K (didS (nv S) undef X.i t x x)).n; rw [hn1] at q; exact q)) hl
          refine hg z Ch Stop y w v S K t x hvw hn hm ht htb (by rw [hfit.1, h6]; rfl) hfit.2 hKj hl1 (fun v1 w1 tv hvw1 hn1 he1 => ?_)
          rw [show effLoad x = ((x, x), x, I x) from rfl, kset_same hKj] at he1
          have sd := sta_did (i := X.i) S tv t x x
          obtain ⟨t1, ht1, htb1, hgc1⟩ := sd.own t ht
          refine until_diff c.cb x hx u _ hoe hvw1 hn1 (fun v3 w3 hvw3 hn3 e1 e2 e3 => ?_)
          exact u_fin ok hD (Home X n) ih hmid hC6 hz hcont true hM hfar (he1.same e1 e2 e3) hvw3 hn3 ht1 (htb1.trans htb) (hgc1.trans hgc) sd.bk hK (nv_did tv t _ _) hl hstop
    | .wait (c :: rest) ii ans, hb, hfit, hl, hstop =>
      obtain ⟨cs, pb, ab2, cb, cu, hmid, h6, fs, bd, ad, od, qd, rd, oe, kd, u, hoe, hC6, hg⟩ := hb
      obtain ⟨hKj, hKe⟩ := kb_at hK hmid.kb
      have eth : thrI (nv S) X.i = t := thrI_of ht
      cases hs : S.stk with
      | true =>
        have er : resume X.i X.kb.length (.wait (c :: rest) ii ans) (nv S) K = back X.i X.kb.length rest ii ans 4 0 (nv S) K := by
          rw [resume_wait, if_pos (show (nv S).stk = true from hs)]
        rw [er] at hl hstop
        have hl1 : (S.n + 1) * 40 ≤ 140737488355328 := Nat.le_trans (Nat.mul_le_mul_right 40 (flow_sta X.i X.kb.length rest (ii + 1) _ (ans.set ii (4, 0)) (noted (nv S) undef X.i 10 (-1) ii 4)).n) hl
        refine hg z Ch Stop y w v S K t hvw hn hm ht htb hl1 (fun v1 w1 tv h => by rw [hs] at h; cases h) (fun v1 w1 _ hvw1 hn1 he1 => ?_)
        refine until_no _ _ _ _ hoe hvw1 hn1 (fun v3 w3 hvw3 hn3 e1 e2 e3 => ?_)
        exact u_fin ok hD (Home X n) ih hmid hC6 hz hcont false hM hfar (he1.same e1 e2 e3) hvw3 hn3 ht htb hgc rfl hK rfl hl hstop
      | false =>
        have er : resume X.i X.kb.length (.wait (c :: rest) ii ans) (nv S) K = (waiting (noted (nv S) undef X.i 6 (which c.ca X.kb.length) 0 0) X.i t 1 1 (which c.ca X.kb.length), K, .turn (c :: rest) ii ans) := by
          rw [resume_wait, if_neg (show ¬ (nv S).stk = true from by show ¬ S.stk = true; rw [hs]; simp), eth]
        rw [er] at hl hstop
        refine hg z Ch Stop y w v S K t hvw hn hm ht htb hl (fun v1 w1 tv _ hvw1 hn1 he1 => ?_) (fun v1 w1 h => by rw [hs] at h; cases h)
        refine until_again _ _ _ _ (fun u1 => ?_)
        rw [← htb]
        refine until_loop (h := X.h) (S := noted S tv X.i 6 (which c.ca X.kb.length) 0 0) (K := K) (v := v1) (i := X.i) (j := which c.ca X.kb.length) (t := t) c.cb (cellAt K (which c.ca X.kb.length)).2 u1 _ (Home X n (.turn (c :: rest) ii ans) E M) (fun g hg => ih _ _ _ _ ⟨cs, pb, ab2, cb, cu, hmid, .inr ⟨h6, fs, bd, ad, od, qd, rd, oe, kd, u1, hoe, hC6, by rw [← htb]; exact hg⟩⟩) hvw1 hn1 he1.mem ht hKj (by rw [htb]; exact hz) (by rw [htb, hgc]; exact hcont) (fun g w' hg => ?_)
        rw [hgc] at hg
        refine hstop g w' E M ⟨hmid.sees, fun b h => .inl h, atGive_mono (fun hF => ?_) hg⟩
        obtain ⟨v4, k1, k2, k3⟩ := hF
        have := seat_again (X := X) (E := E) hM hfar (he1.trans k3)
        exact ⟨v4, _, k1, k2, rfl, this.1, this.2⟩
    | .turn [] _ _, hb, _, _, _ => exact hb.elim
    | .wait [] _ _, hb, _, _, _ => exact hb.elim
    | .done _, hb, _, _, _ => exact hb.elim
end Go.Proofs.Ytfjjoohflcchnaa

namespace Go.Proofs.Ytfjjoohflcchnaa
open Go Go.Lift Go.Conc Go.RowKit

/-- The frames below a script's: the thread ends behind its last call. -/
theorem ends_of {X : Fix} (ok : X.Ok) {F33 : Value} {bd : Frame} {ad : Act} {od : Array Oper} {qd : Nat} {rd : List Nat} {oe : Oper} {kd : List Item} (hoe : od[qd]? = some oe)
    (hf : ∀ (z : Nat → Option Nat) (Ch : Nat → Prop) (Stop : Goroutine → World → Prop) (w : World), GoesI Try.prog (X.h == 0) (DT (ScZ z) Ch) Stop (G ((baseD 112).at ((lifeAct X.tb X.bb F33).put (ops492.getD 2 default).dst (.tuple #[])) [.inRegion ops492 []]) [botP Try.prog]) w →
      GoesI Try.prog (X.h == 0) (DT (ScZ z) Ch) Stop (G (bd.at (ad.put oe.dst (.tuple #[])) (.inRegion od rd :: kd)) [lifeFr X.tb X.bb F33, botP Try.prog]) w) :
    CarryEnds X [bd.at ad (.inRegion od (qd :: rd) :: kd), lifeFr X.tb X.bb F33, botP Try.prog] := by
  intro z Ch Stop cont w v S K t sk u hvw hn hm ht htb hbox hbo hstop
  refine carry_end X.csl X.F X.asl X.calls.length sk u _ hoe (hf z Ch Stop w ?_)
  rw [← htb]
  exact life_tail X.bb F33 ok.h hvw hn hm ht (by rw [htb]; exact hbox) hbo hstop

set_option maxHeartbeats 1000000 in
set_option maxRecDepth 100000 in
theorem birth_goes {X : Fix} (ok : X.Ok) (hD : CallDef) (n : Nat) {z : Nat → Option Nat} {Ch : Nat → Prop} {Stop : Goroutine → World → Prop} {cont : Addr → Value} (hz : z X.tb = some 2) (hcont : cont ⟨X.tb, 2, none⟩ = .chan (some X.gc)) {S : TS} {K : List (Nat × Int)} {v w : World} {t : Thr} {ans : List (Int × Int)} (p1 p2 p3 p4 rr m cap' ix : Nat) (hix : ix < m)
    (hvw : Rel z v w) (hn : NoRow Ch v) (hm : Mem z S K v) (ht : S.thr[X.i]? = some t) (htb : t.tb = X.tb) (hgc : t.gc = X.gc) (hK : K.map (·.1) = X.kb) (hbb : X.bb = v.heap.size)
    (h1 : v.cell? ⟨p1, 0, none⟩ = some X.csl) (h2 : v.cell? ⟨p2, 0, none⟩ = some X.F) (h3 : v.cell? ⟨p3, 0, none⟩ = some (.slice (some ⟨rr, 0, none⟩) m cap')) (h4 : v.cell? ⟨p4, 0, none⟩ = some (I ix)) (h5 : v.cell? ⟨rr, ix, none⟩ = some X.asl)
    (hp : ∀ v1, Grows v v1 → v1.cell? ⟨X.bb, 0, none⟩ = some (Pt X.tb 0) → PM X ans v1) (hfar : ∀ b, X.Pr b → ¬ Own S K b)
    (hl : (flow X.i X.kb.length X.calls 0 false ans (nv S)).1.n * 40 ≤ 140737488355328)
    (hstop : ∀ g' w' E' M', Gives X (Home X n) z cont Ch S K v (fun _ => False) (flow X.i X.kb.length X.calls 0 false ans (nv S)).1 K (flow X.i X.kb.length X.calls 0 false ans (nv S)).2 E' M' g' w' → Stop g' w') (code : Code) (hc : Try.f112.body = some code) :
    GoesI Try.prog (X.h == 0) (DT (ScZ z) Ch) Stop (G ((baseD 112).at { tmps := #[Pt X.tb 0, .func (.func 84) #[] #[Pt p1 0, Pt p2 0, Pt p3 0, Pt p4 0]] ++ Array.replicate 6 undef, defers := [] } [.code code]) [botP Try.prog]) w := by
  refine run_goes X.tb 84 Try.f84 #[Pt p1 0, Pt p2 0, Pt p3 0, Pt p4 0] Try.func84 (by kernel_rfl) _ rfl hvw hn (fun v1 w1 hvw1 hn1 hg1 hbx hs1 => ?_) code hc
  have hbox : v1.cell? ⟨X.bb, 0, none⟩ = some (Pt X.tb 0) := by rw [hbb]; simp [World.cell?, hbx]
  refine body33_goes (tb := X.tb) X.csl X.F X.asl rr m cap' ix hix (hg1.cell h1) (hg1.cell h2) (hg1.cell h3) (hg1.cell h4) (hg1.cell h5) [botP Try.prog] dst492 hvw1 hn1 (fun w2 bd ad od qd rd oe kd hvw2 hoe hfact code hcode => ?_) _ rfl
  rw [← hbb] at hfact
  have hce := ends_of ok hoe hfact
  refine carry_in X.F X.asl X.pc X.calls.length X.cap _ (fun u => ?_) code hcode
  have := flow_goes ok hD (Home X n) (home_all ok hD n) hce hz hcont X.calls 0 false ans (fun _ => False) S K v1 w2 t u (by simp) (Nat.zero_le _) hvw2 hn1 (hm.grows hg1).mem ht htb hgc hK (hp v1 hg1 hbox) hfar hl (fun g' w' E' M' hg => hstop g' w' E' M' (hg.join (Evo.toP (hm.grows hg1)) rfl (fun b h => .inl h)))
  rw [hbb] at this
  exact this
end Go.Proofs.Ytfjjoohflcchnaa

namespace Go.Proofs.Ytfjjoohflcchnaa
open Go Go.Lift Go.Conc Go.RowKit

theorem und55 : ∃ dir e i, Try.prog.underlying 80 = some (.chan dir e) ∧ Try.prog.info? e = some i ∧ i.bytes = 0 := by
  have h : ((Try.prog.underlying 80).map fun t => match t with | .chan d e => ((Try.prog.info? e).map fun i => i.bytes) == some 0 | _ => false) = some true := by kernel_rfl
  cases hu : Try.prog.underlying 80 with
  | none => rw [hu] at h; cases h
  | some t =>
    rw [hu] at h
    cases t with
    | chan d e =>
      simp only [Option.map_some, Option.some.injEq, beq_iff_eq] at h
      obtain ⟨i, hi, hb⟩ := Option.map_eq_some_iff.1 h
      exact ⟨d, e, i, rfl, hi, hb⟩
    | _ => cases h
theorem run_mk (v : World) : (Instr.makeChan 80 (.int .i64 0)).run Try.prog v = .ok (.chan (some v.heap.size)) (v.alloc (.chan 0 #[] false 0 0 false)) := by
  obtain ⟨d, e, i, h1, h2, h3⟩ := und55
  exact run_makeChan h1 h2 .i64 0 (by decide) (by rw [h3]; decide)

noncomputable def B35 : Code := Try.f86.body.getD .skip
/-- The two loops. -/
noncomputable def HL : Code := loopC (blockC (seq2 (seq1 (seq2 (seq2 (seq2 B35))))))
noncomputable def D35 : Code := seq2 (seq2 (seq2 (seq2 B35)))
noncomputable def TL : Code := loopC (blockC D35)
noncomputable def HB : Code := blockC (seq1 (seq2 (seq2 HL)))
noncomputable def R18 : Code := seq2 (seq2 (seq2 HL))
/-- The loop's head: ii threads are hired. -/
noncomputable def hFr (wb : Nat) (bsl : Value) (n ii : Nat) (u : Nat → Value) : Frame :=
  (base 86).at ⟨#[Pt wb 0, bsl, undef, undef, u 4, u 5, u 6, u 7, u 8, u 9, u 10, u 11, u 12, u 13, u 14, u 15, u 16, u 17, u 18, u 19, u 20, u 21, u 22, u 23, u 24, u 25, u 26, u 27, u 28, u 29, bsl] ++ #[I n, I ii, u 33, u 34, u 35, u 36, u 37, u 38, u 39, u 40, u 41, u 42, u 43, u 44, u 45, u 46, u 47, u 48, u 49, u 50, u 51, u 52, u 53, u 54, u 55, u 56, u 57, u 58, u 59, u 60, u 61], []⟩ [.code HL, .inLoop HL, .inBlock 2, .code D35]
noncomputable def ops3514 : Array Oper := opsOf (seq1 (seq2 HB))
noncomputable def R15 : Code := seq2 (seq2 HB)
/-- Ahead of the new thread's row, and behind it. -/
noncomputable def bFr1 (wb : Nat) (bsl F : Value) (n ii bb gc : Nat) (u : Nat → Value) : Frame :=
  (base 86).at ⟨#[Pt wb 0, bsl, undef, undef, u 4, u 5, u 6, I ii, F, u 9, u 10, u 11, u 12, u 13, u 14, u 15, u 16, u 17, u 18, u 19, u 20, u 21, u 22, u 23, u 24, u 25, u 26, u 27, u 28, u 29, bsl] ++ #[I n, I ii, .bool true, I ii, Pt bb ii, F, Pt wb 0, I ii, .chan (some gc), .agg (trow wb ii gc 0 0 0 0), u 41, u 42, u 43, u 44, u 45, u 46, u 47, u 48, u 49, u 50, u 51, u 52, u 53, u 54, u 55, u 56, u 57, u 58, u 59, u 60, u 61], []⟩ [.inRegion ops3514 [4, 5], .code R15, .inBlock 3, .code R18, .inLoop HL, .inBlock 2, .code D35]
noncomputable def bFr2 (wb : Nat) (bsl F : Value) (n ii bb gc tb : Nat) (u : Nat → Value) : Frame :=
  (base 86).at ⟨#[Pt wb 0, bsl, undef, undef, u 4, u 5, u 6, I ii, F, u 9, u 10, u 11, u 12, u 13, u 14, u 15, u 16, u 17, u 18, u 19, u 20, u 21, u 22, u 23, u 24, u 25, u 26, u 27, u 28, u 29, bsl] ++ #[I n, I ii, .bool true, I ii, Pt bb ii, F, Pt wb 0, I ii, .chan (some gc), .agg (trow wb ii gc 0 0 0 0), Pt tb 0, u 42, u 43, u 44, u 45, u 46, u 47, u 48, u 49, u 50, u 51, u 52, u 53, u 54, u 55, u 56, u 57, u 58, u 59, u 60, u 61], []⟩ [.inRegion ops3514 [5], .code R15, .inBlock 3, .code R18, .inLoop HL, .inBlock 2, .code D35]

set_option maxHeartbeats 2000000 in
set_option maxRecDepth 100000 in
theorem hire_a {z : Nat → Option Nat} {Ch : Nat → Prop} {Stop : Goroutine → World → Prop} {main : Bool} {v w : World} {wb : Nat} (F : Value) (bb n cap ii : Nat) (u : Nat → Value) (cs : List Frame) (hi : ii < n)
    (h1 : v.cell? ⟨bb, ii, none⟩ = some F) (hvw : Rel z v w) (hn : NoRow Ch v)
    (hk : ∀ v' w' u', Rel z v' w' → NoRow Ch v' → v' = { v with heap := v.heap.push (.chan 0 #[] false 0 0 false) } → GoesI Try.prog main (DT (ScZ z) Ch) Stop (G (bFr1 wb (.slice (some ⟨bb, 0, none⟩) n cap) F n ii bb v.heap.size u') cs) w') :
    GoesI Try.prog main (DT (ScZ z) Ch) Stop (G (hFr wb (.slice (some ⟨bb, 0, none⟩) n cap) n ii u) cs) w := by
  have hi' : (ii : Int) < (n : Int) := by omega
  have e0 : w.cell? ⟨bb, ii, none⟩ = some F := by rw [hvw.cell?]; exact h1
  have hk := hk { v with heap := v.heap.push (.chan 0 #[] false 0 0 false) } 
  unfold hFr HL B35 Try.f86 seq2 seq1 blockC loopC
  simp only [Option.getD_some, List.append_toArray, List.cons_append, List.nil_append]
  refine goesI_seq (dt_idle _ _) ?_
  refine goesI_region (dt_idle _ _) ?_
  simp only [List.size_toArray, List.length_cons, List.length_nil, Nat.reduceAdd, Nat.zero_add, List.range, List.range.loop]
  iterate 1
    (refine goesI_oper rfl rfl (by decide) (fun d K hK => ?_)
     go_simp
     refine hK _ _ ⟨dt_reads (fun e he => ?_), GoesI.at ?_ d⟩
     · have hm := mem_listed he
       simp [go_sem, *] at hm
       try exact ⟨_, _, hm⟩
     clear hK K)
  refine goesI_regionEnd (dt_idle _ _) ?_
  refine goesI_seq (dt_idle _ _) ?_
  refine goesI_cond (dt_idle _ _) (t := true) rfl ?_
  simp only [if_true, if_false, Bool.false_eq_true]
  refine goesI_skip (dt_idle _ _) ?_
  refine goesI_seq (dt_idle _ _) ?_
  refine goesI_block (dt_idle _ _) ?_
  refine goesI_seq (dt_idle _ _) ?_
  refine goesI_region (dt_idle _ _) ?_
  simp only [List.size_toArray, List.length_cons, List.length_nil, Nat.reduceAdd, Nat.zero_add, List.range, List.range.loop]
  iterate 5
    (refine goesI_oper rfl rfl (by decide) (fun d K hK => ?_)
     go_simp
     refine hK _ _ ⟨dt_reads (fun e he => ?_), GoesI.at ?_ d⟩
     · have hm := mem_listed he
       simp [go_sem, *] at hm
       try exact ⟨_, _, hm⟩
     clear hK K)
  refine goesI_regionEnd (dt_idle _ _) ?_
  refine goesI_seq (dt_idle _ _) ?_
  refine goesI_region (dt_idle _ _) ?_
  simp only [List.size_toArray, List.length_cons, List.length_nil, Nat.reduceAdd, Nat.zero_add, List.range, List.range.loop]
  iterate 2
    (refine goesI_oper rfl rfl (by decide) (fun d K hK => ?_)
     go_simp
     refine hK _ _ ⟨dt_reads (fun e he => ?_), GoesI.at ?_ d⟩
     · have hm := mem_listed he
       simp [go_sem, *] at hm
       try exact ⟨_, _, hm⟩
     clear hK K)
  clear e0 hi'
  refine goesI_opZ (L := LT) rfl rfl (by decide) (fineOp_ask callT extT (by kernel_rfl)) hvw hn (v' := { v with heap := v.heap.push (.chan 0 #[] false 0 0 false) }) (x := .chan (some v.heap.size)) (by go_simp; rw [run_mk]; rfl) rfl (fun w2 hr2 hn2 => ?_)
  iterate 1
    (refine goesI_oper rfl rfl (by decide) (fun d K hK => ?_)
     go_simp
     refine hK _ _ ⟨dt_reads (fun e he => ?_), GoesI.at ?_ d⟩
     · have hm := mem_listed he
       simp [go_sem, *] at hm
       try exact ⟨_, _, hm⟩
     clear hK K)
  have hk := hk w2 (fun m => match m with | 7 => I ii | 8 => F | m => u m) hr2 hn2 rfl
  unfold bFr1 R15 R18 HB ops3514 D35 HL B35 Try.f86 seq2 seq1 blockC loopC opsOf at hk
  simp only [Option.getD_some, List.append_toArray, List.cons_append, List.nil_append] at hk
  exact hk
end Go.Proofs.Ytfjjoohflcchnaa

namespace Go.Proofs.Ytfjjoohflcchnaa
open Go Go.Lift Go.Conc Go.RowKit

noncomputable def r15 : Code := seq1 R15
noncomputable def R1617 : Code := seq2 R15
theorem fineR15 : fineCode Try.prog true LT r15 := fineCode_ask callT extT (by kernel_rfl)
/-- What hiring does to the world's list: it grows, and nothing else. -/
def Threaded (wb : Nat) (tv : Value) (n base : Nat) (xs : List Value) (x : Value) (w w' : World) : Prop :=
  ∃ g cap, (∀ c t f, w.heap[wb]? = some (.cells c t f) → w'.heap[wb]? = some (.cells (c.setIfInBounds 4 (.slice (some ⟨g, 0, none⟩) (n + 1) cap)) t f)) ∧
    w'.ownsRow base 46 1 (.slice (some ⟨g, 0, none⟩) (n + 1) cap) (n + 1) (xs ++ [x]) ∧ (tv.ownBlock = some g ∨ w.heap.size ≤ g) ∧ Fr (fun b => b = wb ∨ some b = tv.ownBlock) w w'
theorem threaded_of {wb : Nat} {tv x : Value} {n base : Nat} {xs : List Value} {w u w6 : World} {g cap : Nat} (hb : Below w.heap.size w u) (hw : wb < w.heap.size) (hg : u.grownBy w6 tv.ownBlock) (hown : w6.ownsRow base 46 1 (.slice (some ⟨g, 0, none⟩) (n + 1) cap) (n + 1) (xs ++ [x]))
    (hat : tv.ownBlock = some g ∨ g = u.heap.size) (hne : tv.ownBlock ≠ some wb) : Threaded wb tv n base xs x w (w6.setCell ⟨wb, 4, none⟩ (.slice (some ⟨g, 0, none⟩) (n + 1) cap)) := by
  have hgw : g ≠ wb := by
    rcases hat with h | h
    · exact fun e => hne (by rw [h, e])
    · have := hb.size; omega
  have e6 : w6.heap[wb]? = w.heap[wb]? := (hg.block wb (Nat.lt_of_lt_of_le hw hb.size) (Ne.symm hne)).trans (hb.block wb hw)
  refine ⟨g, cap, fun c t f h => heap_setCell_same (by rw [e6]; exact h) _, own_set hown _ _ (fun e => hgw (Option.some.inj e)), ?_, ?_⟩
  · rcases hat with h | h
    · exact .inl h
    · exact .inr (by have := hb.size; omega)
  · refine ⟨by show w6.os = _; rw [hg.os, hb.os], by show w6.output = _; rw [hg.output, hb.output], ?_, fun b hlt hs => ?_⟩
    · have := hb.size
      have := hg.size
      simp only [World.setCell, Array.size_modify]
      omega
    · rw [Below.heap_setCell _ _ _ _ (fun e => hs (.inl e)), hg.block b (Nat.lt_of_lt_of_le hlt hb.size) (fun e => hs (.inr e)), hb.block b hlt]
theorem keep2g {u u' : World} {row : Option Nat} {a : Addr} {x : Value} (h : u.cell? a = some x ∧ u.frozen? a = false) (hg : u.grownBy u' row) (hr : row ≠ some a.block) : u'.cell? a = some x ∧ u'.frozen? a = false := by
  obtain ⟨_, _, h3, h4⟩ := keep4g (a1 := a) (a2 := a) ⟨h.1, h.1, h.1, h.2⟩ hg hr hr hr
  exact ⟨h3, h4⟩

set_option maxHeartbeats 2000000 in
set_option maxRecDepth 100000 in
theorem r15_wp {v : World} (wb n ii bb gc tb : Nat) (bsl F tv : Value) (k base : Nat) (xs : List Value) (u : Nat → Value) (h4 : v.cell? ⟨wb, 4, none⟩ = some tv) (hf : v.frozen? ⟨wb, 4, none⟩ = false) (hown : v.ownsRow base 46 1 tv k xs) (hne : tv.ownBlock ≠ some wb) (hk : (k + 1) * 8 ≤ 140737488355328) (hbase : base ≤ v.heap.size) :
    r15.wp Try.prog (fun e a w' => e = .normal ∧ (∃ u : Nat → Value, a = { tmps := #[Pt wb 0, bsl, undef, undef, u 4, u 5, u 6, I ii, F, Pt tb 0, u 10, u 11, u 12, u 13, u 14, u 15, u 16, u 17, u 18, u 19, u 20, u 21, u 22, u 23, u 24, u 25, u 26, u 27, u 28, u 29, bsl] ++ #[I n, I ii, .bool true, I ii, Pt bb ii, F, Pt wb 0, I ii, .chan (some gc), .agg (trow wb ii gc 0 0 0 0), Pt tb 0, u 42, u 43, u 44, u 45, u 46, u 47, u 48, u 49, u 50, u 51, u 52, u 53, u 54, u 55, u 56, u 57, u 58, u 59, u 60, u 61], defers := [] }) ∧ Threaded wb tv k base xs (Pt tb 0) v w') { tmps := #[Pt wb 0, bsl, undef, undef, u 4, u 5, u 6, I ii, F, Pt tb 0, u 10, u 11, u 12, u 13, u 14, u 15, u 16, u 17, u 18, u 19, u 20, u 21, u 22, u 23, u 24, u 25, u 26, u 27, u 28, u 29, bsl] ++ #[I n, I ii, .bool true, I ii, Pt bb ii, F, Pt wb 0, I ii, .chan (some gc), .agg (trow wb ii gc 0 0 0 0), Pt tb 0, u 42, u 43, u 44, u 45, u 46, u 47, u 48, u 49, u 50, u 51, u 52, u 53, u 54, u 55, u 56, u 57, u 58, u 59, u 60, u 61], defers := [] } v := by
  have q4 : wb < v.heap.size := World.block_lt_of_cell? _ _ h4
  obtain ⟨tp, tc, htv⟩ := own_form hown
  have HO : Hid (v.ownsRow base 46 1 (.slice tp k tc) k xs) := ⟨by rw [← htv]; exact hown⟩
  have n1 : (Value.slice tp k tc).ownBlock ≠ some wb := by rw [← htv]; exact hne
  have HT : Hid (tv = .slice tp k tc) := ⟨htv⟩
  rw [htv] at h4
  clear hown htv hne
  obtain ⟨j0, hj, hj0, hj1, hj2⟩ := info_parts info46
  have hne : wb ≠ v.heap.size := by omega
  have hne' : v.heap.size ≠ wb := by omega
  have K4 : Hid (v.cell? ⟨wb, 4, none⟩ = some (.slice tp k tc) ∧ v.frozen? ⟨wb, 4, none⟩ = false) := ⟨⟨h4, hf⟩⟩
  show Code.wp Try.prog r15 _ _ _
  unfold r15 R15 HB HL B35 Try.f86 seq1 seq2 blockC loopC
  simp only [Option.getD_some, List.append_toArray, List.cons_append, List.nil_append]
  go_wp2_with (first
    | (refine wpList_append_lies _ rfl (.tmp 46) (.tmp 48) 81 rfl base 46 j0 _ 1 8 Try.underlying81 hj hj0 hj1 hj2 rfl (by decide) (.slice tp k tc) k xs rfl (own_later (below_alloc (Below.refl _ _) _) HO.out) ⟨_, 0, none⟩ 1 1 [Pt tb 0] rfl rfl (news1 _ _ _) (one1 _) (by decide) (by unfold maxLen; omega) (by omega) (by simp; omega) _ rfl ?_
       intro g cpg w6 hown6 hgrow6 hat6 hlt6
       obtain ⟨k5, k6⟩ := keep2g ⟨kcell (below_alloc (Below.refl _ _) _) K4.out.1, by rw [(below_alloc (Below.refl _ _) _).frozen q4]; exact K4.out.2⟩ hgrow6 n1))
  refine ⟨⟨fun m => match m with | 42 => Pt wb 0 | 43 => Pt wb 0 | 44 => Pt wb 0 | 45 => Pt wb 4 | 46 => .slice tp k tc | 47 => Pt tb 0 | 48 => .slice (some ⟨v.heap.size, 0, none⟩) 1 1 | 49 => .slice (some ⟨g, 0, none⟩) (k + 1) cpg | 50 => Pt wb 0 | 51 => Pt wb 4 | m => u m, by simp⟩, ?_⟩
  · rw [HT.out]
    exact threaded_of (below_alloc (Below.refl _ _) _) q4 hgrow6 hown6 hat6 n1
end Go.Proofs.Ytfjjoohflcchnaa
