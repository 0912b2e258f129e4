/- LockOne: for every schedule and all scripts, the steps on what the lock guards come in pairs, each pair one thread's, in the order of the tickets; nobody is stuck; each call is told the sum of what was added ahead of it; no conditions. Part 33 of 35. (Joined, by program, of: LokPkg, LokY, LokZ.) -/
import Derived.Test.YtfjjoohflcchnaaLockOne22
import Derived.Test.YtfjjoohflcchnaaLockOne28
set_option linter.unusedSimpArgs false
set_option linter.unusedVariables false
namespace Go.Proofs.Ytfjjoohflcchnaa.Gen
open Go Go.Lift Go.Conc Go.RowKit

section
variable {X : Fix mcLock} {z : Nat → Option Nat} {cont : Addr → Value} {Ch : Nat → Prop} {Stop : Goroutine → World → Prop} {cu : Value → Goroutine} {S0 : TS} {K0 : List (Nat × Int)} {v0 : World} {Mo0 : Nat → Option Obj} {σ : TS} {κ : List (Nat × Int)} {S : TS} {v w : World} {t : Thr} {H : Nx → (Nat → Option Obj) → Goroutine → Prop} {xl xx lb gb c0 c1 pb ab qb : Nat} {o : Obj} {c61 : Value → Goroutine} {f : Frs} {a : Int}

/-- addTo is entered. -/
theorem lok_add (C : KCall X cu xl xx lb gb c0 c1 pb ab qb o c61 a) (hf : AF (X.h == 0) f c61 ab) (hH : ∀ x Mo' g, Good v0 Mo0 x Mo' → lokSit X x Mo' cu g → H x Mo' g) (hob : Ob X H z cont Ch Stop cu S0 K0 v0 Mo0 σ κ (.turn 1 2 (2, [a]))) (N : Now X z cont Ch S0 K0 v0 Mo0 (tri pb ab qb o) σ κ S v w t) (code : Code) (hc : Try.f94.body = some code) :
    GoesI Try.prog (X.h == 0) (DT (ScZ z) Ch) Stop (G ((base 94).at { tmps := #[Pt lb 0, Pt X.tb 0, Pt gb 0, I a] ++ Array.replicate 18 undef, defers := [] } [.code code]) (f.top :: f.fs)) w := by
  rw [← N.at_.tb]
  exact addTo_in (h := X.h) (i := X.i) (j := 2) a _ _ (H (.turn 1 2 (2, [a])) (tri pb ab qb o)) (fun g u hg => hH _ _ g (N.good (fun _ _ h => by cases h)) ⟨xl, xx, lb, gb, c0, c1, pb, ab, qb, o, c61, f, a, C, rfl, .inr (.inr ⟨hf, .inl ⟨u, rfl, by rw [← N.at_.tb]; exact hg⟩⟩)⟩) N.at_.rel N.at_.noRow N.at_.mem N.at_.thr (N.cell C.mine.k2).1 (by rw [N.at_.tb]; exact N.at_.z) (by rw [N.at_.tb, N.at_.gc]; exact N.at_.cont) (ob_turn hob N) code hc
/-- It has the lock. -/
theorem lok_got (C : KCall X cu xl xx lb gb c0 c1 pb ab qb o c61 a) {cx : Goroutine} (hT : TBack (X.h == 0) qb ab lb gb X.tb cx c61) (hH : ∀ x Mo' g, Good v0 Mo0 x Mo' → lokSit X x Mo' cu g → H x Mo' g) (hob : Ob X H z cont Ch Stop cu S0 K0 v0 Mo0 σ κ (.turn 1 2 (2, [a]))) (N : Now X z cont Ch S0 K0 v0 Mo0 (tri pb ab qb o) σ κ S v w t) :
    GoesI Try.prog (X.h == 0) (DT (ScZ z) Ch) Stop cx w := by
  have hq : v.cell? ⟨qb, 1, none⟩ = some (I a) := by
    obtain ⟨po, n, cc, ho⟩ := C.o
    have := N.mo qb _ (tri_qb C.n1 C.n2)
    rw [ho] at this
    simp [World.cell?, this]
  exact hT z Ch Stop w v a N.at_.rel N.at_.noRow hq (fun w' g r hoe hM code hcode => lok_add (f := g) C ⟨hoe, hM⟩ hH hob (N.same r N.at_.noRow rfl rfl rfl) code hcode)
/-- Lock looks who is called. -/
theorem lok_look (C : KCall X cu xl xx lb gb c0 c1 pb ab qb o c61 a) (hf : KF (X.h == 0) f c61 qb ab lb gb X.tb 4 0) (hH : ∀ x Mo' g, Good v0 Mo0 x Mo' → lokSit X x Mo' cu g → H x Mo' g) (n : Int) (hob : Ob X H z cont Ch Stop cu S0 K0 v0 Mo0 σ κ (.turn 1 1 (1, [a, n]))) (N : Now X z cont Ch S0 K0 v0 Mo0 (tri pb ab qb o) σ κ S v w t) (u : Nat → Value) :
    GoesI Try.prog (X.h == 0) (DT (ScZ z) Ch) Stop (G (kFr lb X.tb n u) (f.top :: f.fs)) w := by
  rw [← N.at_.tb]
  exact lock_loop (h := X.h) (i := X.i) (j := 1) (cb := c1) n _ u _ (H (.turn 1 1 (1, [a, n])) (tri pb ab qb o)) (fun g hg => hH _ _ g (N.good (fun _ _ h => by cases h)) ⟨xl, xx, lb, gb, c0, c1, pb, ab, qb, o, c61, f, a, C, rfl, .inl ⟨hf, .inr (.inl ⟨n, u, rfl, by rw [← N.at_.tb]; exact hg⟩)⟩⟩) (C.mine.mem v N.at_.pk).2.2.2 N.at_.rel N.at_.noRow N.at_.mem N.at_.thr (N.cell C.mine.k1).1 (by rw [N.at_.tb]; exact N.at_.z) (by rw [N.at_.tb, N.at_.gc]; exact N.at_.cont) (ob_turn hob N)
/-- It has seen that x is called. -/
theorem lok_seen (C : KCall X cu xl xx lb gb c0 c1 pb ab qb o c61 a) (hf : KF (X.h == 0) f c61 qb ab lb gb X.tb 4 0) (hH : ∀ x Mo' g, Good v0 Mo0 x Mo' → lokSit X x Mo' cu g → H x Mo' g) (n x : Int) (hob : Ob X H z cont Ch Stop cu S0 K0 v0 Mo0 σ κ (if x = n then .turn 1 2 (2, [a]) else .wait 1 (6, [a, n]))) (N : Now X z cont Ch S0 K0 v0 Mo0 (tri pb ab qb o) σ κ S v w t) (u : Nat → Value) :
    GoesI Try.prog (X.h == 0) (DT (ScZ z) Ch) Stop (G (kSeen lb c1 X.tb n u (I x)) (f.top :: f.fs)) w := by
  by_cases hx : x = n
  · subst hx
    rw [if_pos rfl] at hob
    exact lock_got (bc := f.bd) (ac := f.ad) (ops := f.od) (q := f.qd) (rest := f.rd) (oc := f.oe) (k := f.kd) x u f.fs hf.oe N.at_.rel N.at_.noRow (fun v2 w2 r2 n2 e1 e2 e3 => lok_got C hf.yes hH hob (N.same r2 n2 e1 e2 e3))
  · rw [if_neg hx] at hob
    refine lock_more (j := 1) n x hx _ u _ (C.mine.mem v N.at_.pk).2.2.2 N.at_.rel N.at_.noRow N.at_.mem (N.cell C.mine.k1).1 (fun v' w' bd ad od qd rd oe kd r n' e hoe hfr code hcode => ?_)
    have N' := N.on e r n' N.nv N.at_.thr N.at_.tb N.at_.gc rfl
    cases hs : S.stk with
    | true =>
      have := await_no (i := X.i) (main := X.h == 0) (Ch := Ch) (Stop := Stop) ((1 : Nat) : Int) (f.top :: f.fs) hoe N'.at_.rel N'.at_.noRow N'.at_.mem hs N'.at_.thr (fun v2 w2 r2 n2 e2 => by
        rw [hfr]
        have N2 := N'.on e2 r2 n2 N'.nv N'.at_.thr N'.at_.tb N'.at_.gc rfl
        exact lock_no (bc := f.bd) (ac := f.ad) (ops := f.od) (q := f.qd) (rest := f.rd) (oc := f.oe) (k := f.kd) n _ f.fs hf.oe r2 n2 (fun v3 w3 r3 n3 e1 e2 e3 => lok_ans C 4 0 hf.no hob (.inr ⟨1, (6, [a, n]), rfl, by rw [← N.nv]; exact hs, rfl⟩) (N2.same r3 n3 e1 e2 e3))) code hcode
      rw [N'.at_.tb] at this
      exact this
    | false =>
      have ee : (fun r => G (bd.at (ad.put oe.dst r) (.inRegion od rd :: kd)) (f.top :: f.fs)) = (fun r => G (kWoke lb X.tb n (kVal lb c1 X.tb n x 1 u) r) (f.top :: f.fs)) := funext fun r => by rw [hfr]
      have := await_goes (h := X.h) (cont := cont) (i := X.i) (Stop := Stop) ((1 : Nat) : Int) (f.top :: f.fs) (H (.wait 1 (6, [a, n])) (tri pb ab qb o)) hoe (fun g hg => hH _ _ g (N'.good (fun _ _ h => by cases h)) ⟨xl, xx, lb, gb, c0, c1, pb, ab, qb, o, c61, f, a, C, rfl, .inl ⟨hf, .inr (.inr ⟨n, kVal lb c1 X.tb n x 1 u, rfl, by rw [← ee, ← N'.at_.tb]; exact hg⟩)⟩⟩) N'.at_.rel N'.at_.noRow N'.at_.mem hs N'.at_.thr (by rw [N'.at_.tb]; exact N'.at_.z) (by rw [N'.at_.tb, N'.at_.gc]; exact N'.at_.cont) (ob_wait hob hs N') code hcode
      rw [N'.at_.tb] at this
      exact this
end

set_option maxHeartbeats 1000000 in
noncomputable def pkgLock : Pkg mcLock 66 where
  fn := Try.f66
  code := Try.f66.body.getD .skip
  hf := Try.func66
  hname := by kernel_rfl
  hcode := rfl
  Mine X := ∃ xl xx lb gb c0 c1, KMine X xl xx lb gb c0 c1
  Sit := lokSit
  start := by
    rintro X ok ⟨xl, xx, lb, gb, c0, c1, hm⟩ hfid c hc cs bc ac ops q rest oc k hoc H z cont Ch Stop S K v w t A hH hob
    rw [hm.caps]
    show GoesI Try.prog (X.h == 0) (DT (ScZ z) Ch) Stop (G ((base 66).at { tmps := #[Pt X.tb 0, .agg #[I c.po, I c.ca, I c.cb, I c.cc], Pt xl 0, Pt xx 0] ++ Array.replicate 8 undef, defers := [] } [.code (Try.f66.body.getD .skip)]) (bc.at ac (.inRegion ops (q :: rest) :: k) :: cs)) w
    refine lclo_goes c.po c.ca c.cb c.cc (hm.mem v A.pk).1 (hm.mem v A.pk).2.1 cs hoc A.rel A.noRow (fun v1 w1 bd ad od qd rd oe kd hr hn hg hbox hoe hL code hcode => ?_) _ rfl
    have hlt : v.heap.size + 1 < v1.heap.size := (Array.getElem?_eq_some_iff.1 hbox).1
    -- the call is entered, its own memory made
    have now : ∀ (v2 w2 : World), Rel z v2 w2 → NoRow Ch v2 → Grows v1 v2 → v2.heap[v1.heap.size + 1]? = some box0 → v2.heap[v1.heap.size]? = some (.cells #[I c.po, I c.ca, I c.cb, I c.cc] 39 (0, 0)) →
        Now X z cont Ch S K v (fun _ => none) (tri (v.heap.size + 1) (v1.heap.size + 1) v1.heap.size (.cells #[I c.po, I c.ca, I c.cb, I c.cc] 39 (0, 0))) (Gen.nv S) K S v2 w2 t := fun v2 w2 r2 n2 g2 h1 h2 => by
      have g12 : Grows v v2 := hg.trans' g2
      refine ⟨⟨r2, n2, (A.mem.grows g12).mem, A.thr, A.tb, A.gc, A.kb, A.z, A.cont, fun b o hb => ?_, A.far⟩, Evo.toP (A.mem.grows g12), rfl, rfl, fun b o hb => ?_, fun b hb ho => ?_, fun b hb => ?_, tri_row ⟨_, _, _, rfl⟩⟩
      · have h1 := A.pk b o hb
        rw [g12.old b (Array.getElem?_eq_some_iff.1 h1).1]; exact h1
      · have e := tri_eq (b := b) (by rw [hb]; simp)
        rcases e with e | e | e
        · subst e
          rw [tri_pb] at hb
          cases hb
          rw [g2.old _ hlt]; exact hbox
        · subst e
          rw [tri_ab] at hb
          cases hb
          exact h1
        · subst e
          rw [tri_qb (by omega) (by omega)] at hb
          cases hb
          exact h2
      · have e := tri_eq hb
        have := A.mem.lt ho
        omega
      · have e := tri_eq hb
        exact .inr (by omega)
    have C : KCall X (fun r => G (bc.at (ac.put oc.dst r) (.inRegion ops rest :: k)) cs) xl xx lb gb c0 c1 (v.heap.size + 1) (v1.heap.size + 1) v1.heap.size (.cells #[I c.po, I c.ca, I c.cb, I c.cc] 39 (0, 0)) (fun r => G (bd.at (ad.put oe.dst r) (.inRegion od rd :: kd)) (bc.at ac (.inRegion ops (q :: rest) :: k) :: cs)) c.ca := ⟨hm, hL, by omega, by omega, by omega, _, _, _, rfl⟩
    by_cases h1 : c.po = 1
    · have es : mcLock.start c = .turn 5 0 (0, [c.ca]) := by simp [mcLock, h1]
      rw [es] at hob
      rw [h1] at now C ⊢
      refine lcall_lock c.ca c.cb c.cc _ hoe hr hn (fun v2 w2 f r2 n2 g2 k1 k2 hfo hno hyes code2 hcode2 => ?_) code hcode
      have N := now v2 w2 r2 n2 g2 k1 k2
      have := lock_in (h := X.h) (i := X.i) (j := 0) (cb := c0) (cont := cont) _ (f.top :: f.fs) (H (.turn 5 0 (0, [c.ca])) _) (fun g hg => hH _ _ g (N.good (fun _ _ h => by cases h)) ⟨xl, xx, lb, gb, c0, c1, _, _, _, _, _, f, c.ca, C, rfl, .inl ⟨⟨hfo, hno, hyes⟩, .inl ⟨rfl, by rw [← N.at_.tb]; exact hg⟩⟩⟩) (hm.mem v2 N.at_.pk).2.2.1 N.at_.rel N.at_.noRow N.at_.mem N.at_.thr (N.cell hm.k0).1 (by rw [N.at_.tb]; exact N.at_.z) (by rw [N.at_.tb, N.at_.gc]; exact N.at_.cont) (ob_turn hob N) code2 hcode2
      rw [N.at_.tb] at this
      exact this
    · by_cases h2 : c.po = 2
      · have es : mcLock.start c = .turn 1 1 (5, [c.ca]) := by simp [mcLock, h2]
        rw [es] at hob
        rw [h2] at now C ⊢
        refine lcall_try c.ca c.cb c.cc _ hoe hr hn (fun v2 w2 f r2 n2 g2 k1 k2 hfo hno hyes code2 hcode2 => ?_) code hcode
        have N := now v2 w2 r2 n2 g2 k1 k2
        have := try_in (h := X.h) (i := X.i) (j := 1) (cb := c1) (cont := cont) _ (f.top :: f.fs) (H (.turn 1 1 (5, [c.ca])) _) (fun g hg => hH _ _ g (N.good (fun _ _ h => by cases h)) ⟨xl, xx, lb, gb, c0, c1, _, _, _, _, _, f, c.ca, C, rfl, .inr (.inl ⟨⟨hfo, hno, hyes⟩, .inl ⟨rfl, by rw [← N.at_.tb]; exact hg⟩⟩)⟩) (hm.mem v2 N.at_.pk).2.2.2 N.at_.rel N.at_.noRow N.at_.mem N.at_.thr (N.cell hm.k1).1 (by rw [N.at_.tb]; exact N.at_.z) (by rw [N.at_.tb, N.at_.gc]; exact N.at_.cont) (ob_turn hob N) code2 hcode2
        rw [N.at_.tb] at this
        exact this
      · have es : mcLock.start c = .ans 1 0 := by simp [mcLock, h1, h2]
        rw [es] at hob
        refine lcall_none c.po c.ca c.cb c.cc h1 h2 _ hoe hr hn (fun v2 w2 r2 n2 g2 => ?_) code hcode
        have g12 : Grows v v2 := hg.trans' g2
        have hno : ¬ Own S K (v.heap.size + 1) := fun ho => by have := A.mem.lt ho; omega
        exact hL z Ch Stop w2 v2 S K 1 0 r2 n2 (A.mem.grows g12).mem (by rw [g2.old _ hlt]; exact hbox) hno (fun v3 w3 r3 n3 e3 => hob.ans (1, 0) (.inl rfl) v3 w3 S r3 n3 rfl ((Evo.toP (A.mem.grows g12)).join e3 (fun b hb => .inr (by
          have hb' : b = v.heap.size + 1 := hb
          omega))))
  turn := by
    rintro X ok - hfid op j q Mo cu g ⟨xl, xx, lb, gb, c0, c1, pb, ab, qb, o, c61, f, a, C, rfl, hsit⟩ H z cont Ch Stop y S K v w t A hH hop hce hl hMo hMf hMp hob
    have N0 := Now.here A hMo hMf (tri_row (by obtain ⟨po, n, cc, ho⟩ := C.o; exact ⟨_, _, _, ho⟩))
    have h0 := N0.cell C.mine.k0
    have h1 := N0.cell C.mine.k1
    have h2 := N0.cell C.mine.k2
    have f0 : (cellAt K 0).1 = c0 := by rw [h0.2]
    have f1 : (cellAt K 1).1 = c1 := by rw [h1.2]
    have f2 : (cellAt K 2).1 = gb := by rw [h2.2]
    have sb : ∀ (tv : Value) (b a : Int), (didS S tv X.i t b a).bk = S.bk := fun tv b a => (sta_did (i := X.i) S tv t b a).bk
    rcases hsit with ⟨hf, ⟨hx, hg⟩ | ⟨n, u, hx, hg⟩ | ⟨n, u, hx, hg⟩⟩ | ⟨hf, ⟨hx, hg⟩ | ⟨m, u, hx, hg⟩⟩ | ⟨hf, ⟨u, hx, hg⟩ | ⟨y1, u, hx, hg⟩ | ⟨y1, u, hx, hg⟩⟩
    · cases hx
      refine hg z Ch Stop y w v S K t (cellAt K 0).2 A.rel A.noRow A.mem A.thr A.tb hop hce h0.1 hl (fun v1 w1 tv r1 n1 e1 => ?_)
      have N1 := N0.on e1 r1 n1 (nv_did tv t _ _) (did_thr A.thr) A.tb A.gc (sb _ _ _)
      rw [f0] at hob
      exact lock_ticket _ _ _ (fun u => lok_look C hf hH _ hob N1 u)
    · cases hx
      refine hg z Ch Stop y w v S K t (cellAt K 1).2 A.rel A.noRow A.mem A.thr A.tb hop hce h1.1 hl (fun v1 w1 tv r1 n1 e1 => ?_)
      have N1 := N0.on e1 r1 n1 (nv_did tv t _ _) (did_thr A.thr) A.tb A.gc (sb _ _ _)
      rw [f1] at hob
      exact lok_seen C hf hH n (cellAt K 1).2 hob N1 u
    · cases hx
    · cases hx
      refine hg z Ch Stop y w v S K t (cellAt K 1).2 A.rel A.noRow A.mem A.thr A.tb hop hce h1.1 hl (fun v1 w1 tv r1 n1 e1 => ?_)
      have N1 := N0.on e1 r1 n1 (nv_did tv t _ _) (did_thr A.thr) A.tb A.gc (sb _ _ _)
      rw [f1] at hob
      have := try_draw (h := X.h) (i := X.i) (j := 0) (cb := c0) (nb := c1) (cont := cont) (Stop := Stop) (cellAt K 1).2 _ (fun _ => undef) (f.top :: f.fs) (H (.turn 4 0 (7, [a, (cellAt K 1).2])) (tri pb ab qb o)) (fun g hg => hH _ _ g (N1.good (fun _ _ h => by cases h)) ⟨xl, xx, lb, gb, c0, c1, pb, ab, qb, o, c61, f, a, C, rfl, .inr (.inl ⟨hf, .inr ⟨_, _, rfl, by rw [N1.at_.tb] at hg; exact hg⟩⟩)⟩) (C.mine.mem v1 N1.at_.pk).2.2.1 N1.at_.rel N1.at_.noRow N1.at_.mem N1.at_.thr (N1.cell C.mine.k0).1 (by rw [N1.at_.tb]; exact N1.at_.z) (by rw [N1.at_.tb, N1.at_.gc]; exact N1.at_.cont) (ob_turn hob N1)
      rw [N1.at_.tb] at this
      exact this
    · cases hx
      refine hg z Ch Stop y w v S K t (cellAt K 0).2 A.rel A.noRow A.mem A.thr A.tb hop hce h0.1 hl (fun v1 w1 tv r1 n1 e1 => ?_)
      have N1 := N0.on e1 r1 n1 (nv_did tv t _ _) (did_thr A.thr) A.tb A.gc (sb _ _ _)
      rw [f0] at hob
      have hob : Ob X H z cont Ch Stop cu S K v (tri pb ab qb o) (didS (Gen.nv S) undef X.i t (effCas m (wrap64 (m + 1)) (cellAt K 0).2).1.1 (effCas m (wrap64 (m + 1)) (cellAt K 0).2).1.2) (K.set 0 (c0, (effCas m (wrap64 (m + 1)) (cellAt K 0).2).2.1)) (if (cellAt K 0).2 = m then .turn 1 2 (2, [a]) else .ans 0 (-1)) := hob
      by_cases hx : (cellAt K 0).2 = m
      · rw [if_pos hx] at hob
        rw [show (effCas m (wrap64 (m + 1)) (cellAt K 0).2).2.2 = .bool true by unfold effCas; rw [if_pos hx]]
        exact try_done (bc := f.bd) (ac := f.ad) (ops := f.od) (q := f.qd) (rest := f.rd) (oc := f.oe) (k := f.kd) true u f.fs hf.oe r1 n1 (fun w2 r2 => lok_got C hf.yes hH hob (N1.same r2 n1 rfl rfl rfl))
      · rw [if_neg hx] at hob
        rw [show (effCas m (wrap64 (m + 1)) (cellAt K 0).2).2.2 = .bool false by unfold effCas; rw [if_neg hx]]
        exact try_done (bc := f.bd) (ac := f.ad) (ops := f.od) (q := f.qd) (rest := f.rd) (oc := f.oe) (k := f.kd) false u f.fs hf.oe r1 n1 (fun w2 r2 => lok_ans C 0 (-1) hf.no hob (.inl rfl) (N1.same r2 n1 rfl rfl rfl))
    · cases hx
      refine hg z Ch Stop y w v S K t (cellAt K 2).2 A.rel A.noRow A.mem A.thr A.tb hop hce h2.1 hl (fun v1 w1 tv r1 n1 e1 => ?_)
      have N1 := N0.on e1 r1 n1 (nv_did tv t _ _) (did_thr A.thr) A.tb A.gc (sb _ _ _)
      rw [f2] at hob
      have := addTo_put (h := X.h) (i := X.i) (j := 2) (cb := gb) (lb := lb) (cont := cont) (Stop := Stop) a (cellAt K 2).2 _ u (f.top :: f.fs) (H (.turn 2 2 (3, [a, (cellAt K 2).2])) (tri pb ab qb o)) (fun g u hg => hH _ _ g (N1.good (fun _ _ h => by cases h)) ⟨xl, xx, lb, gb, c0, c1, pb, ab, qb, o, c61, f, a, C, rfl, .inr (.inr ⟨hf, .inr (.inl ⟨_, u, rfl, by rw [N1.at_.tb] at hg; exact hg⟩)⟩)⟩) N1.at_.rel N1.at_.noRow N1.at_.mem N1.at_.thr (N1.cell C.mine.k2).1 (by rw [N1.at_.tb]; exact N1.at_.z) (by rw [N1.at_.tb, N1.at_.gc]; exact N1.at_.cont) (ob_turn hob N1)
      rw [N1.at_.tb] at this
      exact this
    · cases hx
      refine hg z Ch Stop y w v S K t (cellAt K 2).2 A.rel A.noRow A.mem A.thr A.tb hop hce h2.1 hl (fun v1 w1 tv r1 n1 e1 => ?_)
      have N1 := N0.on e1 r1 n1 (nv_did tv t _ _) (did_thr A.thr) A.tb A.gc (sb _ _ _)
      rw [f2] at hob
      have := addTo_free (h := X.h) (i := X.i) (j := 1) (cb := c1) (gb := gb) (lb := lb) (cont := cont) (Stop := Stop) a y1 _ u (.tuple #[]) (f.top :: f.fs) (H (.turn 5 1 (4, [y1])) (tri pb ab qb o)) (fun g u hg => hH _ _ g (N1.good (fun _ _ h => by cases h)) ⟨xl, xx, lb, gb, c0, c1, pb, ab, qb, o, c61, f, a, C, rfl, .inr (.inr ⟨hf, .inr (.inr ⟨y1, u, rfl, by rw [N1.at_.tb] at hg; exact hg⟩)⟩)⟩) (C.mine.mem v1 N1.at_.pk).2.2.2 N1.at_.rel N1.at_.noRow N1.at_.mem N1.at_.thr (N1.cell C.mine.k1).1 (by rw [N1.at_.tb]; exact N1.at_.z) (by rw [N1.at_.tb, N1.at_.gc]; exact N1.at_.cont) (ob_turn hob N1)
      rw [N1.at_.tb] at this
      exact this
    · cases hx
      refine hg z Ch Stop y w v S K t (cellAt K 1).2 A.rel A.noRow A.mem A.thr A.tb hop hce h1.1 hl (fun v1 w1 tv r1 n1 e1 => ?_)
      have N1 := N0.on e1 r1 n1 (nv_did tv t _ _) (did_thr A.thr) A.tb A.gc (sb _ _ _)
      rw [f1] at hob
      exact addTo_out (bc := f.bd) (ac := f.ad) (ops := f.od) (q := f.qd) (rest := f.rd) (oc := f.oe) (k := f.kd) a y1 u _ f.fs hf.oe r1 n1 (fun w2 r2 => lok_ans C 0 y1 (hf.back y1) hob (.inl rfl) (N1.same r2 n1 rfl rfl rfl))
  wake := by
    rintro X ok - hfid j q Mo cu g ⟨xl, xx, lb, gb, c0, c1, pb, ab, qb, o, c61, f, a, C, rfl, hsit⟩ H z cont Ch Stop y S K v w t A hH hl hMo hMf hMp hob1 hob2
    have N0 := Now.here A hMo hMf (tri_row (by obtain ⟨po, n, cc, ho⟩ := C.o; exact ⟨_, _, _, ho⟩))
    rcases hsit with ⟨hf, ⟨hx, hg⟩ | ⟨n, u, hx, hg⟩ | ⟨n, u, hx, hg⟩⟩ | ⟨hf, ⟨hx, hg⟩ | ⟨m, u, hx, hg⟩⟩ | ⟨hf, ⟨u, hx, hg⟩ | ⟨y1, u, hx, hg⟩ | ⟨y1, u, hx, hg⟩⟩
    · cases hx
    · cases hx
    · cases hx
      refine hg z Ch Stop y w v S K t A.rel A.noRow A.mem A.thr A.tb hl (fun v1 w1 tv hs r1 n1 e1 => ?_) (fun v1 w1 hs r1 n1 e1 => ?_)
      · have N1 := N0.on e1 r1 n1 rfl A.thr A.tb A.gc rfl
        exact lock_again n u _ (fun u => lok_look C hf hH n (hob2 hs) N1 u)
      · have N1 := N0.on e1 r1 n1 rfl A.thr A.tb A.gc rfl
        exact lock_no (bc := f.bd) (ac := f.ad) (ops := f.od) (q := f.qd) (rest := f.rd) (oc := f.oe) (k := f.kd) n u f.fs hf.oe r1 n1 (fun v2 w2 r2 n2 e1 e2 e3 => lok_ans C 4 0 hf.no (hob1 hs) (.inl rfl) (N1.same r2 n2 e1 e2 e3))
    · cases hx
    · cases hx
    · cases hx
    · cases hx
    · cases hx
end Go.Proofs.Ytfjjoohflcchnaa.Gen

namespace Go.Proofs.Ytfjjoohflcchnaa.Gen
open Go Go.Lift Go.Conc Go.RowKit

set_option maxHeartbeats 2000000 in
set_option maxRecDepth 100000 in
theorem body35 {v : World} {S : TS} (hm : Mem zn S [] v) (hch : S.chg = []) : Body Try.f37 #[Pt S.wb 0] v (fun r v' => ∃ lb c0 c1, r = Pt lb 0 ∧ v'.heap.size = lb + 1 ∧ ∃ S1, Objs v S [0, 0] (padd (fun _ => none) lb (.cells #[Pt c0 0, Pt c1 0] 104)) S1 [(c0, 0), (c1, 0)] v') := by
  intro code hb
  obtain rfl := Option.some.inj hb
  clear hb
  have H1 : Hid (Calls Try.prog 21 #[Pt S.wb 0, I 0] v (fun e w1 => ∃ c0, e = .returned (Pt c0 0) ∧ Hid (Calls Try.prog 21 #[Pt S.wb 0, I 0] w1 (fun e w2 => ∃ c1, e = .returned (Pt c1 0) ∧ Hid (∀ u, u.heap = w2.heap.push (.cells #[Pt c0 0, Pt c1 0] 104) → u.os = w2.os → u.output = w2.output → ∃ S1, Objs v S [0, 0] (padd (fun _ => none) w2.heap.size (.cells #[Pt c0 0, Pt c1 0] 104)) S1 [(c0, 0), (c1, 0)] u))))) := ⟨((Objs.start hm hch).cell 0 (by decide)).mono (by
    rintro e w1 ⟨c0, rfl, hs, S1, o1⟩
    refine ⟨c0, rfl, ⟨(o1.cell 0 (by simp)).mono ?_⟩⟩
    rintro e w2 ⟨c1, rfl, hs2, S2, o2⟩
    exact ⟨c1, rfl, ⟨fun u e e1 e2 => ⟨S2, o2.push e e1 e2⟩⟩⟩)⟩
  clear hm hch
  simp only [Try.ntmps37, List.size_toArray, List.length_cons, List.length_nil, Nat.reduceAdd, Nat.reduceSub, Array.replicate_succ, Array.replicate_zero, List.push_toArray, List.append_toArray, List.nil_append, List.cons_append]
  go_wp2_with (first
    | (go_at_call 21; refine H1.out.mono ?_; rintro e w1 ⟨c0, rfl, H2⟩)
    | (go_at_call 21; refine H2.out.mono ?_; rintro e w2 ⟨c1, rfl, H3⟩))
  go_ret
  exact ⟨_, rfl, w2.heap.size, c0, c1, rfl, by show (w2.heap.push _).size = _; exact Array.size_push _, H3.out _ rfl rfl rfl⟩

noncomputable def B31 : Code := Try.f33.body.getD .skip
noncomputable def k310 : Code := seq1 B31
noncomputable def k311 : Code := seq1 (seq2 B31)
noncomputable def k312 : Code := seq1 (seq2 (seq2 B31))
noncomputable def k313 : Code := seq1 (seq2 (seq2 (seq2 B31)))
noncomputable def R31 : Code := seq2 (seq2 (seq2 (seq2 B31)))
theorem eB31 : B31 = .seq k310 (.seq k311 (.seq k312 (.seq k313 R31))) := by kernel_rfl
theorem fine310 : fineCode Try.prog true LV k310 := fineCode_askS callV extT (by kernel_rfl)
theorem fine311 : fineCode Try.prog true LV k311 := fineCode_askS callV extT (by kernel_rfl)
theorem fine312 : fineCode Try.prog true LV k312 := fineCode_askS callV extT (by kernel_rfl)
theorem fine313 : fineCode Try.prog true LV k313 := fineCode_askS callV extT (by kernel_rfl)

section
variable {S : TS} {v : World} {wb n cap : Nat} {p : Option Addr}
set_option maxHeartbeats 2000000 in
set_option maxRecDepth 100000 in
theorem k310_wp (x1 : Value) :
    k310.wp Try.prog (fun e a w' => e = .normal ∧ a = { tmps := #[Pt wb 0, x1, undef, undef, .slice none 0 0, I 0] ++ Array.replicate 17 undef, defers := [] } ∧ w'.heap = v.heap ∧ w'.os = v.os ∧ w'.output = v.output)
      { tmps := #[Pt wb 0, x1] ++ Array.replicate 21 undef, defers := [] } v := by
  show Code.wp Try.prog (seq1 (Try.f33.body.getD .skip)) _ _ _
  unfold Try.f33 seq1
  simp only [Option.getD_some, Array.replicate_succ, Array.replicate_zero, List.push_toArray, List.append_toArray, List.nil_append, List.cons_append]
  go_wp2_with fail
  try exact ⟨rfl, rfl, rfl⟩

set_option maxHeartbeats 2000000 in
set_option maxRecDepth 100000 in
theorem k311_no (h : Rep zn S v) (pc : Nat → Option Addr) (ln cp : Nat → Nat) (hs : ∀ k, k < n → ∃ sb so, p = some ⟨sb, so, none⟩ ∧ v.cell? ⟨sb, so + k, none⟩ = some (.slice (pc k) (ln k) (cp k))) (hn : n ≤ 17592186043904) (hr : S.ran = false) {E : Int} (hE : Refused n ln E) :
    k311.wp Try.prog (fun e a w' => e = .ret ∧ ∃ x, (results Try.f33 a.tmps).run Try.prog w' = .ok x w' ∧ x = .tuple #[.slice none 0 0, I E] ∧ w'.heap = v.heap ∧ w'.os = v.os ∧ w'.output = v.output)
      { tmps := #[Pt S.wb 0, .slice p n cap, undef, undef, .slice none 0 0, I 0] ++ Array.replicate 17 undef, defers := [] } v := by
  have h19 := (body19 h p n cap hn pc ln cp hs).calls Try.func53 rfl
  have H19 : Hid (Calls Try.prog 53 #[Pt S.wb 0, .slice p n cap] v (fun e w' => e = .returned (I E) ∧ w' = v)) := ⟨h19.mono (by
    rintro e w' ⟨r, rfl, rfl, ⟨hk, rfl⟩ | ⟨hk, rfl⟩⟩
    · rcases hE with ⟨_, rfl⟩ | ⟨h1, _⟩
      · exact ⟨rfl, rfl⟩
      · obtain ⟨k, k1, k2⟩ := hk
        exact absurd (h1 k k1) (by omega)
    · rcases hE with ⟨⟨k, k1, k2⟩, _⟩ | ⟨_, h1, rfl⟩
      · exact absurd (hk k k1) (by omega)
      · refine ⟨?_, rfl⟩
        unfold checkE
        rw [if_pos (h1.imp_right .inl)])⟩
  have hE0 : ¬ E = 0 := by rcases hE with ⟨_, rfl⟩ | ⟨_, _, rfl⟩ <;> decide
  clear h19 h hs hn hr hE
  show Code.wp Try.prog (seq1 (seq2 (Try.f33.body.getD .skip))) _ _ _
  unfold Try.f33 seq1 seq2
  simp only [Option.getD_some, Array.replicate_succ, Array.replicate_zero, List.push_toArray, List.append_toArray, List.nil_append, List.cons_append]
  go_wp2_with (first
    | (go_at_call 53; refine H19.out.mono ?_; rintro e w1 ⟨rfl, rfl⟩))
  exact results_tmp2 (t := 4) (u := 5) rfl _ _ _

set_option maxHeartbeats 2000000 in
set_option maxRecDepth 100000 in
theorem k311_yes (h : Rep zn S v) (pc : Nat → Option Addr) (ln cp : Nat → Nat) (hs : ∀ k, k < n → ∃ sb so, p = some ⟨sb, so, none⟩ ∧ v.cell? ⟨sb, so + k, none⟩ = some (.slice (pc k) (ln k) (cp k))) (hln : ∀ k, k < n → ln k ≤ 64) (hn : 0 < n ∧ n ≤ 8) (hr : S.ran = false) :
    k311.wp Try.prog (fun e a w' => e = .normal ∧ a = { tmps := #[Pt S.wb 0, .slice p n cap, undef, undef, .slice none 0 0, I 0, I 0, undef, undef, Pt S.wb 0, .slice p n cap, I 0, I 0, .bool false] ++ Array.replicate 9 undef, defers := [] } ∧ w'.heap = v.heap ∧ w'.os = v.os ∧ w'.output = v.output)
      { tmps := #[Pt S.wb 0, .slice p n cap, undef, undef, .slice none 0 0, I 0] ++ Array.replicate 17 undef, defers := [] } v := by
  have h19 := (body19 h p n cap (by omega) pc ln cp hs).calls Try.func53 rfl
  have he : checkE n S.ran = 0 := by unfold checkE; rw [if_neg (by rw [hr]; rintro (h | h | h) <;> first | omega | cases h)]
  have H19 : Hid (Calls Try.prog 53 #[Pt S.wb 0, .slice p n cap] v (fun e w' => e = .returned (I 0) ∧ w' = v)) := ⟨h19.mono (by
    rintro e w' ⟨r, rfl, rfl, ⟨⟨k, hk, h1⟩, _⟩ | ⟨_, rfl⟩⟩
    · exact absurd (hln k hk) (by omega)
    · rw [he]; exact ⟨rfl, rfl⟩)⟩
  clear h19 h hs hln hn hr he
  show Code.wp Try.prog (seq1 (seq2 (Try.f33.body.getD .skip))) _ _ _
  unfold Try.f33 seq1 seq2
  simp only [Option.getD_some, Array.replicate_succ, Array.replicate_zero, List.push_toArray, List.append_toArray, List.nil_append, List.cons_append]
  go_wp2_with (first
    | (go_at_call 53; refine H19.out.mono ?_; rintro e w1 ⟨rfl, rfl⟩))
  try exact ⟨rfl, rfl, rfl⟩

set_option maxHeartbeats 2000000 in
set_option maxRecDepth 100000 in
theorem k312_wp (hm : Mem zn S [] v) (hch : S.chg = []) (x1 : Value) :
    k312.wp Try.prog (fun e a w' => e = .normal ∧ ∃ lb c0 c1, a = { tmps := #[Pt S.wb 0, x1, undef, undef, .slice none 0 0, I 0, I 0, Pt (lb + 1) 0, undef, Pt S.wb 0, x1, I 0, I 0, .bool false, undef, Pt S.wb 0, Pt lb 0] ++ Array.replicate 6 undef, defers := [] } ∧ ∃ S1, Objs v S [0, 0] (padd (padd (fun _ => none) lb (.cells #[Pt c0 0, Pt c1 0] 104)) (lb + 1) (.cells #[Pt lb 0] 61)) S1 [(c0, 0), (c1, 0)] w')
      { tmps := #[Pt S.wb 0, x1, undef, undef, .slice none 0 0, I 0, I 0, undef, undef, Pt S.wb 0, x1, I 0, I 0, .bool false] ++ Array.replicate 9 undef, defers := [] } v := by
  have H1 : Hid (Calls Try.prog 37 #[Pt S.wb 0] v (fun e w' => ∃ lb c0 c1, e = .returned (Pt lb 0) ∧ w'.heap.size = lb + 1 ∧ Hid (∀ u, u.heap = w'.heap.push (.cells #[Pt lb 0] 61) → u.os = w'.os → u.output = w'.output → ∃ S1, Objs v S [0, 0] (padd (padd (fun _ => none) lb (.cells #[Pt c0 0, Pt c1 0] 104)) (lb + 1) (.cells #[Pt lb 0] 61)) S1 [(c0, 0), (c1, 0)] u))) := ⟨((body35 hm hch).calls Try.func37 rfl).mono (by
    rintro e w' ⟨r, rfl, lb, c0, c1, rfl, hs, S1, o⟩
    refine ⟨lb, c0, c1, rfl, hs, ⟨fun u e e1 e2 => ⟨S1, ?_⟩⟩⟩
    have := o.push e e1 e2
    rw [hs] at this
    exact this)⟩
  clear hm hch
  show Code.wp Try.prog (seq1 (seq2 (seq2 (Try.f33.body.getD .skip)))) _ _ _
  unfold Try.f33 seq1 seq2
  simp only [Option.getD_some, Array.replicate_succ, Array.replicate_zero, List.push_toArray, List.append_toArray, List.nil_append, List.cons_append]
  go_wp2_with (first
    | (go_at_call 37; refine H1.out.mono ?_; rintro e w1 ⟨lb, c0, c1, rfl, hs, H2⟩))
  exact ⟨c0, c1, H2.out _ rfl rfl rfl⟩

set_option maxHeartbeats 2000000 in
set_option maxRecDepth 100000 in
theorem k313_wp {v0 : World} {pk : Nat → Option Obj} {S1 : TS} {c0 c1 : Nat} (o : Objs v0 S [0, 0] pk S1 [(c0, 0), (c1, 0)] v) (x1 : Value) (lb : Nat) :
    k313.wp Try.prog (fun e a w' => e = .normal ∧ ∃ gb xx, a = { tmps := #[Pt S.wb 0, x1, undef, undef, .slice none 0 0, I 0, I 0, Pt (lb + 1) 0, Pt xx 0, Pt S.wb 0, x1, I 0, I 0, .bool false, undef, Pt S.wb 0, Pt lb 0, Pt S.wb 0, Pt gb 0] ++ Array.replicate 4 undef, defers := [] } ∧ v.heap.size ≤ xx ∧ ∃ S1, Objs v0 S [0, 0, 0] (padd pk xx (.cells #[Pt gb 0] 44)) S1 [(c0, 0), (c1, 0), (gb, 0)] w')
      { tmps := #[Pt S.wb 0, x1, undef, undef, .slice none 0 0, I 0, I 0, Pt (lb + 1) 0, undef, Pt S.wb 0, x1, I 0, I 0, .bool false, undef, Pt S.wb 0, Pt lb 0] ++ Array.replicate 6 undef, defers := [] } v := by
  have H1 : Hid (Calls Try.prog 21 #[Pt S.wb 0, I 0] v (fun e w' => ∃ gb, e = .returned (Pt gb 0) ∧ v.heap.size ≤ w'.heap.size ∧ Hid (∀ u, u.heap = w'.heap.push (.cells #[Pt gb 0] 44) → u.os = w'.os → u.output = w'.output → ∃ S1, Objs v0 S [0, 0, 0] (padd pk w'.heap.size (.cells #[Pt gb 0] 44)) S1 [(c0, 0), (c1, 0), (gb, 0)] u))) := ⟨(o.cell 0 (by decide)).mono (by
    rintro e w' ⟨gb, rfl, hs, S2, o2⟩
    exact ⟨gb, rfl, hs, ⟨fun u e e1 e2 => ⟨S2, o2.push e e1 e2⟩⟩⟩)⟩
  clear o
  show Code.wp Try.prog (seq1 (seq2 (seq2 (seq2 (Try.f33.body.getD .skip))))) _ _ _
  unfold Try.f33 seq1 seq2
  simp only [Option.getD_some, Array.replicate_succ, Array.replicate_zero, List.push_toArray, List.append_toArray, List.nil_append, List.cons_append]
  go_wp2_with (first
    | (go_at_call 21; refine H1.out.mono ?_; rintro e w1 ⟨gb, rfl, hs, H2⟩))
  exact ⟨gb, w1.heap.size, ⟨rfl, rfl⟩, hs, H2.out _ rfl rfl rfl⟩
end

/-- What the lock's threads read. -/
def QLock (caps : Array Value) (pk : Nat → Option Obj) (K : List (Nat × Int)) : Prop :=
  ∃ lb xx c0 c1 gb, caps = #[Pt (lb + 1) 0, Pt xx 0] ∧ lb + 1 < xx ∧ pk = padd (padd (padd (fun _ => none) lb (.cells #[Pt c0 0, Pt c1 0] 104)) (lb + 1) (.cells #[Pt lb 0] 61)) xx (.cells #[Pt gb 0] 44) ∧ K = [(c0, 0), (c1, 0), (gb, 0)]
theorem mineLock (caps : Array Value) (pk : Nat → Option Obj) (K : List (Nat × Int)) (h : QLock caps pk K) (X : Fix mcLock) (hf : X.fid = 66) (hc : X.caps = caps) (hp : X.pk = pk) (hk : X.kb = K.map (·.1)) : pkgLock.Mine X := by
  obtain ⟨lb, xx, c0, c1, gb, rfl, hlt, rfl, rfl⟩ := h
  refine ⟨lb + 1, xx, lb, gb, c0, c1, hc, fun v hv => ?_, by rw [hk]; rfl, by rw [hk]; rfl, by rw [hk]; rfl⟩
  rw [hp] at hv
  have h1 := hv xx _ (padd_at _ _ _)
  have h2 := hv (lb + 1) (.cells #[Pt lb 0] 61) (by rw [padd_ne (by omega), padd_at])
  have h3 := hv lb (.cells #[Pt c0 0, Pt c1 0] 104) (by rw [padd_ne (by omega), padd_ne (by omega), padd_at])
  exact ⟨cell_of h2 rfl, cell_of h1 rfl, cell_of h3 rfl, cell_of h3 rfl⟩

set_option maxHeartbeats 2000000 in
set_option maxRecDepth 100000 in
theorem lplay_in {Ch : Nat → Prop} {Stop : Goroutine → World → Prop} {main : Bool} {S : TS} {v w : World} (p : Option Addr) (n cap : Nat) (hn8 : 0 < n ∧ n ≤ 8) (hran : S.ran = false) (hch : S.chg = []) (pc : Nat → Option Addr) (ln cp : Nat → Nat) (hln : ∀ k, k < n → ln k ≤ 64) (hs : ∀ k, k < n → ∃ sb so, p = some ⟨sb, so, none⟩ ∧ v.cell? ⟨sb, so + k, none⟩ = some (.slice (pc k) (ln k) (cp k)))
    (hm : Mem zn S [] v) (cs : List Frame) {bc : Frame} {ac : Act} {ops : Array Oper} {q : Nat} {rest : List Nat} {oc : Oper} {k : List Item} (hoc : ops[q]? = some oc)
    (hvw : Rel zn v w) (hn : NoRow Ch v)
    (hk : ∀ v' w' (bd : Frame) (ad : Act) (od : Array Oper) (qd : Nat) (rd : List Nat) (oe : Oper) (kd : List Item) (caps : Array Value) (pk : Nat → Option Obj) (S1 : TS) (K : List (Nat × Int)), Rel zn v' w' → NoRow Ch v' → Objs v S [0, 0, 0] pk S1 K v' → QLock caps pk K → od[qd]? = some oe →
      (∀ (Ch : Nat → Prop) (Stop : Goroutine → World → Prop) (w : World) (x : Value), (∀ d, GoesI Try.prog main (DT (ScZ zn) Ch) Stop (G (bc.at (ac.put oc.dst (.tuple #[x, I 0])) (.inRegion ops rest :: k)) cs) (w.at d)) → GoesI Try.prog main (DT (ScZ zn) Ch) Stop (G (bd.at (ad.put oe.dst x) (.inRegion od rd :: kd)) (bc.at ac (.inRegion ops (q :: rest) :: k) :: cs)) w) →
      GoesI Try.prog main (DT (ScZ zn) Ch) Stop (G ((base 54).at { tmps := #[Pt S.wb 0, .slice p n cap, .func (.func 66) #[] caps] ++ Array.replicate 36 undef, defers := [] } [.code B20]) (bd.at ad (.inRegion od (qd :: rd) :: kd) :: bc.at ac (.inRegion ops (q :: rest) :: k) :: cs)) w') :
    GoesI Try.prog main (DT (ScZ zn) Ch) Stop (G ((base 33).at { tmps := #[Pt S.wb 0, .slice p n cap] ++ Array.replicate 21 undef, defers := [] } [.code B31]) (bc.at ac (.inRegion ops (q :: rest) :: k) :: cs)) w := by
  rw [eB31]
  refine goesI_seq (dt_idle _ _) ?_
  refine goesI_plain (z := zn) (wr := true) (L := LV) (I := NoRow Ch) hE fineV noRow_keeps (fun v v' w w' es hi hr ho he => dt_of_z v v' w w' es hi hr ho he) hvw fine310 rfl (by simp [base]) hn
    (Q := fun a w' => a = { tmps := #[Pt S.wb 0, .slice p n cap, undef, undef, .slice none 0 0, I 0] ++ Array.replicate 17 undef, defers := [] } ∧ w'.heap = v.heap ∧ w'.os = v.os ∧ w'.output = v.output) (fun τ => k310_wp (v := onTape v τ 0) _) ?_
  rintro a0 v0 w0 ⟨rfl, e0, o0, u0⟩ hr0 hn0 -
  have m0 : Mem zn S [] v0 := (hm.grows (v' := v0) ⟨by rw [e0]; exact Nat.le_refl _, fun b _ => by rw [e0], o0, u0⟩).mem
  refine goesI_seq (dt_idle _ _) ?_
  refine goesI_plain (z := zn) (wr := true) (L := LV) (I := NoRow Ch) hE fineV noRow_keeps (fun v v' w w' es hi hr ho he => dt_of_z v v' w w' es hi hr ho he) hr0 fine311 rfl (by simp [base]) hn0
    (Q := fun a w' => a = { tmps := #[Pt S.wb 0, .slice p n cap, undef, undef, .slice none 0 0, I 0, I 0, undef, undef, Pt S.wb 0, .slice p n cap, I 0, I 0, .bool false] ++ Array.replicate 9 undef, defers := [] } ∧ w'.heap = v0.heap ∧ w'.os = v0.os ∧ w'.output = v0.output)
    (fun τ => k311_yes (v := onTape v0 τ 0) (m0.grows (v' := onTape v0 τ 0) ⟨Nat.le_refl _, fun _ _ => rfl, rfl, rfl⟩).mem.rep pc ln cp (fun k hk => by
      obtain ⟨sb, so, h1, h2⟩ := hs k hk
      refine ⟨sb, so, h1, ?_⟩
      rw [World.cell?_of_block (w := v) (w' := onTape v0 τ 0) (by show v0.heap[_]? = _; rw [e0])]
      exact h2) hln hn8 hran) ?_
  rintro a1 v1 w1 ⟨rfl, e1, o1, u1⟩ hr1 hn1 -
  have m1 : Mem zn S [] v1 := (m0.grows (v' := v1) ⟨by rw [e1]; exact Nat.le_refl _, fun b _ => by rw [e1], o1, u1⟩).mem
  refine goesI_seq (dt_idle _ _) ?_
  refine goesI_plain (z := zn) (wr := true) (L := LV) (I := NoRow Ch) hE fineV noRow_keeps (fun v v' w w' es hi hr ho he => dt_of_z v v' w w' es hi hr ho he) hr1 fine312 rfl (by simp [base]) hn1
    (Q := fun a w' => ∃ lb c0 c1, a = { tmps := #[Pt S.wb 0, .slice p n cap, undef, undef, .slice none 0 0, I 0, I 0, Pt (lb + 1) 0, undef, Pt S.wb 0, .slice p n cap, I 0, I 0, .bool false, undef, Pt S.wb 0, Pt lb 0] ++ Array.replicate 6 undef, defers := [] } ∧ ∃ S1, Objs v1 S [0, 0] (padd (padd (fun _ => none) lb (.cells #[Pt c0 0, Pt c1 0] 104)) (lb + 1) (.cells #[Pt lb 0] 61)) S1 [(c0, 0), (c1, 0)] w') (fun τ => ?_) ?_
  · refine wp_mono (k312_wp (v := onTape v1 τ 0) (m1.grows (v' := onTape v1 τ 0) ⟨Nat.le_refl _, fun _ _ => rfl, rfl, rfl⟩).mem hch _) (fun e a w' hq => ⟨hq.1, ?_⟩)
    obtain ⟨_, lb, c0, c1, h1, S1, o⟩ := hq
    exact ⟨lb, c0, c1, h1, S1, ⟨o.cel.from rfl rfl rfl, o.vals, o.st, o.has, o.new, o.row⟩⟩
  rintro a2 v2 w2 ⟨lb, c0, c1, rfl, S2, ob2⟩ hr2 hn2 -
  have hlb : lb + 1 < v2.heap.size := (Array.getElem?_eq_some_iff.1 (ob2.has (lb + 1) _ (padd_at _ _ _))).1
  refine goesI_seq (dt_idle _ _) ?_
  refine goesI_plain (z := zn) (wr := true) (L := LV) (I := NoRow Ch) hE fineV noRow_keeps (fun v v' w w' es hi hr ho he => dt_of_z v v' w w' es hi hr ho he) hr2 fine313 rfl (by simp [base]) hn2
    (Q := fun a w' => ∃ gb xx, a = { tmps := #[Pt S.wb 0, .slice p n cap, undef, undef, .slice none 0 0, I 0, I 0, Pt (lb + 1) 0, Pt xx 0, Pt S.wb 0, .slice p n cap, I 0, I 0, .bool false, undef, Pt S.wb 0, Pt lb 0, Pt S.wb 0, Pt gb 0] ++ Array.replicate 4 undef, defers := [] } ∧ v2.heap.size ≤ xx ∧ ∃ S1, Objs v1 S [0, 0, 0] (padd (padd (padd (fun _ => none) lb (.cells #[Pt c0 0, Pt c1 0] 104)) (lb + 1) (.cells #[Pt lb 0] 61)) xx (.cells #[Pt gb 0] 44)) S1 [(c0, 0), (c1, 0), (gb, 0)] w')
    (fun τ => k313_wp (v := onTape v2 τ 0) (v0 := v1) (ob2.same rfl rfl rfl) _ lb) ?_
  rintro a3 v3 w3 ⟨gb, xx, rfl, hxx, S3, ob3⟩ hr3 hn3 -
  have hset : Objs v S [0, 0, 0] (padd (padd (padd (fun _ => none) lb (.cells #[Pt c0 0, Pt c1 0] 104)) (lb + 1) (.cells #[Pt lb 0] 61)) xx (.cells #[Pt gb 0] 44)) S3 [(c0, 0), (c1, 0), (gb, 0)] v3 :=
    ⟨ob3.cel.from (e1.trans e0) (o1.trans o0) (u1.trans u0), ob3.vals, ob3.st, ob3.has, fun b hb => by rw [← e0, ← e1]; exact ob3.new b hb, ob3.row⟩
  have hql : QLock #[Pt (lb + 1) 0, Pt xx 0] (padd (padd (padd (fun _ => none) lb (.cells #[Pt c0 0, Pt c1 0] 104)) (lb + 1) (.cells #[Pt lb 0] 61)) xx (.cells #[Pt gb 0] 44)) [(c0, 0), (c1, 0), (gb, 0)] := ⟨lb, xx, c0, c1, gb, rfl, by omega, rfl, rfl⟩
  clear ob2 ob3 hr0 hr1 hr2 hn0 hn1 hn2 e0 e1 o0 o1 u0 u1 hvw hn hs hln m0 m1 hm hlb hxx
  unfold R31 B31 Try.f33 seq2
  simp only [Option.getD_some]
  refine goesI_seq (dt_idle _ _) ?_
  refine goesI_region (dt_idle _ _) ?_
  simp only [List.size_toArray, List.length_cons, List.length_nil, Nat.reduceAdd, Nat.zero_add, List.range, List.range.loop]
  iterate 3
    (refine goesI_oper rfl rfl (by decide) (fun d K hK => ?_)
     go_simp
     refine hK _ _ ⟨dt_reads (fun e he => ?_), GoesI.at ?_ d⟩
     · have hm := mem_listed he
       simp [go_sem, *] at hm
       try exact ⟨_, _, hm⟩
     clear hK K)
  refine goesI_into (f := 54) (fn := Try.f54) (args := #[Pt S.wb 0, .slice p n cap, .func (.func 66) #[] #[Pt (lb + 1) 0, Pt xx 0]]) (dt_idle _ _) rfl rfl (by decide) rfl (by simp [Act.eval]) Try.func54 (by decide) rfl ?_
  refine hk v3 w3 _ _ _ _ _ _ _ _ _ _ _ hr3 hn3 hset hql rfl (fun Ch Stop w x hg => ?_)
  clear hk hset hr3 hn3 hql
  iterate 2
    (refine goesI_oper rfl rfl (by decide) (fun d K hK => ?_)
     go_simp
     refine hK _ _ ⟨dt_reads (fun e he => ?_), GoesI.at ?_ d⟩
     · have hm := mem_listed he
       simp [go_sem, *] at hm
       try exact ⟨_, _, hm⟩
     clear hK K)
  refine goesI_regionEnd (dt_idle _ _) ?_
  refine GoesI.ctl rfl (fun _ => stepG_ret') (dt_idle _ _) ?_
  refine goesI_leave (b := base 33) (fn := Try.f33) (v := .tuple #[x, I 0]) rfl rfl Try.func33 (fun w => ?_) (fun w => by simp [results, go_sem, Try.f33]) hoc (dt_idle _ _) ?_
  · rw [results_tmp2 (t := 4) (u := 5) rfl]
    simp
  · have := hg w.drawn
    exact this

/-- Play refuses: scripts that it does not take. -/
theorem lplay_no {Ch : Nat → Prop} {Stop : Goroutine → World → Prop} {main : Bool} {S : TS} {v w : World} (p : Option Addr) (n cap : Nat) (pc : Nat → Option Addr) (ln cp : Nat → Nat) (hs : ∀ k, k < n → ∃ sb so, p = some ⟨sb, so, none⟩ ∧ v.cell? ⟨sb, so + k, none⟩ = some (.slice (pc k) (ln k) (cp k))) (hn1 : n ≤ 17592186043904) (hran : S.ran = false) (hm : Mem zn S [] v)
    {E : Int} (hRe : Refused n ln E) (cs : List Frame) {bc : Frame} {ac : Act} {ops : Array Oper} {q : Nat} {rest : List Nat} {oc : Oper} {k : List Item} (hoc : ops[q]? = some oc)
    (hvw : Rel zn v w) (hn : NoRow Ch v)
    (hk : ∀ v' w', Rel zn v' w' → NoRow Ch v' → v'.heap = v.heap → v'.os = v.os → v'.output = v.output → GoesI Try.prog main (DT (ScZ zn) Ch) Stop (G (bc.at (ac.put oc.dst (.tuple #[.slice none 0 0, I E])) (.inRegion ops rest :: k)) cs) w') :
    GoesI Try.prog main (DT (ScZ zn) Ch) Stop (G ((base 33).at { tmps := #[Pt S.wb 0, .slice p n cap] ++ Array.replicate 21 undef, defers := [] } [.code B31]) (bc.at ac (.inRegion ops (q :: rest) :: k) :: cs)) w := by
  rw [eB31]
  refine goesI_seq (dt_idle _ _) ?_
  refine goesI_plain (z := zn) (wr := true) (L := LV) (I := NoRow Ch) hE fineV noRow_keeps (fun v v' w w' es hi hr ho he => dt_of_z v v' w w' es hi hr ho he) hvw fine310 rfl (by simp [base]) hn
    (Q := fun a w' => a = { tmps := #[Pt S.wb 0, .slice p n cap, undef, undef, .slice none 0 0, I 0] ++ Array.replicate 17 undef, defers := [] } ∧ w'.heap = v.heap ∧ w'.os = v.os ∧ w'.output = v.output) (fun τ => k310_wp (v := onTape v τ 0) _) ?_
  rintro a0 v0 w0 ⟨rfl, e0, o0, u0⟩ hr0 hn0 -
  have m0 : Mem zn S [] v0 := (hm.grows (v' := v0) ⟨by rw [e0]; exact Nat.le_refl _, fun b _ => by rw [e0], o0, u0⟩).mem
  have hs0 : ∀ τ, ∀ k, k < n → ∃ sb so, p = some ⟨sb, so, none⟩ ∧ (onTape v0 τ 0).cell? ⟨sb, so + k, none⟩ = some (.slice (pc k) (ln k) (cp k)) := fun τ k hk => by
    obtain ⟨sb, so, h1, h2⟩ := hs k hk
    exact ⟨sb, so, h1, by rw [World.cell?_of_block (w := v) (w' := onTape v0 τ 0) (by show v0.heap[_]? = _; rw [e0])]; exact h2⟩
  refine goesI_seq (dt_idle _ _) ?_
  refine goesI_outZ (c := k311) (f := 33) (fn := Try.f33) (L := LV) hE fineV hr0 hn0 Try.func33 fine311 rfl hoc (R := fun r w' => r = .tuple #[.slice none 0 0, I E] ∧ w'.heap = v0.heap ∧ w'.os = v0.os ∧ w'.output = v0.output) (fun τ => k311_no (v := onTape v0 τ 0) (m0.grows (v' := onTape v0 τ 0) ⟨Nat.le_refl _, fun _ _ => rfl, rfl, rfl⟩).mem.rep pc ln cp (hs0 τ) hn1 hran hRe) (fun r v' w' hR hr' hn' => ?_)
  obtain ⟨rfl, h1, h2, h3⟩ := hR
  exact hk v' w' hr' hn' (h1.trans e0) (h2.trans o0) (h3.trans u0)
end Go.Proofs.Ytfjjoohflcchnaa.Gen

namespace Go.Proofs.Ytfjjoohflcchnaa.Gen
open Go Go.Lift Go.Conc Go.RowKit

section
variable {S : TS} {n sb so cap : Nat} {pc : Nat → Option Addr} {ln cp rb : Nat → Nat} {cl : Nat → List Cl}
theorem lplay_all {cs : List Frame} {bc : Frame} {ac : Act} {ops : Array Oper} {q0 : Nat} {rest : List Nat} {oc : Oper} {k0 : List Item} (hoc : ops[q0]? = some oc) {w : World} {T : Trace} {gs : Array Goroutine} {q : Nat → Nat} (sl : Option (Nat × Nat)) (NT : Nat) (A : Alone gs w T q)
    (hg : gs[0]? = some (G ((base 33).at { tmps := #[Pt S.wb 0, .slice (some ⟨sb, so, none⟩) n cap] ++ Array.replicate 21 undef, defers := [] } [.code B31]) (bc.at ac (.inRegion ops (q0 :: rest) :: k0) :: cs)))
    (hm : Mem zn S [] w) (hthr : S.thr = []) (hran : S.ran = false) (hch : S.chg = []) (hbk : Open w S.bk) (t : Asked w S n sb so pc ln cp rb cl) (hn8 : 0 < n ∧ n ≤ 8)
    (hlen : ∀ caps pk N K, S.n + 2 * lens (scrs mcLock 66 caps pk N n K pc ln cp rb cl) ≤ 1000000) (hsl : S.sched.length ≤ 4611686018427387904) (hsc : ∀ x ∈ S.sched, -9223372036854775808 ≤ x ∧ x < 9223372036854775808) (l0 : Nat → Ph)
    (hturn : ∀ (caps : Array Value) (pk : Nat → Option Obj) (N : Nat) (cv : Value) (K : List (Nat × Int)), K.map (·.2) = [0, 0, 0] → ∀ S1 l1, Hires mcLock 0 (scrs mcLock 66 caps pk N n K pc ln cp rb cl) (nv { cellsS S cv 3 with ran := true }) l0 S1 l1 → ∃ m p', m ≤ NT ∧ Turns mcLock m ⟨S1, K, l1⟩ p' ∧ p'.S.n * 40 ≤ 140737488355328) :
    ∃ (N' : Nat) (gs' : Array Goroutine) (w' : World) (sl' : Option (Nat × Nat)) (T' : Trace) (q' : Nat → Nat) (caps : Array Value) (pk : Nat → Option Obj) (N : Nat) (cv : Value) (K : List (Nat × Int)) (S' : TS) (S1 : TS) (l1 : Nat → Ph) (m : Nat) (p' : PSt),
      runNT Try.prog N' (crowd gs w sl) T = (.next (crowd gs' w' sl'), T') ∧ gs'.size = gs.size + n ∧ gs'[0]? = some (G (bc.at (ac.put oc.dst (.tuple #[.slice (some ⟨N + 1, 0, none⟩) n n, I 0])) (.inRegion ops rest :: k0)) cs) ∧
      Alone gs' w' T' q' ∧ K.map (·.2) = [0, 0, 0] ∧ nv S' = p'.S ∧ Hires mcLock 0 (scrs mcLock 66 caps pk N n K pc ln cp rb cl) (nv { cellsS S cv 3 with ran := true }) l0 S1 l1 ∧ Turns mcLock m ⟨S1, K, l1⟩ p' ∧ GOut w S n ln N S' p'.K p'.l w' := by
  refine gplay_all (xs := [0, 0, 0]) (cap := cap) (q0 := q0) pkgLock mineLock sl NT A hg ?_ hm hthr hran hbk t hn8 hlen hsl hsc l0 hturn
  exact lplay_in (some ⟨sb, so, none⟩) n cap hn8 hran hch pc ln cp (fun k hk => (t.len k hk).2) (fun k hk => ⟨sb, so, rfl, t.row k hk⟩) hm cs hoc (Rel.refl w) (fun c hc => hc.elim)
    (fun v' w' bd ad od qd rd oe kd caps pk S1 K hr hn ho hq hoe hback => GoesI.stop fun d => ⟨bd, ad, od, qd, rd, oe, kd, caps, pk, S1, K, ho.same hr.eq hr.os hr.output, hq, hoe, hback, rfl⟩)
end
end Go.Proofs.Ytfjjoohflcchnaa.Gen
