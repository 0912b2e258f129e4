/- GateGoes: for every schedule and all rows of numbers, the Play of scripts in which each Enter has a Leave of its own behind it, ahead of the next Shut, leaves nobody stuck and nobody in; no conditions. Part 33 of 37. (Joined, by program, of: GatPkg, GatY, GPts, GatAw1.) -/
import Derived.Test.YtfjjoohflcchnaaGateGoes16
import Derived.Test.YtfjjoohflcchnaaGateGoes20
import Derived.Test.YtfjjoohflcchnaaGateGoes22
import Derived.Test.YtfjjoohflcchnaaGateGoes24
import Derived.Test.YtfjjoohflcchnaaGateGoes29
import Derived.KernelRfl
set_option linter.unusedSimpArgs false
set_option linter.unusedVariables false
namespace Go.Proofs.Ytfjjoohflcchnaa.Gen
open Go Go.Lift Go.Conc Go.RowKit

theorem odd1_ne {x : Int} (h : odd1 x = true) : bits .and .i64 x 1 ≠ 0 := by unfold odd1 at h; simpa using h
theorem odd1_eq {x : Int} (h : odd1 x = false) : bits .and .i64 x 1 = 0 := by unfold odd1 at h; simpa using h

section
variable {X : Fix mcGate} {z : Nat → Option Nat} {cont : Addr → Value} {Ch : Nat → Prop} {Stop : Goroutine → World → Prop} {cu : Value → Goroutine} {S0 : TS} {K0 : List (Nat × Int)} {v0 : World} {Mo0 : Nat → Option Obj} {σ : TS} {κ : List (Nat × Int)} {S : TS} {v w : World} {t : Thr} {H : Nx → (Nat → Option Obj) → Goroutine → Prop} {xb lb cb p1 p2 : Nat} {c72 : Value → Goroutine} {f f2 : Frs}

/-- Enter has seen x. -/
theorem gat_eseen (hm : GMine X xb lb cb) (hne : p1 ≠ p2) (hcf : CF (X.h == 0) p1 c72 cu) (hf : EF (X.h == 0) p2 f c72) (hH : ∀ x Mo' g, Good v0 Mo0 x Mo' → gatSit X x Mo' cu g → H x Mo' g) (x : Int) (hob : Ob X H z cont Ch Stop cu S0 K0 v0 Mo0 σ κ (if odd1 x then .ans 60 0 else .turn 4 0 (1, [x]))) (N : Now X z cont Ch S0 K0 v0 Mo0 (box2 p1 p2) σ κ S v w t) (u : Nat → Value) :
    GoesI Try.prog (X.h == 0) (DT (ScZ z) Ch) Stop (G (eSeen lb cb X.tb u (I x)) (f.top :: f.fs)) w := by
  cases hx : odd1 x with
  | true =>
    rw [hx, if_pos rfl] at hob
    exact enter_low (bc := f.bd) (ac := f.ad) (ops := f.od) (q := f.qd) (rest := f.rd) (oc := f.oe) (k := f.kd) x (odd1_ne hx) u f.fs hf.oe N.at_.rel N.at_.noRow (fun v2 w2 r2 n2 a b c => gat_ans hne hcf (60, 0) (hf.back 60) hob (.inl rfl) (N.same r2 n2 a b c))
  | false =>
    rw [hx, if_neg (by simp)] at hob
    rw [← N.at_.tb]
    exact enter_try (h := X.h) (i := X.i) (j := 0) x (odd1_eq hx) _ u _ (H (.turn 4 0 (1, [x])) (box2 p1 p2)) (fun g hg => hH _ _ g (N.good (fun _ _ h => by cases h)) ⟨xb, lb, cb, p1, p2, c72, f, hm, rfl, hne, hcf, .inl ⟨hf, .inr (.inl ⟨x, _, rfl, by rw [N.at_.tb] at hg; exact hg⟩)⟩⟩) (hm.mem v N.at_.pk).2 N.at_.rel N.at_.noRow N.at_.mem N.at_.thr (N.cell hm.kb).1 (by rw [N.at_.tb]; exact N.at_.z) (by rw [N.at_.tb, N.at_.gc]; exact N.at_.cont) (ob_turn hob N)
/-- Leave has seen x. -/
theorem gat_lseen (hm : GMine X xb lb cb) (hne : p1 ≠ p2) (hcf : CF (X.h == 0) p1 c72 cu) (hf : EF (X.h == 0) p2 f c72) (hH : ∀ x Mo' g, Good v0 Mo0 x Mo' → gatSit X x Mo' cu g → H x Mo' g) (x : Int) (hob : Ob X H z cont Ch Stop cu S0 K0 v0 Mo0 σ κ (if x < 2 then .ans 61 0 else .turn 4 0 (3, [x]))) (N : Now X z cont Ch S0 K0 v0 Mo0 (box2 p1 p2) σ κ S v w t) (u : Nat → Value) :
    GoesI Try.prog (X.h == 0) (DT (ScZ z) Ch) Stop (G (lSeen lb cb X.tb u (I x)) (f.top :: f.fs)) w := by
  by_cases hx : x < 2
  · rw [if_pos hx] at hob
    exact leave_low (bc := f.bd) (ac := f.ad) (ops := f.od) (q := f.qd) (rest := f.rd) (oc := f.oe) (k := f.kd) x hx u f.fs hf.oe N.at_.rel N.at_.noRow (fun v2 w2 r2 n2 a b c => gat_ans hne hcf (61, 0) (hf.back 61) hob (.inl rfl) (N.same r2 n2 a b c))
  · rw [if_neg hx] at hob
    rw [← N.at_.tb]
    exact leave_try (h := X.h) (i := X.i) (j := 0) x hx _ u _ (H (.turn 4 0 (3, [x])) (box2 p1 p2)) (fun g hg => hH _ _ g (N.good (fun _ _ h => by cases h)) ⟨xb, lb, cb, p1, p2, c72, f, hm, rfl, hne, hcf, .inl ⟨hf, .inr (.inr (.inr ⟨x, _, rfl, by rw [N.at_.tb] at hg; exact hg⟩))⟩⟩) (hm.mem v N.at_.pk).2 N.at_.rel N.at_.noRow N.at_.mem N.at_.thr (N.cell hm.kb).1 (by rw [N.at_.tb]; exact N.at_.z) (by rw [N.at_.tb, N.at_.gc]; exact N.at_.cont) (ob_turn hob N)
/-- bar has answered. -/
theorem gat_barred (hm : GMine X xb lb cb) (hne : p1 ≠ p2) (hcf : CF (X.h == 0) p1 c72 cu) (hf : SF (X.h == 0) p2 f c72) (hb : BF lb X.tb f f2) (fi : Bool) (hH : ∀ x Mo' g, Good v0 Mo0 x Mo' → gatSit X x Mo' cu g → H x Mo' g) (hob : Ob X H z cont Ch Stop cu S0 K0 v0 Mo0 σ κ (.turn 1 0 (6, [b2i fi]))) (N : Now X z cont Ch S0 K0 v0 Mo0 (box2 p1 p2) σ κ S v w t) :
    GoesI Try.prog (X.h == 0) (DT (ScZ z) Ch) Stop (f2.cu (.bool fi)) w := by
  rw [hb.cu]
  exact shut_bar _ _ (fun u => gat_shut hm hne hcf hf fi hH hob N u)
/-- bar has seen x. -/
theorem gat_bseen (hm : GMine X xb lb cb) (hne : p1 ≠ p2) (hcf : CF (X.h == 0) p1 c72 cu) (hf : SF (X.h == 0) p2 f c72) (hb : BF lb X.tb f f2) (hH : ∀ x Mo' g, Good v0 Mo0 x Mo' → gatSit X x Mo' cu g → H x Mo' g) (x : Int) (hob : Ob X H z cont Ch Stop cu S0 K0 v0 Mo0 σ κ (if odd1 x then .turn 1 0 (6, [0]) else .turn 4 0 (5, [x]))) (N : Now X z cont Ch S0 K0 v0 Mo0 (box2 p1 p2) σ κ S v w t) (u : Nat → Value) :
    GoesI Try.prog (X.h == 0) (DT (ScZ z) Ch) Stop (G (bSeen lb cb X.tb u (I x)) (f2.top :: f2.fs)) w := by
  cases hx : odd1 x with
  | true =>
    rw [hx, if_pos rfl] at hob
    exact bar_low (bc := f2.bd) (ac := f2.ad) (ops := f2.od) (q := f2.qd) (rest := f2.rd) (oc := f2.oe) (k := f2.kd) x (odd1_ne hx) u f2.fs hb.oe N.at_.rel N.at_.noRow (fun v2 w2 r2 n2 a b c => gat_barred hm hne hcf hf hb false hH hob (N.same r2 n2 a b c))
  | false =>
    rw [hx, if_neg (by simp)] at hob
    rw [← N.at_.tb]
    exact bar_try (h := X.h) (i := X.i) (j := 0) x (odd1_eq hx) _ u _ (H (.turn 4 0 (5, [x])) (box2 p1 p2)) (fun g hg => hH _ _ g (N.good (fun _ _ h => by cases h)) ⟨xb, lb, cb, p1, p2, c72, f, hm, rfl, hne, hcf, .inr ⟨hf, .inl ⟨f2, hb, .inr ⟨x, _, rfl, by rw [N.at_.tb] at hg; exact hg⟩⟩⟩⟩) (hm.mem v N.at_.pk).2 N.at_.rel N.at_.noRow N.at_.mem N.at_.thr (N.cell hm.kb).1 (by rw [N.at_.tb]; exact N.at_.z) (by rw [N.at_.tb, N.at_.gc]; exact N.at_.cont) (ob_turn hob N)
/-- Shut has seen x. -/
theorem gat_sseen (hm : GMine X xb lb cb) (hne : p1 ≠ p2) (hcf : CF (X.h == 0) p1 c72 cu) (hf : SF (X.h == 0) p2 f c72) (fi : Bool) (hH : ∀ x Mo' g, Good v0 Mo0 x Mo' → gatSit X x Mo' cu g → H x Mo' g) (x : Int) (hob : Ob X H z cont Ch Stop cu S0 K0 v0 Mo0 σ κ (if x = 1 then .ans 0 (b2i fi) else .wait 0 (7, [b2i fi]))) (N : Now X z cont Ch S0 K0 v0 Mo0 (box2 p1 p2) σ κ S v w t) (u : Nat → Value) :
    GoesI Try.prog (X.h == 0) (DT (ScZ z) Ch) Stop (G (sSeen fi lb cb X.tb u (I x)) (f.top :: f.fs)) w := by
  by_cases hx : x = 1
  · subst hx
    rw [if_pos rfl] at hob
    exact shut_done (bc := f.bd) (ac := f.ad) (ops := f.od) (q := f.qd) (rest := f.rd) (oc := f.oe) (k := f.kd) u f.fs hf.oe N.at_.rel N.at_.noRow (fun v2 w2 r2 n2 a b c => gat_ans hne hcf (0, b2i fi) (hf.back fi 0) hob (.inl rfl) (N.same r2 n2 a b c))
  · rw [if_neg hx] at hob
    refine shut_more (j := 0) x hx _ u _ (hm.mem v N.at_.pk).2 N.at_.rel N.at_.noRow N.at_.mem (N.cell hm.kb).1 (fun v' w' bd ad od qd rd oe kd r n e hoe hfr code hcode => ?_)
    have N' := N.on e r n N.nv N.at_.thr N.at_.tb N.at_.gc rfl
    cases hs : S.stk with
    | true =>
      have := await_no (i := X.i) (main := X.h == 0) (Ch := Ch) (Stop := Stop) ((0 : Nat) : Int) (f.top :: f.fs) hoe N'.at_.rel N'.at_.noRow N'.at_.mem hs N'.at_.thr (fun v2 w2 r2 n2 e2 => by
        rw [hfr]
        have N2 := N'.on e2 r2 n2 N'.nv N'.at_.thr N'.at_.tb N'.at_.gc rfl
        exact shut_no (bc := f.bd) (ac := f.ad) (ops := f.od) (q := f.qd) (rest := f.rd) (oc := f.oe) (k := f.kd) _ f.fs hf.oe r2 n2 (fun v3 w3 r3 n3 a b c => gat_ans hne hcf (4, 0) (hf.back false 4) hob (.inr ⟨0, (7, [b2i fi]), rfl, by rw [← N.nv]; exact hs, rfl⟩) (N2.same r3 n3 a b c))) code hcode
      rw [N'.at_.tb] at this
      exact this
    | false =>
      have ee : (fun r => G (bd.at (ad.put oe.dst r) (.inRegion od rd :: kd)) (f.top :: f.fs)) = (fun r => G (sWoke fi lb X.tb (sVal lb cb X.tb x 0 u) r) (f.top :: f.fs)) := funext fun r => by rw [hfr]
      have := await_goes (h := X.h) (cont := cont) (i := X.i) (Stop := Stop) ((0 : Nat) : Int) (f.top :: f.fs) (H (.wait 0 (7, [b2i fi])) (box2 p1 p2)) hoe (fun g hg => hH _ _ g (N'.good (fun _ _ h => by cases h)) ⟨xb, lb, cb, p1, p2, c72, f, hm, rfl, hne, hcf, .inr ⟨hf, .inr (.inr ⟨fi, rfl, sVal lb cb X.tb x 0 u, by rw [← ee, ← N'.at_.tb]; exact hg⟩)⟩⟩) N'.at_.rel N'.at_.noRow N'.at_.mem hs N'.at_.thr (by rw [N'.at_.tb]; exact N'.at_.z) (by rw [N'.at_.tb, N'.at_.gc]; exact N'.at_.cont) (ob_wait hob hs N') code hcode
      rw [N'.at_.tb] at this
      exact this
end

theorem effCas_won {a b x : Int} (h : x = a) : (effCas a b x).2.2 = .bool true := by unfold effCas; rw [if_pos h]
theorem effCas_lost {a b x : Int} (h : ¬ x = a) : (effCas a b x).2.2 = .bool false := by unfold effCas; rw [if_neg h]

set_option maxHeartbeats 2000000 in
noncomputable def pkgGate : Pkg mcGate 77 where
  fn := Try.f77
  code := Try.f77.body.getD .skip
  hf := Try.func77
  hname := by kernel_rfl
  hcode := rfl
  Mine X := ∃ xb lb cb, GMine X xb lb cb
  Sit := gatSit
  start := by
    rintro X ok ⟨xb, lb, cb, hm⟩ hfid c hc cs bc ac ops q rest oc k hoc H z cont Ch Stop S K v w t A hH hob
    rw [hm.caps]
    show GoesI Try.prog (X.h == 0) (DT (ScZ z) Ch) Stop (G ((base 77).at { tmps := #[Pt X.tb 0, .agg #[I c.po, I c.ca, I c.cb, I c.cc], Pt xb 0] ++ Array.replicate 9 undef, defers := [] } [.code (Try.f77.body.getD .skip)]) (bc.at ac (.inRegion ops (q :: rest) :: k) :: cs)) w
    refine clg_goes c.po c.ca c.cb c.cc (hm.mem v A.pk).1 cs hoc A.rel A.noRow (fun v1 w1 bd ad od qd rd oe kd hr1 hn1 hg1 hbox1 hoe1 hC fn code hfn hcode => ?_) _ rfl
    have hlt1 : v.heap.size + 1 < v1.heap.size := (Array.getElem?_eq_some_iff.1 hbox1).1
    -- where enters, leaves or shuts has its memory
    have mkN : ∀ (v2 w2 : World), Rel z v2 w2 → NoRow Ch v2 → Grows v1 v2 → v2.heap[v1.heap.size]? = some (.cells #[I 0, I 0] 42 (0, 0)) → Now X z cont Ch S K v (fun _ => none) (box2 (v.heap.size + 1) v1.heap.size) (Gen.nv S) K S v2 w2 t := fun v2 w2 hr hn hg2 hbox2 => by
      have hg : Grows v v2 := ⟨Nat.le_trans hg1.size hg2.size, fun b hb => by rw [hg2.old b (Nat.lt_of_lt_of_le hb hg1.size), hg1.old b hb], hg2.os.trans hg1.os, hg2.output.trans hg1.output⟩
      refine ⟨⟨hr, hn, (A.mem.grows hg).mem, A.thr, A.tb, A.gc, A.kb, A.z, A.cont, fun b o hb => ?_, A.far⟩, Evo.toP (A.mem.grows hg), rfl, rfl, box2_has (by rw [hg2.old _ hlt1]; exact hbox1) hbox2, fun b hb ho => ?_, fun b hb => ?_, box2_row _ _⟩
      · have h1 := A.pk b o hb
        rw [hg.old b (Array.getElem?_eq_some_iff.1 h1).1]; exact h1
      · have := A.mem.lt ho
        rcases box2_eq hb with e | e <;> omega
      · right
        rcases box2_eq hb with e | e <;> omega
    have hne : v.heap.size + 1 ≠ v1.heap.size := by omega
    have hcf : CF (X.h == 0) (v.heap.size + 1) (fun r => G (bd.at (ad.put oe.dst r) (.inRegion od rd :: kd)) (bc.at ac (.inRegion ops (q :: rest) :: k) :: cs)) (fun r => G (bc.at (ac.put oc.dst r) (.inRegion ops rest :: k)) cs) := hC
    by_cases h1 : c.po = 1
    · have es : mcGate.start c = .turn 1 0 (0, []) := by simp [mcGate, h1]
      rw [es] at hob
      have ea : actF c.po = 100 := by unfold actF; rw [if_pos h1]
      rw [ea] at hfn ⊢
      obtain rfl : fn = Try.f100 := Option.some.inj (hfn.symm.trans Try.func100)
      exact enters_in _ hoe1 hr1 hn1 (fun v2 w2 bd2 ad2 od2 qd2 rd2 oe2 kd2 hr2 hn2 hg2 hbox2 hoe2 hE code2 hcode2 => enter_in _ (fun u => gat_enter (f := ⟨bd2, ad2, od2, qd2, rd2, oe2, kd2, _⟩) hm hne hcf ⟨hoe2, hE⟩ hH hob (mkN v2 w2 hr2 hn2 hg2 hbox2) u) code2 hcode2) code hcode
    · by_cases h2 : c.po = 2
      · have es : mcGate.start c = .turn 1 0 (2, []) := by simp [mcGate, h2]
        rw [es] at hob
        have ea : actF c.po = 101 := by unfold actF; rw [if_neg h1, if_pos h2]
        rw [ea] at hfn ⊢
        obtain rfl : fn = Try.f101 := Option.some.inj (hfn.symm.trans Try.func101)
        exact leaves_in _ hoe1 hr1 hn1 (fun v2 w2 bd2 ad2 od2 qd2 rd2 oe2 kd2 hr2 hn2 hg2 hbox2 hoe2 hE code2 hcode2 => leave_in _ (fun u => gat_leave (f := ⟨bd2, ad2, od2, qd2, rd2, oe2, kd2, _⟩) hm hne hcf ⟨hoe2, hE⟩ hH hob (mkN v2 w2 hr2 hn2 hg2 hbox2) u) code2 hcode2) code hcode
      · by_cases h3 : c.po = 3
        · have es : mcGate.start c = .turn 1 0 (4, []) := by simp [mcGate, h3]
          rw [es] at hob
          have ea : actF c.po = 102 := by unfold actF; rw [if_neg h1, if_neg h2, if_pos h3]
          rw [ea] at hfn ⊢
          obtain rfl : fn = Try.f102 := Option.some.inj (hfn.symm.trans Try.func102)
          exact shuts_in _ hoe1 hr1 hn1 (fun v2 w2 bd2 ad2 od2 qd2 rd2 oe2 kd2 hr2 hn2 hg2 hbox2 hoe2 hS code2 hcode2 => shut_in _ (fun bd3 ad3 od3 qd3 rd3 oe3 kd3 hoe3 hfr3 code3 hcode3 => bar_in _ (fun u => gat_bar (f := ⟨bd2, ad2, od2, qd2, rd2, oe2, kd2, _⟩) (f2 := ⟨bd3, ad3, od3, qd3, rd3, oe3, kd3, _⟩) hm hne hcf ⟨hoe2, hS⟩ ⟨hoe3, fun r => by
            show G (bd3.at (ad3.put oe3.dst r) (.inRegion od3 rd3 :: kd3)) _ = _
            rw [hfr3], rfl⟩ hH hob (mkN v2 w2 hr2 hn2 hg2 hbox2) u) code3 hcode3) code2 hcode2) code hcode
        · have es : mcGate.start c = .ans 1 0 := by simp [mcGate, h1, h2, h3]
          rw [es] at hob
          have ea : actF c.po = 103 := by unfold actF; rw [if_neg h1, if_neg h2, if_neg h3]
          rw [ea] at hfn ⊢
          obtain rfl : fn = Try.f103 := Option.some.inj (hfn.symm.trans Try.func103)
          refine refuses_goes _ hoe1 hr1 hn1 (fun v2 w2 hr2 hn2 hg2 => ?_) code hcode
          have hg : Grows v v2 := ⟨Nat.le_trans hg1.size hg2.size, fun b hb => by rw [hg2.old b (Nat.lt_of_lt_of_le hb hg1.size), hg1.old b hb], hg2.os.trans hg1.os, hg2.output.trans hg1.output⟩
          have hev := A.mem.grows hg
          refine hC (1, 0) z Ch Stop w2 v2 S K hr2 hn2 hev.mem (by rw [hg2.old _ hlt1]; exact hbox1) (fun ho => by have := A.mem.lt ho; omega) (fun v3 w3 r3 n3 ev => ?_)
          exact hob.ans (1, 0) (.inl rfl) v3 w3 S r3 n3 rfl ((Evo.toP hev).join ev (fun b hb => by
            have hb' : b = v.heap.size + 1 := hb
            right; omega))
  turn := by
    rintro X ok - hfid op j q Mo cu g ⟨xb, lb, cb, p1, p2, c72, f, hm, rfl, hne, hcf, hsit⟩ H z cont Ch Stop y S K v w t A hH hop hce hl hMo hMf hMp hob
    have N0 := Now.here A hMo hMf (box2_row p1 p2)
    have hc := N0.cell hm.kb
    have e2 : (cellAt K 0).1 = cb := by rw [hc.2]
    rcases hsit with ⟨hf, ⟨hx, u, hg⟩ | ⟨a, u, hx, hg⟩ | ⟨hx, u, hg⟩ | ⟨a, u, hx, hg⟩⟩ | ⟨hf, ⟨f2, hb, ⟨hx, u, hg⟩ | ⟨a, u, hx, hg⟩⟩ | ⟨fi, hx, u, hg⟩ | ⟨fi, hx, _⟩⟩
    · cases hx
      refine hg z Ch Stop y w v S K t (cellAt K 0).2 A.rel A.noRow A.mem A.thr A.tb hop hce hc.1 hl (fun v1 w1 tv r1 n1 e1 => ?_)
      have sd := sta_did (i := X.i) S tv t (cellAt K 0).2 (cellAt K 0).2
      have N1 := N0.on e1 r1 n1 (nv_did tv t _ _) (did_thr A.thr) A.tb A.gc sd.bk
      rw [e2] at hob
      exact gat_eseen hm hne hcf hf hH (cellAt K 0).2 hob N1 u
    · cases hx
      refine hg z Ch Stop y w v S K t (cellAt K 0).2 A.rel A.noRow A.mem A.thr A.tb hop hce hc.1 hl (fun v1 w1 tv r1 n1 e1 => ?_)
      have sd := sta_did (i := X.i) S tv t (effCas a (wrap64 (a + 2)) (cellAt K 0).2).1.1 (effCas a (wrap64 (a + 2)) (cellAt K 0).2).1.2
      have N1 := N0.on e1 r1 n1 (nv_did tv t _ _) (did_thr A.thr) A.tb A.gc sd.bk
      rw [e2] at hob
      have hob : Ob X H z cont Ch Stop cu S K v (box2 p1 p2) (didS (Gen.nv S) undef X.i t (effCas a (wrap64 (a + 2)) (cellAt K 0).2).1.1 (effCas a (wrap64 (a + 2)) (cellAt K 0).2).1.2) (K.set 0 (cb, (effCas a (wrap64 (a + 2)) (cellAt K 0).2).2.1)) (if (cellAt K 0).2 = a then .ans 0 0 else .turn 1 0 (0, [])) := hob
      by_cases hx : (cellAt K 0).2 = a
      · rw [if_pos hx] at hob
        rw [effCas_won hx]
        exact enter_won (bc := f.bd) (ac := f.ad) (ops := f.od) (q := f.qd) (rest := f.rd) (oc := f.oe) (k := f.kd) u f.fs hf.oe r1 n1 (fun v2 w2 r2 n2 a b c => gat_ans hne hcf (0, 0) (hf.back 0) hob (.inl rfl) (N1.same r2 n2 a b c))
      · rw [if_neg hx] at hob
        rw [effCas_lost hx]
        exact enter_again u _ (fun u => gat_enter hm hne hcf hf hH hob N1 u)
    · cases hx
      refine hg z Ch Stop y w v S K t (cellAt K 0).2 A.rel A.noRow A.mem A.thr A.tb hop hce hc.1 hl (fun v1 w1 tv r1 n1 e1 => ?_)
      have sd := sta_did (i := X.i) S tv t (cellAt K 0).2 (cellAt K 0).2
      have N1 := N0.on e1 r1 n1 (nv_did tv t _ _) (did_thr A.thr) A.tb A.gc sd.bk
      rw [e2] at hob
      exact gat_lseen hm hne hcf hf hH (cellAt K 0).2 hob N1 u
    · cases hx
      refine hg z Ch Stop y w v S K t (cellAt K 0).2 A.rel A.noRow A.mem A.thr A.tb hop hce hc.1 hl (fun v1 w1 tv r1 n1 e1 => ?_)
      have sd := sta_did (i := X.i) S tv t (effCas a (wrap64 (a - 2)) (cellAt K 0).2).1.1 (effCas a (wrap64 (a - 2)) (cellAt K 0).2).1.2
      have N1 := N0.on e1 r1 n1 (nv_did tv t _ _) (did_thr A.thr) A.tb A.gc sd.bk
      rw [e2] at hob
      have hob : Ob X H z cont Ch Stop cu S K v (box2 p1 p2) (didS (Gen.nv S) undef X.i t (effCas a (wrap64 (a - 2)) (cellAt K 0).2).1.1 (effCas a (wrap64 (a - 2)) (cellAt K 0).2).1.2) (K.set 0 (cb, (effCas a (wrap64 (a - 2)) (cellAt K 0).2).2.1)) (if (cellAt K 0).2 = a then .ans 0 0 else .turn 1 0 (2, [])) := hob
      by_cases hx : (cellAt K 0).2 = a
      · rw [if_pos hx] at hob
        rw [effCas_won hx]
        exact leave_won (bc := f.bd) (ac := f.ad) (ops := f.od) (q := f.qd) (rest := f.rd) (oc := f.oe) (k := f.kd) u f.fs hf.oe r1 n1 (fun v2 w2 r2 n2 a b c => gat_ans hne hcf (0, 0) (hf.back 0) hob (.inl rfl) (N1.same r2 n2 a b c))
      · rw [if_neg hx] at hob
        rw [effCas_lost hx]
        exact leave_again u _ (fun u => gat_leave hm hne hcf hf hH hob N1 u)
    · cases hx
      refine hg z Ch Stop y w v S K t (cellAt K 0).2 A.rel A.noRow A.mem A.thr A.tb hop hce hc.1 hl (fun v1 w1 tv r1 n1 e1 => ?_)
      have sd := sta_did (i := X.i) S tv t (cellAt K 0).2 (cellAt K 0).2
      have N1 := N0.on e1 r1 n1 (nv_did tv t _ _) (did_thr A.thr) A.tb A.gc sd.bk
      rw [e2] at hob
      exact gat_bseen hm hne hcf hf hb hH (cellAt K 0).2 hob N1 u
    · cases hx
      refine hg z Ch Stop y w v S K t (cellAt K 0).2 A.rel A.noRow A.mem A.thr A.tb hop hce hc.1 hl (fun v1 w1 tv r1 n1 e1 => ?_)
      have sd := sta_did (i := X.i) S tv t (effCas a (wrap64 (a + 1)) (cellAt K 0).2).1.1 (effCas a (wrap64 (a + 1)) (cellAt K 0).2).1.2
      have N1 := N0.on e1 r1 n1 (nv_did tv t _ _) (did_thr A.thr) A.tb A.gc sd.bk
      rw [e2] at hob
      have hob : Ob X H z cont Ch Stop cu S K v (box2 p1 p2) (didS (Gen.nv S) undef X.i t (effCas a (wrap64 (a + 1)) (cellAt K 0).2).1.1 (effCas a (wrap64 (a + 1)) (cellAt K 0).2).1.2) (K.set 0 (cb, (effCas a (wrap64 (a + 1)) (cellAt K 0).2).2.1)) (if (cellAt K 0).2 = a then .turn 1 0 (6, [1]) else .turn 1 0 (4, [])) := hob
      by_cases hx : (cellAt K 0).2 = a
      · rw [if_pos hx] at hob
        rw [effCas_won hx]
        exact bar_won (bc := f2.bd) (ac := f2.ad) (ops := f2.od) (q := f2.qd) (rest := f2.rd) (oc := f2.oe) (k := f2.kd) u f2.fs hb.oe r1 n1 (fun v2 w2 r2 n2 a b c => gat_barred hm hne hcf hf hb true hH hob (N1.same r2 n2 a b c))
      · rw [if_neg hx] at hob
        rw [effCas_lost hx]
        exact bar_again u _ (fun u => gat_bar hm hne hcf hf hb hH hob N1 u)
    · cases hx
      refine hg z Ch Stop y w v S K t (cellAt K 0).2 A.rel A.noRow A.mem A.thr A.tb hop hce hc.1 hl (fun v1 w1 tv r1 n1 e1 => ?_)
      have sd := sta_did (i := X.i) S tv t (cellAt K 0).2 (cellAt K 0).2
      have N1 := N0.on e1 r1 n1 (nv_did tv t _ _) (did_thr A.thr) A.tb A.gc sd.bk
      rw [e2] at hob
      exact gat_sseen hm hne hcf hf fi hH (cellAt K 0).2 hob N1 u
    · cases hx
  wake := by
    rintro X ok - hfid j q Mo cu g ⟨xb, lb, cb, p1, p2, c72, f, hm, rfl, hne, hcf, hsit⟩ H z cont Ch Stop y S K v w t A hH hl hMo hMf hMp hob1 hob2
    have N0 := Now.here A hMo hMf (box2_row p1 p2)
    rcases hsit with ⟨hf, ⟨hx, u, hg⟩ | ⟨a, u, hx, hg⟩ | ⟨hx, u, hg⟩ | ⟨a, u, hx, hg⟩⟩ | ⟨hf, ⟨f2, hb, ⟨hx, u, hg⟩ | ⟨a, u, hx, hg⟩⟩ | ⟨fi, hx, u, hg⟩ | ⟨fi, hx, u, hg⟩⟩
    · cases hx
    · cases hx
    · cases hx
    · cases hx
    · cases hx
    · cases hx
    · cases hx
    · cases hx
      refine hg z Ch Stop y w v S K t A.rel A.noRow A.mem A.thr A.tb hl (fun v1 w1 tv hs r1 n1 e1 => ?_) (fun v1 w1 hs r1 n1 e1 => ?_)
      · have N1 := N0.on e1 r1 n1 rfl A.thr A.tb A.gc rfl
        exact shut_again u _ (fun u => gat_shut hm hne hcf hf fi hH (hob2 hs) N1 u)
      · have N1 := N0.on e1 r1 n1 rfl A.thr A.tb A.gc rfl
        exact shut_no (bc := f.bd) (ac := f.ad) (ops := f.od) (q := f.qd) (rest := f.rd) (oc := f.oe) (k := f.kd) u f.fs hf.oe r1 n1 (fun v2 w2 r2 n2 a b c => gat_ans hne hcf (4, 0) (hf.back false 4) (hob1 hs) (.inl rfl) (N1.same r2 n2 a b c))
end Go.Proofs.Ytfjjoohflcchnaa.Gen

namespace Go.Proofs.Ytfjjoohflcchnaa.Gen
open Go Go.Lift Go.Conc Go.RowKit

set_option maxHeartbeats 2000000 in
set_option maxRecDepth 100000 in
theorem body68 {v : World} {S : TS} (hm : Mem zn S [] v) (hch : S.chg = []) : Body Try.f73 #[Pt S.wb 0] v (fun r v' => ∃ lb c0, r = Pt lb 0 ∧ v'.heap.size = lb + 1 ∧ ∃ S1, Objs v S [0] (padd (fun _ => none) lb (.cells #[Pt c0 0] 142)) S1 [(c0, 0)] v') := by
  intro code hb
  obtain rfl := Option.some.inj hb
  clear hb
  have H1 : Hid (Calls Try.prog 21 #[Pt S.wb 0, I 0] v (fun e w1 => ∃ c0, e = .returned (Pt c0 0) ∧ Hid (∀ u, u.heap = w1.heap.push (.cells #[Pt c0 0] 142) → u.os = w1.os → u.output = w1.output → ∃ S1, Objs v S [0] (padd (fun _ => none) w1.heap.size (.cells #[Pt c0 0] 142)) S1 [(c0, 0)] u))) := ⟨((Objs.start hm hch).cell 0 (by decide)).mono (by
    rintro e w1 ⟨c0, rfl, hs, S1, o1⟩
    exact ⟨c0, rfl, ⟨fun u e e1 e2 => ⟨S1, o1.push e e1 e2⟩⟩⟩)⟩
  clear hm hch
  simp only [Try.ntmps73, List.size_toArray, List.length_cons, List.length_nil, Nat.reduceAdd, Nat.reduceSub, Array.replicate_succ, Array.replicate_zero, List.push_toArray, List.append_toArray, List.nil_append, List.cons_append]
  go_wp2_with (first
    | (go_at_call 21; refine H1.out.mono ?_; rintro e w1 ⟨c0, rfl, H2⟩))
  go_ret
  exact ⟨_, rfl, w1.heap.size, c0, rfl, by show (w1.heap.push _).size = _; exact Array.size_push _, H2.out _ rfl rfl rfl⟩

noncomputable def B46 : Code := Try.f48.body.getD .skip
noncomputable def k460 : Code := seq1 B46
noncomputable def k461 : Code := seq1 (seq2 B46)
noncomputable def k462 : Code := seq1 (seq2 (seq2 B46))
noncomputable def R46 : Code := seq2 (seq2 (seq2 B46))
theorem eB46 : B46 = .seq k460 (.seq k461 (.seq k462 R46)) := by kernel_rfl
theorem fine460 : fineCode Try.prog true LGt k460 := fineCode_askS callGt extT (by kernel_rfl)
theorem fine461 : fineCode Try.prog true LGt k461 := fineCode_askS callGt extT (by kernel_rfl)
theorem fine462 : fineCode Try.prog true LGt k462 := fineCode_askS callGt extT (by kernel_rfl)

section
variable {S : TS} {v : World} {wb n cap : Nat} {p : Option Addr}
set_option maxHeartbeats 2000000 in
set_option maxRecDepth 100000 in
theorem k460_wp (w0 x1 : Value) :
    k460.wp Try.prog (fun e a w' => e = .normal ∧ a = { tmps := #[w0, x1, undef, undef, .slice none 0 0, I 0] ++ Array.replicate 14 undef, defers := [] } ∧ w'.heap = v.heap ∧ w'.os = v.os ∧ w'.output = v.output)
      { tmps := #[w0, x1] ++ Array.replicate 18 undef, defers := [] } v := by
  show Code.wp Try.prog (seq1 (Try.f48.body.getD .skip)) _ _ _
  unfold Try.f48 seq1
  simp only [Option.getD_some, Array.replicate_succ, Array.replicate_zero, List.push_toArray, List.append_toArray, List.nil_append, List.cons_append]
  go_wp2_with fail
  try exact ⟨rfl, rfl, rfl⟩

set_option maxHeartbeats 2000000 in
set_option maxRecDepth 100000 in
theorem k461_yes (h : Rep zn S v) (pc : Nat → Option Addr) (ln cp : Nat → Nat) (hs : ∀ k, k < n → ∃ sb so, p = some ⟨sb, so, none⟩ ∧ v.cell? ⟨sb, so + k, none⟩ = some (.slice (pc k) (ln k) (cp k))) (hln : ∀ k, k < n → ln k ≤ 64) (hn : 0 < n ∧ n ≤ 8) (hr : S.ran = false) :
    k461.wp Try.prog (fun e a w' => e = .normal ∧ a = { tmps := #[Pt S.wb 0, .slice p n cap, undef, undef, .slice none 0 0, I 0, I 0, undef, Pt S.wb 0, .slice p n cap, I 0, I 0, .bool false] ++ Array.replicate 7 undef, defers := [] } ∧ w'.heap = v.heap ∧ w'.os = v.os ∧ w'.output = v.output)
      { tmps := #[Pt S.wb 0, .slice p n cap, undef, undef, .slice none 0 0, I 0] ++ Array.replicate 14 undef, defers := [] } v := by
  have h19 := (body19 h p n cap (by omega) pc ln cp hs).calls Try.func53 rfl
  have he : checkE n S.ran = 0 := by unfold checkE; rw [if_neg (by rw [hr]; rintro (h | h | h) <;> first | omega | cases h)]
  have H19 : Hid (Calls Try.prog 53 #[Pt S.wb 0, .slice p n cap] v (fun e w' => e = .returned (I 0) ∧ w' = v)) := ⟨h19.mono (by
    rintro e w' ⟨r, rfl, rfl, ⟨⟨k, hk, h1⟩, _⟩ | ⟨_, rfl⟩⟩
    · exact absurd (hln k hk) (by omega)
    · rw [he]; exact ⟨rfl, rfl⟩)⟩
  clear h19 h hs hln hn hr he
  show Code.wp Try.prog (seq1 (seq2 (Try.f48.body.getD .skip))) _ _ _
  unfold Try.f48 seq1 seq2
  simp only [Option.getD_some, Array.replicate_succ, Array.replicate_zero, List.push_toArray, List.append_toArray, List.nil_append, List.cons_append]
  go_wp2_with (first
    | (go_at_call 53; refine H19.out.mono ?_; rintro e w1 ⟨rfl, rfl⟩))
  try exact ⟨rfl, rfl, rfl⟩

set_option maxHeartbeats 2000000 in
set_option maxRecDepth 100000 in
theorem k462_wp (hm : Mem zn S [] v) (hch : S.chg = []) (x1 : Value) :
    k462.wp Try.prog (fun e a w' => e = .normal ∧ ∃ lb c0, a = { tmps := #[Pt S.wb 0, x1, undef, undef, .slice none 0 0, I 0, I 0, Pt (lb + 1) 0, Pt S.wb 0, x1, I 0, I 0, .bool false, undef, Pt S.wb 0, Pt lb 0] ++ Array.replicate 4 undef, defers := [] } ∧ ∃ S1, Objs v S [0] (padd (padd (fun _ => none) lb (.cells #[Pt c0 0] 142)) (lb + 1) (.cells #[Pt lb 0] 114)) S1 [(c0, 0)] w')
      { tmps := #[Pt S.wb 0, x1, undef, undef, .slice none 0 0, I 0, I 0, undef, Pt S.wb 0, x1, I 0, I 0, .bool false] ++ Array.replicate 7 undef, defers := [] } v := by
  have H1 : Hid (Calls Try.prog 73 #[Pt S.wb 0] v (fun e w' => ∃ lb c0, e = .returned (Pt lb 0) ∧ w'.heap.size = lb + 1 ∧ Hid (∀ u, u.heap = w'.heap.push (.cells #[Pt lb 0] 114) → u.os = w'.os → u.output = w'.output → ∃ S1, Objs v S [0] (padd (padd (fun _ => none) lb (.cells #[Pt c0 0] 142)) (lb + 1) (.cells #[Pt lb 0] 114)) S1 [(c0, 0)] u))) := ⟨((body68 hm hch).calls Try.func73 rfl).mono (by
    rintro e w' ⟨r, rfl, lb, c0, rfl, hs, S1, o⟩
    refine ⟨lb, c0, rfl, hs, ⟨fun u e e1 e2 => ⟨S1, ?_⟩⟩⟩
    have := o.push e e1 e2
    rw [hs] at this
    exact this)⟩
  clear hm hch
  show Code.wp Try.prog (seq1 (seq2 (seq2 (Try.f48.body.getD .skip)))) _ _ _
  unfold Try.f48 seq1 seq2
  simp only [Option.getD_some, Array.replicate_succ, Array.replicate_zero, List.push_toArray, List.append_toArray, List.nil_append, List.cons_append]
  go_wp2_with (first
    | (go_at_call 73; refine H1.out.mono ?_; rintro e w1 ⟨lb, c0, rfl, hs, H2⟩))
  exact ⟨c0, H2.out _ rfl rfl rfl⟩
end

/-- What the gate's threads read. -/
def QGate (caps : Array Value) (pk : Nat → Option Obj) (K : List (Nat × Int)) : Prop :=
  ∃ lb c0, caps = #[Pt (lb + 1) 0] ∧ pk = padd (padd (fun _ => none) lb (.cells #[Pt c0 0] 142)) (lb + 1) (.cells #[Pt lb 0] 114) ∧ K = [(c0, 0)]
theorem mineGate (caps : Array Value) (pk : Nat → Option Obj) (K : List (Nat × Int)) (h : QGate caps pk K) (X : Fix mcGate) (hf : X.fid = 77) (hc : X.caps = caps) (hp : X.pk = pk) (hk : X.kb = K.map (·.1)) : pkgGate.Mine X := by
  obtain ⟨lb, c0, rfl, rfl, rfl⟩ := h
  refine ⟨lb + 1, lb, c0, hc, fun v hv => ?_, by rw [hk]; rfl⟩
  rw [hp] at hv
  have h2 := hv (lb + 1) (.cells #[Pt lb 0] 114) (padd_at _ _ _)
  have h3 := hv lb (.cells #[Pt c0 0] 142) (by rw [padd_ne (by omega), padd_at])
  exact ⟨cell_of h2 rfl, cell_of h3 rfl⟩

set_option maxHeartbeats 2000000 in
set_option maxRecDepth 100000 in
theorem gplay_in {Ch : Nat → Prop} {Stop : Goroutine → World → Prop} {main : Bool} {S : TS} {v w : World} (p : Option Addr) (n cap : Nat) (hn8 : 0 < n ∧ n ≤ 8) (hran : S.ran = false) (hch : S.chg = []) (pc : Nat → Option Addr) (ln cp : Nat → Nat) (hln : ∀ k, k < n → ln k ≤ 64) (hs : ∀ k, k < n → ∃ sb so, p = some ⟨sb, so, none⟩ ∧ v.cell? ⟨sb, so + k, none⟩ = some (.slice (pc k) (ln k) (cp k)))
    (hm : Mem zn S [] v) (cs : List Frame) {bc : Frame} {ac : Act} {ops : Array Oper} {q : Nat} {rest : List Nat} {oc : Oper} {k : List Item} (hoc : ops[q]? = some oc)
    (hvw : Rel zn v w) (hn : NoRow Ch v)
    (hk : ∀ v' w' (bd : Frame) (ad : Act) (od : Array Oper) (qd : Nat) (rd : List Nat) (oe : Oper) (kd : List Item) (caps : Array Value) (pk : Nat → Option Obj) (S1 : TS) (K : List (Nat × Int)), Rel zn v' w' → NoRow Ch v' → Objs v S [0] pk S1 K v' → QGate caps pk K → od[qd]? = some oe →
      (∀ (Ch : Nat → Prop) (Stop : Goroutine → World → Prop) (w : World) (x : Value), (∀ d, GoesI Try.prog main (DT (ScZ zn) Ch) Stop (G (bc.at (ac.put oc.dst (.tuple #[x, I 0])) (.inRegion ops rest :: k)) cs) (w.at d)) → GoesI Try.prog main (DT (ScZ zn) Ch) Stop (G (bd.at (ad.put oe.dst x) (.inRegion od rd :: kd)) (bc.at ac (.inRegion ops (q :: rest) :: k) :: cs)) w) →
      GoesI Try.prog main (DT (ScZ zn) Ch) Stop (G ((base 54).at { tmps := #[Pt S.wb 0, .slice p n cap, .func (.func 77) #[] caps] ++ Array.replicate 36 undef, defers := [] } [.code B20]) (bd.at ad (.inRegion od (qd :: rd) :: kd) :: bc.at ac (.inRegion ops (q :: rest) :: k) :: cs)) w') :
    GoesI Try.prog main (DT (ScZ zn) Ch) Stop (G ((base 48).at { tmps := #[Pt S.wb 0, .slice p n cap] ++ Array.replicate 18 undef, defers := [] } [.code B46]) (bc.at ac (.inRegion ops (q :: rest) :: k) :: cs)) w := by
  rw [eB46]
  refine goesI_seq (dt_idle _ _) ?_
  refine goesI_plain (z := zn) (wr := true) (L := LGt) (I := NoRow Ch) hE fineGt noRow_keeps (fun v v' w w' es hi hr ho he => dt_of_z v v' w w' es hi hr ho he) hvw fine460 rfl (by simp [base]) hn
    (Q := fun a w' => a = { tmps := #[Pt S.wb 0, .slice p n cap, undef, undef, .slice none 0 0, I 0] ++ Array.replicate 14 undef, defers := [] } ∧ w'.heap = v.heap ∧ w'.os = v.os ∧ w'.output = v.output) (fun τ => k460_wp (v := onTape v τ 0) _ _) ?_
  rintro a0 v0 w0 ⟨rfl, e0, o0, u0⟩ hr0 hn0 -
  have m0 : Mem zn S [] v0 := (hm.grows (v' := v0) ⟨by rw [e0]; exact Nat.le_refl _, fun b _ => by rw [e0], o0, u0⟩).mem
  refine goesI_seq (dt_idle _ _) ?_
  refine goesI_plain (z := zn) (wr := true) (L := LGt) (I := NoRow Ch) hE fineGt noRow_keeps (fun v v' w w' es hi hr ho he => dt_of_z v v' w w' es hi hr ho he) hr0 fine461 rfl (by simp [base]) hn0
    (Q := fun a w' => a = { tmps := #[Pt S.wb 0, .slice p n cap, undef, undef, .slice none 0 0, I 0, I 0, undef, Pt S.wb 0, .slice p n cap, I 0, I 0, .bool false] ++ Array.replicate 7 undef, defers := [] } ∧ w'.heap = v0.heap ∧ w'.os = v0.os ∧ w'.output = v0.output)
    (fun τ => k461_yes (v := onTape v0 τ 0) (m0.grows (v' := onTape v0 τ 0) ⟨Nat.le_refl _, fun _ _ => rfl, rfl, rfl⟩).mem.rep pc ln cp (fun k hk => by
      obtain ⟨sb, so, h1, h2⟩ := hs k hk
      refine ⟨sb, so, h1, ?_⟩
      rw [World.cell?_of_block (w := v) (w' := onTape v0 τ 0) (by show v0.heap[_]? = _; rw [e0])]
      exact h2) hln hn8 hran) ?_
  rintro a1 v1 w1 ⟨rfl, e1, o1, u1⟩ hr1 hn1 -
  have m1 : Mem zn S [] v1 := (m0.grows (v' := v1) ⟨by rw [e1]; exact Nat.le_refl _, fun b _ => by rw [e1], o1, u1⟩).mem
  refine goesI_seq (dt_idle _ _) ?_
  refine goesI_plain (z := zn) (wr := true) (L := LGt) (I := NoRow Ch) hE fineGt noRow_keeps (fun v v' w w' es hi hr ho he => dt_of_z v v' w w' es hi hr ho he) hr1 fine462 rfl (by simp [base]) hn1
    (Q := fun a w' => ∃ lb c0, a = { tmps := #[Pt S.wb 0, .slice p n cap, undef, undef, .slice none 0 0, I 0, I 0, Pt (lb + 1) 0, Pt S.wb 0, .slice p n cap, I 0, I 0, .bool false, undef, Pt S.wb 0, Pt lb 0] ++ Array.replicate 4 undef, defers := [] } ∧ ∃ S1, Objs v1 S [0] (padd (padd (fun _ => none) lb (.cells #[Pt c0 0] 142)) (lb + 1) (.cells #[Pt lb 0] 114)) S1 [(c0, 0)] w') (fun τ => ?_) ?_
  · refine wp_mono (k462_wp (v := onTape v1 τ 0) (m1.grows (v' := onTape v1 τ 0) ⟨Nat.le_refl _, fun _ _ => rfl, rfl, rfl⟩).mem hch _) (fun e a w' hq => ⟨hq.1, ?_⟩)
    obtain ⟨_, lb, c0, h1, S1, o⟩ := hq
    exact ⟨lb, c0, h1, S1, ⟨o.cel.from rfl rfl rfl, o.vals, o.st, o.has, o.new, o.row⟩⟩
  rintro a3 v3 w3 ⟨lb, c0, rfl, S3, ob3⟩ hr3 hn3 -
  have hset : Objs v S [0] (padd (padd (fun _ => none) lb (.cells #[Pt c0 0] 142)) (lb + 1) (.cells #[Pt lb 0] 114)) S3 [(c0, 0)] v3 :=
    ⟨ob3.cel.from (e1.trans e0) (o1.trans o0) (u1.trans u0), ob3.vals, ob3.st, ob3.has, fun b hb => by rw [← e0, ← e1]; exact ob3.new b hb, ob3.row⟩
  have hql : QGate #[Pt (lb + 1) 0] (padd (padd (fun _ => none) lb (.cells #[Pt c0 0] 142)) (lb + 1) (.cells #[Pt lb 0] 114)) [(c0, 0)] := ⟨lb, c0, rfl, rfl, rfl⟩
  clear ob3 hr0 hr1 hn0 hn1 e0 e1 o0 o1 u0 u1 hvw hn hs hln m0 m1 hm
  unfold R46 B46 Try.f48 seq2
  simp only [Option.getD_some]
  refine goesI_seq (dt_idle _ _) ?_
  refine goesI_region (dt_idle _ _) ?_
  simp only [List.size_toArray, List.length_cons, List.length_nil, Nat.reduceAdd, Nat.zero_add, List.range, List.range.loop]
  iterate 3
    (refine goesI_oper rfl rfl (by decide) (fun d K hK => ?_)
     go_simp
     refine hK _ _ ⟨dt_reads (fun e he => ?_), GoesI.at ?_ d⟩
     · have hm := mem_listed he
       simp [go_sem, *] at hm
       try exact ⟨_, _, hm⟩
     clear hK K)
  refine goesI_into (f := 54) (fn := Try.f54) (args := #[Pt S.wb 0, .slice p n cap, .func (.func 77) #[] #[Pt (lb + 1) 0]]) (dt_idle _ _) rfl rfl (by decide) rfl (by simp [Act.eval]) Try.func54 (by decide) rfl ?_
  refine hk v3 w3 _ _ _ _ _ _ _ _ _ _ _ hr3 hn3 hset hql rfl (fun Ch Stop w x hg => ?_)
  clear hk hset hr3 hn3 hql
  iterate 2
    (refine goesI_oper rfl rfl (by decide) (fun d K hK => ?_)
     go_simp
     refine hK _ _ ⟨dt_reads (fun e he => ?_), GoesI.at ?_ d⟩
     · have hm := mem_listed he
       simp [go_sem, *] at hm
       try exact ⟨_, _, hm⟩
     clear hK K)
  refine goesI_regionEnd (dt_idle _ _) ?_
  refine GoesI.ctl rfl (fun _ => stepG_ret') (dt_idle _ _) ?_
  refine goesI_leave (b := base 48) (fn := Try.f48) (v := .tuple #[x, I 0]) rfl rfl Try.func48 (fun w => ?_) (fun w => by simp [results, go_sem, Try.f48]) hoc (dt_idle _ _) ?_
  · rw [results_tmp2 (t := 4) (u := 5) rfl]
    simp
  · have := hg w.drawn
    exact this

section
variable {S : TS} {n sb so cap : Nat} {pc : Nat → Option Addr} {ln cp rb : Nat → Nat} {cl : Nat → List Cl}
theorem gplayG_all {cs : List Frame} {bc : Frame} {ac : Act} {ops : Array Oper} {q0 : Nat} {rest : List Nat} {oc : Oper} {k0 : List Item} (hoc : ops[q0]? = some oc) {w : World} {T : Trace} {gs : Array Goroutine} {q : Nat → Nat} (sl : Option (Nat × Nat)) (NT : Nat) (A : Alone gs w T q)
    (hg : gs[0]? = some (G ((base 48).at { tmps := #[Pt S.wb 0, .slice (some ⟨sb, so, none⟩) n cap] ++ Array.replicate 18 undef, defers := [] } [.code B46]) (bc.at ac (.inRegion ops (q0 :: rest) :: k0) :: cs)))
    (hm : Mem zn S [] w) (hthr : S.thr = []) (hran : S.ran = false) (hch : S.chg = []) (hbk : Open w S.bk) (t : Asked w S n sb so pc ln cp rb cl) (hn8 : 0 < n ∧ n ≤ 8)
    (hlen : ∀ caps pk N K, S.n + 2 * lens (scrs mcGate 77 caps pk N n K pc ln cp rb cl) ≤ 1000000) (hsl : S.sched.length ≤ 4611686018427387904) (hsc : ∀ x ∈ S.sched, -9223372036854775808 ≤ x ∧ x < 9223372036854775808) (l0 : Nat → Ph)
    (hturn : ∀ (caps : Array Value) (pk : Nat → Option Obj) (N : Nat) (cv : Value) (K : List (Nat × Int)), K.map (·.2) = [0] → ∀ S1 l1, Hires mcGate 0 (scrs mcGate 77 caps pk N n K pc ln cp rb cl) (nv { cellsS S cv 1 with ran := true }) l0 S1 l1 → ∃ m p', m ≤ NT ∧ Turns mcGate m ⟨S1, K, l1⟩ p' ∧ p'.S.n * 40 ≤ 140737488355328) :
    ∃ (N' : Nat) (gs' : Array Goroutine) (w' : World) (sl' : Option (Nat × Nat)) (T' : Trace) (q' : Nat → Nat) (caps : Array Value) (pk : Nat → Option Obj) (N : Nat) (cv : Value) (K : List (Nat × Int)) (S' : TS) (S1 : TS) (l1 : Nat → Ph) (m : Nat) (p' : PSt),
      runNT Try.prog N' (crowd gs w sl) T = (.next (crowd gs' w' sl'), T') ∧ gs'.size = gs.size + n ∧ gs'[0]? = some (G (bc.at (ac.put oc.dst (.tuple #[.slice (some ⟨N + 1, 0, none⟩) n n, I 0])) (.inRegion ops rest :: k0)) cs) ∧
      Alone gs' w' T' q' ∧ K.map (·.2) = [0] ∧ nv S' = p'.S ∧ Hires mcGate 0 (scrs mcGate 77 caps pk N n K pc ln cp rb cl) (nv { cellsS S cv 1 with ran := true }) l0 S1 l1 ∧ Turns mcGate m ⟨S1, K, l1⟩ p' ∧ GOut w S n ln N S' p'.K p'.l w' := by
  refine gplay_all (xs := [0]) (cap := cap) (q0 := q0) pkgGate mineGate sl NT A hg ?_ hm hthr hran hbk t hn8 hlen hsl hsc l0 hturn
  exact gplay_in (some ⟨sb, so, none⟩) n cap hn8 hran hch pc ln cp (fun k hk => (t.len k hk).2) (fun k hk => ⟨sb, so, rfl, t.row k hk⟩) hm cs hoc (Rel.refl w) (fun c hc => hc.elim)
    (fun v' w' bd ad od qd rd oe kd caps pk S1 K hr hn ho hq hoe hback => GoesI.stop fun d => ⟨bd, ad, od, qd, rd, oe, kd, caps, pk, S1, K, ho.same hr.eq hr.os hr.output, hq, hoe, hback, rfl⟩)
end
end Go.Proofs.Ytfjjoohflcchnaa.Gen

namespace Go.Proofs.Ytfjjoohflcchnaa.Gen
open Go Go.Lift Go.Conc Go.RowKit
variable {mc : Mc}

theorem turns_det : ∀ {m m' : Nat} {p p1 p2 : PSt}, Turns mc m p p1 → Turns mc m' p p2 → p1 = p2
  | _, _, _, _, _, .stop h, .stop h' => rfl
  | _, _, _, _, _, .stop h, .step h' _ => by rw [h] at h'; cases h'
  | _, _, _, _, _, .step h _, .stop h' => by rw [h] at h'; cases h'
  | _, _, _, _, _, .step h t, .step h' t' => by
    rw [h] at h'
    cases h'
    exact turns_det t t'
def pt (mc : Mc) (p : PSt) : PSt := (pturn mc p).getD p
def pts (mc : Mc) : Nat → PSt → PSt
  | 0, p => p
  | n + 1, p => pts mc n (pt mc p)
def runs (mc : Mc) : Nat → PSt → Bool
  | 0, p => (pturn mc p).isNone
  | n + 1, p => (pturn mc p).isSome && runs mc n (pt mc p)
theorem turns_of : ∀ (n : Nat) (p : PSt), runs mc n p = true → Turns mc n p (pts mc n p)
  | 0, p, h => by
    refine .stop ?_
    cases hp : pturn mc p with
    | none => rfl
    | some x => unfold runs at h; rw [hp] at h; cases h
  | n + 1, p, h => by
    unfold runs at h
    rw [Bool.and_eq_true] at h
    refine .step ?_ (turns_of n (pt mc p) h.2)
    unfold pt
    cases hp : pturn mc p with
    | none => rw [hp] at h; cases h.1
    | some x => rfl
end Go.Proofs.Ytfjjoohflcchnaa.Gen

namespace Go.Proofs.Ytfjjoohflcchnaa.Gen
open Go Go.Lift Go.Conc Go.RowKit
open Go.ConcN (upd upd_same upd_ne)

def clsG : List Cl := [⟨1, 0, 0, 0⟩, ⟨2, 0, 0, 0⟩, ⟨3, 0, 0, 0⟩]
/-- The world ahead of the hiring. -/
def awSG (wb bk base : Nat) (sc cv : Value) (k : Nat) : TS := nv { cellsS (newS wb bk base sc []) cv k with ran := true }
def awPG (wb bk base : Nat) (sc cv : Value) (tv0 : Value) (tb0 gc0 : Nat) (c0 : Nat) (l0 : Nat → Ph) : PSt :=
  ⟨(flow 0 mcGate clsG 0 false [(0, 0), (0, 0), (0, 0)] (hiredS (awSG wb bk base sc cv 1) tv0 tb0 gc0)).1, [(c0, 0)], upd l0 0 (flow 0 mcGate clsG 0 false [(0, 0), (0, 0), (0, 0)] (hiredS (awSG wb bk base sc cv 1) tv0 tb0 gc0)).2⟩
section
variable (wb bk base : Nat) (sc cv : Value) (tv0 : Value) (tb0 gc0 : Nat) (c0 : Nat) (l0 : Nat → Ph)
set_option maxRecDepth 100000
theorem awg_runs : runs mcGate 7 (awPG wb bk base sc cv tv0 tb0 gc0 c0 l0) = true := by kernel_rfl
theorem awg_n : (pts mcGate 7 (awPG wb bk base sc cv tv0 tb0 gc0 c0 l0)).S.n = 13 := by kernel_rfl
theorem awg_ans : ((pts mcGate 7 (awPG wb bk base sc cv tv0 tb0 gc0 c0 l0)).l 0).ans = [(0, 0), (0, 0), (0, 1)] := by kernel_rfl
end
end Go.Proofs.Ytfjjoohflcchnaa.Gen
