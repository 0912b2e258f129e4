/- ChainRing: of a ring the last who writes down is told, under every schedule. Part 32 of 37. (Joined, by program, of: ChPk, ChN.) -/
import Derived.Test.YtfjjoohflcchnaaChainRing14
import Derived.Test.YtfjjoohflcchnaaChainRing25
import Derived.Test.YtfjjoohflcchnaaChainRing26
import Derived.Test.YtfjjoohflcchnaaChainRing30
import Derived.Test.YtfjjoohflcchnaaChainRing31
set_option linter.unusedSimpArgs false
set_option linter.unusedVariables false
namespace Go.Proofs.Ytfjjoohflcchnaa.Gen
open Go Go.Lift Go.Conc Go.RowKit

abbrev box0 : Obj := .cells #[I 0, I 0] 42 (0, 0)
def boxO (pb : Nat) : Nat → Option Obj := fun b => if b = pb then some box0 else none
theorem boxO_at (pb : Nat) : boxO pb pb = some box0 := by unfold boxO; rw [if_pos rfl]
theorem boxO_eq {pb b : Nat} (h : boxO pb b ≠ none) : b = pb := by
  unfold boxO at h
  split at h
  · assumption
  · exact absurd rfl h
theorem boxO_row (pb : Nat) : ∀ b o, boxO pb b = some o → ∃ c e f, o = .cells c e f := fun b o h => by
  unfold boxO at h
  split at h
  · cases h; exact ⟨_, _, _, rfl⟩
  · cases h
/-- The frames below what a call calls. -/
structure Frs where
  bd : Frame
  ad : Act
  od : Array Oper
  qd : Nat
  rd : List Nat
  oe : Oper
  kd : List Item
  fs : List Frame
namespace Frs
def cu (f : Frs) (r : Value) : Goroutine := G (f.bd.at (f.ad.put f.oe.dst r) (.inRegion f.od f.rd :: f.kd)) f.fs
def top (f : Frs) : Frame := f.bd.at f.ad (.inRegion f.od (f.qd :: f.rd) :: f.kd)
end Frs

section
variable {mc : Mc} {X : Fix mc} {z : Nat → Option Nat} {cont : Addr → Value} {Ch : Nat → Prop} {Stop : Goroutine → World → Prop} {cu : Value → Goroutine} {S0 : TS} {K0 : List (Nat × Int)} {v0 : World} {Mo0 Mo Mo' : Nat → Option Obj} {σ : TS} {κ : List (Nat × Int)} {S : TS} {v w v' w' : World} {t : Thr}
/-- It has more for its own. -/
theorem Now.more (N : Now X z cont Ch S0 K0 v0 Mo0 Mo σ κ S v w t) (g : Grows v v') (r : Rel z v' w') (n : NoRow Ch v') (hd : ∀ b, Mo' b ≠ none → Mo b ≠ none ∨ v.heap.size ≤ b) (hm : Has Mo' v') (hr : ∀ b o, Mo' b = some o → ∃ c e f, o = .cells c e f) : Now X z cont Ch S0 K0 v0 Mo0 Mo' σ κ S v' w' t := by
  have N1 := N.on (N.at_.mem.grows g) r n N.nv N.at_.thr N.at_.tb N.at_.gc rfl N.at_.kb.2
  exact ⟨N1.at_, N1.evo, N1.nv, N1.bk, hm, fun b hb => (hd b hb).elim (N1.far b) (fun h ho => by have := N.at_.mem.lt ho; omega), fun b hb => (hd b hb).elim (N.new b) (fun h => .inr (Nat.le_trans N.evo.fr.size h)), hr⟩
/-- It writes what it has for its own. -/
theorem Now.write (N : Now X z cont Ch S0 K0 v0 Mo0 Mo σ κ S v w t) {B : Nat} (hB : Mo B ≠ none) (hpk : X.pk B = none) (r : Rel z v' w') (n : NoRow Ch v') (hw : ∀ b, b ≠ B → v'.heap[b]? = v.heap[b]?) (hs : v'.heap.size = v.heap.size) (ho : v'.os = v.os) (hu : v'.output = v.output) (hd : ∀ b, Mo' b ≠ none → Mo b ≠ none) (hm : Has Mo' v') (hr : ∀ b o, Mo' b = some o → ∃ c e f, o = .cells c e f) : Now X z cont Ch S0 K0 v0 Mo0 Mo' σ κ S v' w' t := by
  have ev := N.at_.mem.other (v' := v') (N.far B hB) hw hs ho hu
  refine ⟨⟨r, n, ev.mem, N.at_.thr, N.at_.tb, N.at_.gc, N.at_.kb, N.at_.z, N.at_.cont, fun b o hb => ?_, N.at_.far⟩, N.evo.join ev (fun b hb => ?_), N.nv, N.bk, hm, fun b hb => N.far b (hd b hb), fun b hb => N.new b (hd b hb), hr⟩
  · rw [hw b (fun e => by subst e; rw [hpk] at hb; cases hb)]; exact N.at_.pk b o hb
  · have e : b = B := hb
    subst e
    exact N.new b hB
end


section
variable {mc : Mc} {X : Fix mc} {z : Nat → Option Nat} {cont : Addr → Value} {Ch : Nat → Prop} {K : List (Nat × Int)} {S : TS} {v w v' w' : World} {t : Thr}
/-- A call has its box. -/
theorem now_box (A : At X z cont Ch S K v w t) (hr : Rel z v' w') (hn : NoRow Ch v') (hg : Grows v v') (hbox : v'.heap[v.heap.size + 1]? = some (.cells #[I 0, I 0] 42 (0, 0))) : Now X z cont Ch S K v (fun _ => none) (boxO (v.heap.size + 1)) (Gen.nv S) K S v' w' t := by
  have hlt : v.heap.size + 1 < v'.heap.size := (Array.getElem?_eq_some_iff.1 hbox).1
  refine ⟨⟨hr, hn, (A.mem.grows hg).mem, A.thr, A.tb, A.gc, A.kb, A.z, A.cont, fun b o hb => ?_, A.far⟩, Evo.toP (A.mem.grows hg), rfl, rfl, fun b o hb => ?_, fun b hb ho => ?_, fun b hb => ?_, boxO_row _⟩
  · have h1 := A.pk b o hb
    rw [hg.old b (Array.getElem?_eq_some_iff.1 h1).1]; exact h1
  · have e := boxO_eq (pb := v.heap.size + 1) (b := b) (by rw [hb]; simp)
    subst e
    rw [boxO_at] at hb
    cases hb
    exact hbox
  · have e := boxO_eq hb
    have := A.mem.lt ho
    omega
  · have e := boxO_eq hb
    exact .inr (by omega)
end

structure HMine (n : Nat) (X : Fix (mcH n)) (c sb : Nat) : Prop where
  caps : X.caps = #[Pt c 0]
  mem : ∀ v, Has X.pk v → Chn v c sb n X.kb
abbrev FAa (c tb fr to : Nat) (a : Act) : Prop := Fl 35 [(0, Pt c 0), (1, Pt tb 0), (2, I (fr : Nat)), (3, I (to : Nat))] a
abbrev FLa (n c tb x fr k : Nat) (a : Act) : Prop := Fl 34 [(0, Pt c 0), (1, Pt tb 0), (2, I (x : Nat)), (3, I (fr : Nat)), (14, I (n : Nat)), (15, I (k : Nat))] a
abbrev encB (b : Bool) : Value := .bool b
abbrev ansB (b : Bool) : Int × Int := (0, if b then 1 else 0)
/-- The seats. -/
def hSit (n : Nat) (X : Fix (mcH n)) (x : Nx) (Mo : Nat → Option Obj) (cu : Value → Goroutine) (g : Goroutine) : Prop :=
  ∃ (c sb pb : Nat) (f : Frs), HMine n X c sb ∧ f.od[f.qd]? = some f.oe ∧ CBack (X.h == 0) pb encB ansB f.cu cu ∧ Mo = boxO pb ∧
    ((∃ (fr to cb : Nat) (a : Act), x = .turn 2 fr (0, [(fr : Int), (to : Int)]) ∧ fr < n ∧ to < n ∧ X.kb[fr]? = some cb ∧ FAa c X.tb fr to a ∧ OpBack (X.h == 0) X.i fr cb X.tb 2 (effStore ((to : Int) + 1)) (fun r => G (hkPut a r) (f.top :: f.fs)) g) ∨
     (∃ (fr k y cb : Nat) (a : Act) (f2 : Frs), x = .turn 1 y (1, [(fr : Int), (k : Int), (y : Int)]) ∧ fr < n ∧ k < n ∧ y < n ∧ X.kb[y]? = some cb ∧ FLa n c X.tb y fr k a ∧ f2.od[f2.qd]? = some f2.oe ∧ ABack (X.h == 0) f2.cu f.cu ∧ f2.fs = f.top :: f.fs ∧ OpBack (X.h == 0) X.i y cb X.tb 1 effLoad (fun r => G (hlSeen a r) (f2.top :: f2.fs)) g))

section
variable {n : Nat} {X : Fix (mcH n)} {z : Nat → Option Nat} {cont : Addr → Value} {Ch : Nat → Prop} {Stop : Goroutine → World → Prop} {cu : Value → Goroutine} {S0 : TS} {K0 : List (Nat × Int)} {v0 : World} {Mo0 Mo : Nat → Option Obj} {σ : TS} {κ : List (Nat × Int)} {S : TS} {v w : World} {t : Thr} {H : Nx → (Nat → Option Obj) → Goroutine → Prop} {c sb pb : Nat} {f f2 : Frs}
/-- The call has its answer. -/
theorem h_ans (hB : CBack (X.h == 0) pb encB ansB f.cu cu) (y : Bool) {x : Nx} (hob : Ob X H z cont Ch Stop cu S0 K0 v0 Mo0 σ κ x) (hx : x = .ans (ansB y).1 (ansB y).2) (N : Now X z cont Ch S0 K0 v0 Mo0 (boxO pb) σ κ S v w t) :
    GoesI Try.prog (X.h == 0) (DT (ScZ z) Ch) Stop (f.cu (encB y)) w :=
  hB z Ch Stop w v S κ y N.at_.rel N.at_.noRow N.at_.mem (N.mo pb _ (boxO_at pb)) (N.far pb (by rw [boxO_at]; simp)) (fun v' w' r n ev => hob.ans (ansB y) (.inl hx) v' w' S r n N.nv (N.evo.join ev (fun b hb => by
    have hb' : b = pb := hb
    subst hb'
    exact N.new b (by rw [boxO_at]; simp))))
/-- At the loop's head. -/
theorem h_head (hm : HMine n X c sb) (hoe : f.od[f.qd]? = some f.oe) (hB : CBack (X.h == 0) pb encB ansB f.cu cu) (hoe2 : f2.od[f2.qd]? = some f2.oe) (hA2 : ABack (X.h == 0) f2.cu f.cu) (hfs : f2.fs = f.top :: f.fs) (hH : ∀ x Mo' g, Good v0 Mo0 x Mo' → hSit n X x Mo' cu g → H x Mo' g) {fr x k : Nat} (hf : fr < n) (hxn : x < n) {a : Act} (hA : FLa n c X.tb x fr k a)
    (hob : Ob X H z cont Ch Stop cu S0 K0 v0 Mo0 σ κ (nxH n fr x k)) (N : Now X z cont Ch S0 K0 v0 Mo0 (boxO pb) σ κ S v w t) :
    GoesI Try.prog (X.h == 0) (DT (ScZ z) Ch) Stop (G (hlFr a) (f2.top :: f2.fs)) w := by
  have back : ∀ (r : Bool), nxH n fr x k = .ans (ansB r).1 (ansB r).2 → ∀ w', Rel z v w' → GoesI Try.prog (X.h == 0) (DT (ScZ z) Ch) Stop (f2.cu (.bool r)) w' := fun r hr w' hw' =>
    hA2 z Ch Stop w' v r hw' N.at_.noRow (fun w2 hw2 => h_ans hB r hob hr (N.same hw2 N.at_.noRow rfl rfl rfl))
  by_cases hk : k < n
  · by_cases hx : x = fr
    · exact lead_yes (bc := f2.bd) (ac := f2.ad) (ops := f2.od) (q := f2.qd) (rest := f2.rd) (oc := f2.oe) (k0 := f2.kd) hk hx hA f2.fs hoe2 N.at_.rel N.at_.noRow (back true (by unfold nxH; rw [if_pos hk, if_pos hx]; rfl))
    · have e : nxH n fr x k = .turn 1 x (1, [(fr : Int), (k : Int), (x : Int)]) := by unfold nxH; rw [if_pos hk, if_neg hx]
      rw [e] at hob
      have hC := hm.mem v N.at_.pk
      obtain ⟨cb, hcb, hcell⟩ := hC.cel x hxn
      have hA' : FLa n c t.tb x fr k a := by rw [N.at_.tb]; exact hA
      exact lead_look (h := X.h) (i := X.i) (cb := cb) _ hk hxn hx hC.row hcell hA' _ (H (.turn 1 x (1, [(fr : Int), (k : Int), (x : Int)])) (boxO pb)) (fun g hg => by
        obtain ⟨a1, hA1, hg⟩ := hg
        rw [N.at_.tb] at hA1 hg
        exact hH _ _ g (N.good (fun _ _ h => by cases h)) ⟨c, sb, pb, f, hm, hoe, hB, rfl, .inr ⟨fr, k, x, cb, a1, f2, rfl, hf, hk, hxn, hcb, hA1, hoe2, hA2, hfs, hg⟩⟩) N.at_.rel N.at_.noRow N.at_.mem N.at_.thr (N.cell hcb).1 (by rw [N.at_.tb]; exact N.at_.z) (by rw [N.at_.tb, N.at_.gc]; exact N.at_.cont) (ob_turn hob N)
  · exact lead_end (bc := f2.bd) (ac := f2.ad) (ops := f2.od) (q := f2.qd) (rest := f2.rd) (oc := f2.oe) (k0 := f2.kd) (by omega) hA f2.fs hoe2 N.at_.rel N.at_.noRow (back false (by unfold nxH; rw [if_neg hk]; rfl))
end

set_option maxHeartbeats 2000000 in
noncomputable def pkgH (n : Nat) : Pkg (mcH n) 81 where
  fn := Try.f81
  code := Try.f81.body.getD .skip
  hf := Try.func81
  hname := by kernel_rfl
  hcode := rfl
  Mine X := ∃ c sb, HMine n X c sb
  Sit := hSit n
  start := by
    rintro X ok ⟨c, sb, hm⟩ hfid c' hc cs bc ac ops q rest oc k hoc H z cont Ch Stop S K v w t A hH hob
    rw [hm.caps]
    show GoesI Try.prog (X.h == 0) (DT (ScZ z) Ch) Stop (G ((base 81).at { tmps := #[Pt c 0, Pt X.tb 0, .agg #[I c'.po, I c'.ca, I c'.cb, I c'.cc]] ++ Array.replicate 27 undef, defers := [] } [.code (Try.f81.body.getD .skip)]) (bc.at ac (.inRegion ops (q :: rest) :: k) :: cs)) w
    by_cases h1 : c'.po = 1
    · have es : (mcH n).start X.i c' = .turn 2 (keyH n c'.ca) (0, [(keyH n c'.ca : Int), (keyH n c'.cb : Int)]) := by simp [mcH, h1]
      rw [es] at hob
      rw [h1]
      have hC0 := hm.mem v A.pk
      refine call_ask c'.ca c'.cb c'.cc hC0.n0 hC0.n1 hC0.row cs hoc A.rel A.noRow (fun v' w' bd ad od qd rd oe kd r nn g hbox hoe hB code hcode => ?_) _ rfl
      have N := now_box A r nn g hbox
      have hC := hm.mem v' N.at_.pk
      have hf := keyH_lt hC.n0 c'.ca
      have ht := keyH_lt hC.n0 c'.cb
      obtain ⟨cb, hcb, hcell⟩ := hC.cel (keyH n c'.ca) hf
      have := ask_in (h := X.h) (i := X.i) (cb := cb) (t := t) (z := z) (cont := cont) (S := S) (K := K) _ hf ht hC.n1 hC.row hcell (bd.at ad (.inRegion od (qd :: rd) :: kd) :: bc.at ac (.inRegion ops (q :: rest) :: k) :: cs) (H (.turn 2 (keyH n c'.ca) (0, [(keyH n c'.ca : Int), (keyH n c'.cb : Int)])) (boxO (v.heap.size + 1))) (fun g hg => by
        obtain ⟨a1, hA1, hg⟩ := hg
        rw [N.at_.tb] at hA1 hg
        exact hH _ _ g (N.good (fun _ _ h => by cases h)) ⟨c, sb, v.heap.size + 1, ⟨bd, ad, od, qd, rd, oe, kd, bc.at ac (.inRegion ops (q :: rest) :: k) :: cs⟩, hm, hoe, hB, rfl, .inl ⟨_, _, cb, a1, rfl, hf, ht, hcb, hA1, hg⟩⟩) r nn N.at_.mem N.at_.thr (N.cell hcb).1 (by rw [N.at_.tb]; exact N.at_.z) (by rw [N.at_.tb, N.at_.gc]; exact N.at_.cont) (ob_turn hob N) code hcode
      rw [N.at_.tb] at this
      exact this
    · have es : (mcH n).start X.i c' = .ans 1 0 := by simp [mcH, h1]
      rw [es] at hob
      exact call_no c'.po c'.ca c'.cb c'.cc h1 cs hoc A.rel A.noRow (fun v' w' r nn g => hob.ans (1, 0) (.inl rfl) v' w' S r nn rfl (Evo.toP (A.mem.grows g))) _ rfl
  turn := by
    rintro X ok - hfid op j q Mo cu g ⟨c, sb, pb, f, hm, hoe, hB, rfl, hsit⟩ H z cont Ch Stop y S K v w t A hH hop hce hl hMo hMf hMp hob
    have N0 := Now.here A hMo hMf (boxO_row pb)
    have hC0 := hm.mem v A.pk
    rcases hsit with ⟨fr, to, cb, a, hx, hf, ht, hcb, hA, hg⟩ | ⟨fr, k, x, cb, a, f2, hx, hf, hk, hxn, hcb, hA, hoe2, hA2, hfs, hg⟩
    · cases hx
      have hc := N0.cell hcb
      refine hg z Ch Stop y w v S K t (cellAt K j).2 A.rel A.noRow A.mem A.thr A.tb hop hce hc.1 hl (fun v1 w1 tv r1 n1 e1 => ?_)
      have e2 : (cellAt K j).1 = cb := by rw [hc.2]
      have hok := A.kb.2.set j (0, [(j : Int), (to : Int)]) cb
      have em : (mcH n).turn (0, [(j : Int), (to : Int)]) (cellAt K j).2 = (((cellAt K j).2, (to : Int) + 1), (to : Int) + 1, nxH n j to 0) := by
        have e : ((to : Int) % (n : Int)) = to := Int.emod_eq_of_lt (by omega) (by omega)
        simp [mcH, Nat.mod_eq_of_lt ht, e]
      rw [em] at hob hok
      rw [e2] at hob
      have sd := sta_did (i := X.i) S tv t (cellAt K j).2 ((to : Int) + 1)
      have N1 := N0.on e1 r1 n1 (nv_did tv t _ _) (did_thr A.thr) A.tb A.gc sd.bk hok
      refine ask_next (v := v1) (bc := f.bd) (ac := f.ad) (ops := f.od) (q := f.qd) (rest := f.rd) (oc := f.oe) (k0 := f.kd) _ hA f.fs hoe (fun bd ad od qd rd oe kd hoe2 hA2 code hcode => ?_)
      have hC := hm.mem v1 N1.at_.pk
      exact lead_in hC.row _ r1 (fun a2 hL => h_head (f := f) (f2 := ⟨bd, ad, od, qd, rd, oe, kd, f.top :: f.fs⟩) hm hoe hB hoe2 hA2 rfl hH hf ht hL hob N1) code hcode
    · cases hx
      have hc := N0.cell hcb
      refine hg z Ch Stop y w v S K t (cellAt K j).2 A.rel A.noRow A.mem A.thr A.tb hop hce hc.1 hl (fun v1 w1 tv r1 n1 e1 => ?_)
      have e2 : (cellAt K j).1 = cb := by rw [hc.2]
      have hok := A.kb.2.set j (1, [(fr : Int), (k : Int), (j : Int)]) cb
      have hval := A.kb.2 j _ hc.1 hC0.n0
      have em : (mcH n).turn (1, [(fr : Int), (k : Int), (j : Int)]) (cellAt K j).2 = (((cellAt K j).2, (cellAt K j).2), (cellAt K j).2, if (cellAt K j).2 = 0 then .ans 0 0 else nxH n fr ((cellAt K j).2 - 1).toNat (k + 1)) := by
        simp [mcH]
      rw [em] at hob hok
      rw [e2] at hob
      have sd := sta_did (i := X.i) S tv t (cellAt K j).2 (cellAt K j).2
      have N1 := N0.on e1 r1 n1 (nv_did tv t _ _) (did_thr A.thr) A.tb A.gc sd.bk hok
      have hob : Ob X H z cont Ch Stop cu S K v (boxO pb) (didS (Gen.nv S) undef X.i t (cellAt K j).2 (cellAt K j).2) (K.set j (cb, (cellAt K j).2)) (if (cellAt K j).2 = 0 then .ans 0 0 else nxH n fr ((cellAt K j).2 - 1).toNat (k + 1)) := hob
      show GoesI Try.prog (X.h == 0) (DT (ScZ z) Ch) Stop (G (hlSeen a (I (cellAt K j).2)) (f2.top :: f2.fs)) w1
      by_cases h0 : (cellAt K j).2 = 0
      · rw [if_pos h0] at hob
        rw [h0]
        exact lead_no (bc := f2.bd) (ac := f2.ad) (ops := f2.od) (q := f2.qd) (rest := f2.rd) (oc := f2.oe) (k0 := f2.kd) hA f2.fs hoe2 r1 n1 (fun w2 r2 => hA2 z Ch Stop w2 v1 false r2 n1 (fun w3 r3 => h_ans hB false hob rfl (N1.same r3 n1 rfl rfl rfl)))
      · rw [if_neg h0] at hob
        obtain ⟨b, hb⟩ : ∃ b : Nat, (cellAt K j).2 = (b : Int) + 1 := ⟨((cellAt K j).2 - 1).toNat, by omega⟩
        have hbn : b < n := by omega
        have eb : ((cellAt K j).2 - 1).toNat = b := by omega
        rw [eb] at hob
        rw [hb]
        have hn1 := hC0.n1
        exact lead_next hk hn1 (by omega) hA _ (fun a2 hL => h_head hm hoe hB hoe2 hA2 hfs hH hf hbn hL hob N1)
  wake := by
    rintro X ok - hfid j q Mo cu g ⟨c, sb, pb, f, hm, hoe, hB, rfl, hsit⟩
    rcases hsit with ⟨fr, to, cb, a, hx, hf, ht, hcb, hA, hg⟩ | ⟨fr, k, x, cb, a, f2, hx, hf, hk, hxn, hcb, hA, hoe2, hA2, hfs, hg⟩ <;> cases hx
end Go.Proofs.Ytfjjoohflcchnaa.Gen

namespace Go.Proofs.Ytfjjoohflcchnaa.Gen
open Go Go.Lift Go.Conc Go.RowKit

section
variable {v u u' : World} {S S1 : TS} {K : List (Nat × Int)} {xs : List Int} {pk : Nat → Option Obj}
/-- A row of the objects' own is written. -/
theorem Objs.set (h : Objs v S xs pk S1 K u) {b : Nat} {o o' : Obj} (hb : pk b = some o) (hvb : v.heap.size ≤ b) (hw : ∀ x, x ≠ b → u'.heap[x]? = u.heap[x]?) (hn : u'.heap[b]? = some o') (hs : u'.heap.size = u.heap.size) (e1 : u'.os = u.os) (e2 : u'.output = u.output) (hr : ∃ c e f, o' = .cells c e f) : Objs v S xs (padd pk b o') S1 K u' := by
  have ho := (h.new b (by rw [hb]; simp)).2
  have em := h.cel.mem.other (v' := u') ho hw hs e1 e2
  refine ⟨⟨em.mem, ⟨e1.trans h.cel.fr.os, e2.trans h.cel.fr.output, by rw [hs]; exact h.cel.fr.size, fun x hx hn => by rw [hw x (by omega)]; exact h.cel.fr.block x hx hn⟩, h.cel.own⟩, h.vals, h.st, fun x y hx => ?_, fun x hx => ?_, fun x y hx => ?_⟩
  · by_cases e : x = b
    · subst e; rw [padd_at] at hx; cases hx; exact hn
    · rw [padd_ne e] at hx; rw [hw x e]; exact h.has x y hx
  · by_cases e : x = b
    · subst e; exact h.new x (by rw [hb]; simp)
    · rw [padd_ne e] at hx; exact h.new x hx
  · by_cases e : x = b
    · subst e; rw [padd_at] at hx; cases hx; exact hr
    · rw [padd_ne e] at hx; exact h.row x y hx
end
theorem padd_padd (pk : Nat → Option Obj) (b : Nat) (o o' : Obj) : padd (padd pk b o) b o' = padd pk b o' := by
  funext x; unfold padd; split <;> rfl
theorem padd_comm {pk : Nat → Option Obj} {b c : Nat} (h : b ≠ c) (o o' : Obj) : padd (padd pk b o) c o' = padd (padd pk c o') b o := by
  funext x
  unfold padd
  by_cases h1 : x = c
  · subst h1
    rw [if_pos rfl, if_neg (fun e => h e.symm), if_pos rfl]
  · by_cases h2 : x = b
    · subst h2
      rw [if_neg h1, if_pos rfl, if_pos rfl]
    · rw [if_neg h1, if_neg h2, if_neg h2, if_neg h1]

theorem info63 : (Try.prog.info? 44).map (fun i => (i.zero, i.size, i.bytes)) = some (some (.pointer none), 1, 8) := by kernel_rfl
theorem make_ptrs (n : Nat) (hn : n ≤ 1048576) (w : World) :
    (Instr.makeSlice 85 (.int .i64 (n : Int)) (.int .i64 (n : Int))).run Try.prog w = .ok (.slice (some ⟨w.heap.size, 0, none⟩) n n) (w.alloc (.cells (madeCells #[.pointer none] n) 44)) := by
  cases hq : Try.prog.info? 44 with
  | none => have := info63; rw [hq] at this; cases this
  | some i =>
    have hi := info63
    rw [hq] at hi
    simp only [Option.map_some, Option.some.injEq, Prod.mk.injEq] at hi
    obtain ⟨hz, hs, hb⟩ := hi
    have := run_make (P := Try.prog) w 85 44 i _ Try.underlying85 hq hz .i64 .i64 (n : Int) (n : Int) (by omega) (by omega) (by rw [hb]; omega) (by omega)
    rw [hs] at this
    rw [this]
    simp [Value.cells]
/-- The row of shards, of which the first are there. -/
def rowP (s : Nat) (K : List (Nat × Int)) : List Value := (List.range s).map fun j => match K[j]? with | some c => Pt c.1 0 | none => .pointer none
def objP (s : Nat) (K : List (Nat × Int)) : Obj := .cells (rowP s K).toArray 44 (0, 0)
theorem made_rowP (s : Nat) : (.cells (madeCells #[.pointer none] s) 44 : Obj) = objP s [] := by
  unfold objP rowP
  congr 1
  apply Array.ext_getElem?
  intro i
  by_cases h : i < s
  · simp [madeCells, h, Nat.mod_one]
  · simp [madeCells, h]
theorem rowP_next {s : Nat} {K : List (Nat × Int)} (c : Nat × Int) (hK : K.length < s) : (rowP s K).toArray.setIfInBounds K.length (Pt c.1 0) = (rowP s (K ++ [c])).toArray := by
  apply Array.ext_getElem?
  intro i
  unfold rowP
  rw [Array.getElem?_setIfInBounds]
  by_cases h : K.length = i
  · subst h
    simp [hK]
  · rw [if_neg h]
    by_cases hi : i < s
    · by_cases hlt : i < K.length
      · have e2 : (K ++ [c])[i]? = K[i]? := List.getElem?_append_left hlt
        simp [hi, e2]
      · have h1 : K[i]? = none := List.getElem?_eq_none (by omega)
        have h2 : (K ++ [c])[i]? = none := List.getElem?_eq_none (by simp; omega)
        simp [hi, h1, h2]
    · simp [hi]
theorem objP_at {s k : Nat} {K : List (Nat × Int)} {w : World} {N : Nat} (h : w.heap[N]? = some (objP s K)) (hK : K.length = k) (hk : k < s) : w.cell? ⟨N, k, none⟩ = some (.pointer none) ∧ w.frozen? ⟨N, k, none⟩ = false := by
  constructor
  · refine cell_of h ?_
    unfold rowP
    have : K[k]? = none := List.getElem?_eq_none (by omega)
    simp [hk, this]
  · simp only [World.frozen?, h, objP]
    simp
/-- What a chain's threads read. -/
noncomputable def pkN (pk0 : Nat → Option Obj) (s N : Nat) (K : List (Nat × Int)) : Nat → Option Obj := padd (padd pk0 (N + 1) (.cells #[.slice (some ⟨N, 0, none⟩) s s] 144 (0, 0))) N (objP s K)

set_option maxHeartbeats 4000000 in
set_option maxRecDepth 100000 in
theorem body12 {v : World} {S : TS} {pk0 : Nat → Option Obj} (hO : Objs v S [] pk0 S [] v) (hlt : ∀ b, pk0 b ≠ none → b < v.heap.size) (s : Nat) (h0 : 0 < s) (h1 : s ≤ 100) : Body Try.f79 #[Pt S.wb 0, I s] v (fun r v' => r = Pt (v.heap.size + 1) 0 ∧ ∃ S1 K, K.length = s ∧ Objs v S (List.replicate s 0) (pkN pk0 s v.heap.size K) S1 K v') := by
  intro code hb
  obtain rfl := Option.some.inj hb
  clear hb
  have hmk := make_ptrs s (by omega)
  rw [made_rowP] at hmk
  have hmx : (Builtin.max_ #[3, 3] 3 #[I s, I 0]) = pure (I s) := by
    show (pure (Value.int .i64 (if (0 : Int) > s then 0 else s)) : Sem Value) = _
    rw [if_neg (by omega)]
  have hmn : (Builtin.min_ #[3, 3] 3 #[I s, I 100]) = pure (I s) := by
    show (pure (Value.int .i64 (if (100 : Int) < s then 100 else s)) : Sem Value) = _
    rw [if_neg (by omega)]
  have HO : Hid (Objs v S [] pk0 S [] v) := ⟨hO⟩
  have HL : Hid (∀ b, pk0 b ≠ none → b < v.heap.size) := ⟨hlt⟩
  clear hO hlt
  simp only [Try.ntmps79, List.size_toArray, List.length_cons, List.length_nil, Nat.reduceAdd, Nat.reduceSub, Array.replicate_succ, Array.replicate_zero, List.push_toArray, List.append_toArray, List.nil_append, List.cons_append]
  go_wp2_with fail
  go_loopw [18] (fun i u => ∃ (k : Nat) (K : List (Nat × Int)) (S1 : TS), k ≤ s ∧ i = .int .i64 k ∧ K.length = k ∧ Objs v S (List.replicate k 0) (pkN pk0 s v.heap.size K) S1 K u) (fun i _ => s - (intOf i).toNat)
  case atStart =>
    refine ⟨0, [], S, Nat.zero_le _, rfl, rfl, ?_⟩
    have o1 := HO.out.push (u' := v.alloc (objP s [])) (c := (rowP s []).toArray) (t := 44) rfl rfl rfl
    have o2 := o1.push (u' := (v.alloc (objP s [])).alloc (.cells #[.slice (some ⟨v.heap.size, 0, none⟩) s s] 144)) (c := #[.slice (some ⟨v.heap.size, 0, none⟩) s s]) (t := 144) rfl rfl rfl
    have hsz : (v.alloc (objP s [])).heap.size = v.heap.size + 1 := by simp
    rw [hsz, padd_comm (by omega)] at o2
    exact o2
  case round =>
    obtain ⟨k, K, S1, hk, rfl, hK, hO⟩ := hrel
    have HOB : Hid (Objs v S (List.replicate k 0) (pkN pk0 s v.heap.size K) S1 K wr) := ⟨hO⟩
    by_cases hlt : k < s
    · have hN := hO.has v.heap.size (objP s K) (by unfold pkN; rw [padd_at])
      have hN1 := hO.has (v.heap.size + 1) (.cells #[.slice (some ⟨v.heap.size, 0, none⟩) s s] 144 (0, 0)) (by unfold pkN; rw [padd_ne (by omega), padd_at])
      have c1 : wr.cell? ⟨v.heap.size + 1, 0, none⟩ = some (.slice (some ⟨v.heap.size, 0, none⟩) s s) := cell_of hN1 rfl
      have hks : (k : Int) < (s : Int) := by omega
      clear hO hN hN1
      generalize hNN : v.heap.size = N at HOB c1
      go_wp2_with fail
      go_region_held3 (fun u => u.cell? ⟨N + 1, 0, none⟩ = some (.slice (some ⟨N, 0, none⟩) s s))
        (first | assumption | (simp [go_sem, *]; done))
        (first
          | (go_at_call 21; refine ((HOB.out.same (u' := wr.drew) rfl rfl rfl).cell 0 (by rw [List.length_replicate]; omega)).mono ?_; rintro e w1 ⟨cb, rfl, hs1, S2, o2⟩
             have HO2 : Hid (Objs v S (List.replicate k 0 ++ [0]) (pkN pk0 s N K) S2 (K ++ [(cb, 0)]) w1) := ⟨o2⟩
             have hN := o2.has N (objP s K) (by unfold pkN; rw [padd_at])
             have hN1 := o2.has (N + 1) (.cells #[.slice (some ⟨N, 0, none⟩) s s] 144 (0, 0)) (by unfold pkN; rw [padd_ne (by omega), padd_at])
             have c2 : w1.cell? ⟨N + 1, 0, none⟩ = some (.slice (some ⟨N, 0, none⟩) s s) := cell_of hN1 rfl
             obtain ⟨c3, c4⟩ := objP_at hN hK hlt
             have HN : Hid (w1.heap[N]? = some (objP s K)) := ⟨hN⟩
             clear o2 hN hN1))
      go_wp2_with fail
      go_roundw
      case rel =>
        refine ⟨k + 1, K ++ [(cb, 0)], S2, by omega, by go_num, by rw [List.length_append, hK]; rfl, ?_⟩
        have oth : ∀ b, b ≠ N → (w1.setCell ⟨N, k, none⟩ (.pointer (some ⟨cb, 0, none⟩))).heap[b]? = w1.heap[b]? := fun b hb => Below.heap_setCell _ _ _ _ hb
        have hrow : (w1.setCell ⟨N, k, none⟩ (.pointer (some ⟨cb, 0, none⟩))).heap[N]? = some (objP s (K ++ [(cb, 0)])) := by
          have := heap_setCell_same (o := k) (show w1.heap[N]? = some (.cells (rowP s K).toArray 44 (0, 0)) from HN.out) (Pt cb 0)
          rw [← hK, rowP_next (cb, 0) (by omega)] at this
          rw [← hK]
          exact this
        have o3 := HO2.out.set (b := N) (o := objP s K) (o' := objP s (K ++ [(cb, 0)])) (by unfold pkN; rw [padd_at]) (by omega) oth hrow (by simp [World.setCell]) rfl rfl ⟨_, _, _, rfl⟩
        rw [List.replicate_succ']
        unfold pkN at o3 ⊢
        rw [padd_padd] at o3
        exact o3
      case measure => simp [intOf]; omega
    · have : k = s := by omega
      subst this
      go_wp2_with fail
      go_ret
      exact ⟨_, rfl, rfl, S1, K, hK, HOB.out⟩
end Go.Proofs.Ytfjjoohflcchnaa.Gen
