/- ChainRing: of a ring the last who writes down is told, under every schedule. Part 30 of 37. (Joined, by program, of: La3d, GEnd, GWb, GNow, ChL.) -/
import Derived.Test.YtfjjoohflcchnaaChainRing08
import Derived.Test.YtfjjoohflcchnaaChainRing16
import Derived.Test.YtfjjoohflcchnaaChainRing19
import Derived.Test.YtfjjoohflcchnaaChainRing24
import Derived.Test.YtfjjoohflcchnaaChainRing29
set_option linter.unusedSimpArgs false
set_option linter.unusedVariables false
namespace Go.Proofs.Ytfjjoohflcchnaa.Gen
open Go Go.Lift Go.Conc Go.RowKit

open Go.ConcN (upd upd_same upd_ne)
noncomputable def T3 : Code := .seq (.seq q3_31 (.cond ( .tmp 164 ) (.seq q3_32 .ret) .skip)) (.seq q3_33 (.seq q3_34 (.seq q3_35 (.seq (.seq q3_36 (.block 8 K3_8)) (.seq q3_49 .ret)))))
theorem fine_T3 : fineCode Try.prog true LV T3 := fineCode_askS callV extT (by kernel_rfl)
set_option maxHeartbeats 1000000 in
/-- Play has answered. -/
theorem tail3 {Sb M : Nat} {a : Act} {v : World} {S : TS} {A ln cp rb ro : Nat → Nat} {pc : Nat → Option Addr} {cl : Nat → List Cl} {l : Nat → Ph} {L : List Stp}
    (hS : SL 4 Sb 0 ln cp rb ro pc cl v) (hL : AL 4 M A ln l v) (hR : Rep zn S v) (htr : S.tr = flat L) (hSn : S.n = L.length) (hs4 : S.n ≤ 4000000) (hst : StsR 4 20 cl rh0 L)
    (hlast : ∃ i k, i < 4 ∧ (repH cl L).last = some (i, k) ∧ k < (cl i).length ∧ (l i).ans[k]? = some (0, 1))
    (hA : Fl 254 [(9, .bool true), (15, .slice (some ⟨Sb, 0, none⟩) 4 4), (20, Pt S.wb 0), (21, .slice (some ⟨M, 0, none⟩) 4 4), (22, I 0)] a) : T3.wp Try.prog (fun e a' w' => e = .ret ∧ Fl 254 [(8, .bool true)] a' ∧ Kq v.heap.size v w') a v := by
  unfold T3
  refine wp_seq (wp_then (p3_31 hA) fun a1 w1 h => ?_)
  obtain ⟨h1, rfl⟩ := h
  refine wp_cond_false (h1.hf rfl) (wp_skip ?_)
  show Code.wp _ _ _ _ _
  refine wp_then (p3_33 h1.tl) fun a2 w2 h => ?_
  obtain ⟨h2, hw2⟩ := h
  have hk2 : Kq w1.heap.size w1 w2 := hw2 ▸ Kq.alloc _ (Nat.le_refl _)
  have hs2 : w2.heap.size = w1.heap.size + 1 := by rw [hw2, size_alloc]
  have hr2 : w2.rowIs w1.heap.size 42 2 (fun _ => I 0) := hw2 ▸ World.rowIs_alloc w1 #[I 0, I 0] 42 (fun _ => I 0) (fun i hi => by
    have : i < 2 := hi
    match i, this with
    | 0, _ => rfl
    | 1, _ => rfl)
  clear hw2
  refine wp_then (p3_34 (S := S) (hR.grows hk2.size (fun b hb => hk2.old b hb)) rfl (by omega) (by rw [htr]; exact flat_one L) h2) fun a3 w3 h => ?_
  obtain ⟨p, g, ct, h3, hp, htc, g3⟩ := h
  rw [htr] at htc
  refine wp_then (p3_35 h3) fun a4 w4 h => ?_
  obtain ⟨h4, hw4⟩ := h
  have hk4 : Kq w3.heap.size w3 w4 := hw4 ▸ Kq.alloc _ (Nat.le_refl _)
  have hr4 : w4.rowIs w3.heap.size 3 4 (fun _ => I 0) := hw4 ▸ World.rowIs_made w3 (I 0) 4 3
  clear hw4
  have h23 : w2.heap.size ≤ w3.heap.size := g3.size
  have hk3 : Kq w2.heap.size w2 w3 := ⟨g3.os, g3.output, g3.size, fun k hk => g3.old k hk⟩
  have hkv : Kq w1.heap.size w1 w4 := hk2.trans ((hk3.le (by omega)).trans (hk4.le (by omega)))
  refine wp_seq (la3_steps (v := w1) (L := L) hS hL hkv hSn hs4 (fun h => (hp h).1) (fun h => ⟨fun e => ?_, fun e => ?_⟩) (by omega) (Nat.le_refl _) (by omega) hst (fun j x h => kq_all hk4 _ _ (htc j x h)) hr4 ((hr2.of_block (g3.old _ (by omega))).of_block (hk4.old _ (by omega))) h4 fun a5 w5 h5 hk5 hr5 => ?_)
  · obtain ⟨x0, hx0⟩ : ∃ x, (flat L)[0]? = some x := by
      obtain ⟨s, hs⟩ : ∃ s, L[0]? = some s := ⟨_, List.getElem?_eq_getElem (by omega)⟩
      exact ⟨_, (flat_get L 0 s hs).1⟩
    have := World.block_lt_of_cell? _ _ (htc 0 _ hx0)
    have this : g < w3.heap.size := this
    omega
  · have := (hp h).2; omega
  · obtain ⟨i, k, hi, e1, e2, e3⟩ := hlast
    have hls : lsA l (repH cl L).last = (0, 1) := by rw [e1]; show (l i).ans.getD k (0, 0) = _; rw [List.getD_eq_getElem?_getD, e3]; rfl
    rw [hls] at hr5
    show Code.wp _ _ _ _ _
    refine wp_then (p3_49 (row_at hr5 (by omega) rfl) (row_at hr5 (by omega) rfl) (h5.sub (by simp))) fun a6 w6 h => ?_
    obtain ⟨h6, rfl⟩ := h
    exact wp_ret ⟨rfl, h6, hk5⟩

/-- What the scripts ask. -/
theorem key_of {x : Nat} (h : x < 20) : keyH 20 (x : Int) = x := by
  have := keyH_int (show 0 < 20 by omega) (x : Int)
  have e : ((x : Int) % ((20 : Nat) : Int)) = x := Int.emod_eq_of_lt (by omega) (by omega)
  omega
theorem ops_rg {R : List Nat} {ops : Nat → List Cl} {len : Nat} (h0 : 0 < R.length) (h12 : R.length ≤ 12) (nd : R.Nodup) (hl : ∀ x ∈ R, x < 12) (h : Ops R ops R.length len) : Rg 4 20 R ops := by
  have hr : ∀ i, rg R i < 12 := fun i => hl _ (rg_mem h0 i)
  refine ⟨h0, by omega, nd, fun i hi c hc h1 => ?_, fun i hi c hc h1 i0 e => ?_, fun i0 => ?_⟩
  · rcases (h.all i hi c hc).2.2.2 with h2 | ⟨i0, e1, e2⟩
    · omega
    · refine ⟨i0, ?_, ?_⟩
      · rw [e1]; exact key_of (by have := hr i0; omega)
      · rw [e2]; exact key_of (by have := hr (i0 + 1); omega)
  · rcases (h.all i hi c hc).2.2.2 with h2 | ⟨i1, e1, e2⟩
    · obtain ⟨x, hx⟩ : ∃ x : Nat, c.ca = (x : Int) := ⟨c.ca.toNat, by omega⟩
      rw [hx, key_of (by omega)] at e
      have := hr i0
      omega
    · have := hr i1; omega
  · obtain ⟨t, ht, c, hc, e⟩ := h.has (i0 % R.length) (Nat.mod_lt _ h0)
    refine ⟨t, ht, c, hc, (h.all t ht c hc).1, ?_⟩
    have e2 : rg R (i0 % R.length) = rg R i0 := by unfold rg; rw [Nat.mod_mod]
    rw [e, e2]
    exact key_of (by have := hr i0; omega)
def slP : Value → Option Addr
  | .slice p _ _ => p
  | _ => none
def slC : Value → Nat
  | .slice _ _ c => c
  | _ => 0
theorem scs_in {v0 w : World} {Sb len i : Nat} {R : List Nat} {rows : Nat → Value} {ops : Nat → List Cl} (h : Scs v0 Sb rows ops w) (ho : Ops R ops i len) (hR : ∀ j, rg R j < 12) :
    InS w (some ⟨Sb, 0, none⟩) Sb 0 4 (fun j => slP (rows j)) (fun j => (ops j).length) (fun j => slC (rows j)) (fun j => ((rows j).ownBlock).getD 0) ops := by
  refine ⟨fun _ => rfl, fun k hk => ?_, fun j hj => rfl, fun j hj hl => ?_, fun j hj k c hc => ?_, fun j hj c hc => ?_, by omega⟩
  · obtain ⟨p, c, e⟩ := h.shp k hk
    rw [Nat.zero_add, h.out.cell hk, e]
    rfl
  · obtain ⟨p, c, e⟩ := h.shp j hj
    have hw := h.own j hj
    rw [e] at hw
    obtain ⟨g, rfl, _⟩ := own_get hw hl
    rw [e]
    rfl
  · obtain ⟨p, c', e⟩ := h.shp j hj
    have hw := h.own j hj
    rw [e] at hw
    obtain ⟨g, rfl, hg⟩ := own_get hw (by have := (List.getElem?_eq_some_iff.1 hc).1; omega)
    obtain ⟨q0, q1, q2, q3⟩ := clC_get _ k c hc
    rw [e]
    show w.cell? ⟨g, 0 + k * 4, none⟩ = some (I c.po) ∧ w.cell? ⟨g, 0 + k * 4 + 1, none⟩ = some (I c.ca) ∧ w.cell? ⟨g, 0 + k * 4 + 2, none⟩ = some (I c.cb) ∧ w.cell? ⟨g, 0 + k * 4 + 3, none⟩ = some (I c.cc)
    rw [Nat.zero_add]
    exact ⟨hg _ _ q0, hg _ _ q1, hg _ _ q2, hg _ _ q3⟩
  · obtain ⟨_, h2, h3, h4⟩ := ho.all j hj c hc
    refine ⟨?_, h3, by rw [h2]; exact ⟨by decide, by decide⟩⟩
    rcases h4 with h4 | ⟨i0, e, _⟩
    · exact ⟨by omega, by omega⟩
    · have := hR i0
      rw [e]
      exact ⟨by omega, by omega⟩
section
variable {H : Type} {enc : TypeId × Value → H} {w : World}
open Go.ChangeShapes Go.WideShapes Go.ChangeAt Go.RowKit Go.Joins Go.Deep in
set_option maxRecDepth 100000 in
/-- Calls that came in. -/
theorem calls_in {r : Reach} {b0 : Nat} {v : Value} {d : DataW H} {ps : List MemPlace} (hv : Value.okWide Try.prog w r b0 37 v) (h : DataW.Trod enc Try.prog w 0 (fun _ => true) true 37 v d ps) :
    ∃ (p : Option Addr) (b o cap : Nat) (xs : List Cl), v = .slice p xs.length cap ∧ InK w p b o xs := by
  obtain ⟨a0, len0, cap0, rfl⟩ := okWide_slice Try.underlying37 hv
  obtain ⟨fuel, hf⟩ := h
  obtain ⟨v', q, e, hq⟩ := script_in hf
  simp [Value.cells] at e
  subst e
  exact ⟨q.1, q.2.2.1, roOf q.1, q.2.1, q.2.2.2, hq.1, hq.2.1, hq.2.2.1, hq.2.2.2⟩
end
theorem InK.grows {W W' : World} {p : Option Addr} {b o : Nat} {xs : List Cl} (h : InK W p b o xs) (g : Grows W W') : InK W' p b o xs :=
  ⟨h.at_, fun k c hc => by have := h.call k c hc; exact ⟨g.cell this.1, g.cell this.2.1, g.cell this.2.2.1, g.cell this.2.2.2⟩, h.ok⟩
end Go.Proofs.Ytfjjoohflcchnaa.Gen

namespace Go.Proofs.Ytfjjoohflcchnaa.Gen
open Go Go.Lift Go.Conc Go.RowKit

/-- Code that returns, walked alone. -/
theorem goesI_retZ {Ch : Nat → Prop} {Stop : Goroutine → World → Prop} {main : Bool} {f : FuncId} {c : Code} {act : Act} {more : List Item} {cs : List Frame} {v w : World} {Q : Act → World → Prop} (hvw : Rel zn v w) (hn : NoRow Ch v) (hc : fineCode Try.prog true LV c) (ha : act.defers = [])
    (hwp : ∀ τ, c.wp Try.prog (fun e a w' => e = .ret ∧ Q a w') act (onTape v τ 0))
    (h : ∀ a' v' w' todo, Q a' v' → a'.defers = [] → Rel zn v' w' → NoRow Ch v' → GoesI Try.prog main (DT (ScZ zn) Ch) Stop (G { (base f).at a' todo with mode := .returning } cs) w') :
    GoesI Try.prog main (DT (ScZ zn) Ch) Stop (G ((base f).at act (.code c :: more)) cs) w := by
  have hfin := lift_code (P := Try.prog) (z := zn) (wr := true) (L := LV) (D := DT (ScZ zn) Ch) (I := NoRow Ch) (main := main) (b := base f) (k := more) (cs := cs) hE fineV noRow_keeps (fun v v' w w' es hi hr ho he => dt_of_z v v' w w' es hi hr ho he) hvw hc ha (by simp [base]) hn
    (Q := fun e a w' => e = .ret ∧ Q a w') hwp (fun e a w hq => .inr hq.1)
  refine hfin.then ?_
  rintro g w' ⟨a', v', hr, hiv, hd, ⟨⟨hq, _⟩, _⟩ | ⟨⟨_, hQ⟩, todo, rfl⟩⟩
  · cases hq
  · exact h a' v' w' todo hQ hd hr hiv

theorem _root_.Go.Proofs.Ytfjjoohflcchnaa.Grows.toAt {W v w : World} (h : Grows W v) (hr : Rel zn v w) (d : Nat) : Grows W (w.at d) := by
  have e : (w.at d).heap = v.heap := hr.eq
  exact ⟨by rw [e]; exact h.size, fun b hb => by rw [e]; exact h.old b hb, hr.os.trans h.os, hr.output.trans h.output⟩
theorem _root_.Go.Proofs.Ytfjjoohflcchnaa.Grows.andThen {W v w : World} (h : Grows W v) (k : Grows v w) : Grows W w := ⟨Nat.le_trans h.size k.size, fun b hb => by rw [k.old b (by have := h.size; omega), h.old b hb], k.os.trans h.os, k.output.trans h.output⟩
def PostT (W : World) (r : Value) (w' : World) : Prop := r = .bool true ∧ Grows W w'
end Go.Proofs.Ytfjjoohflcchnaa.Gen

namespace Go.Proofs.Ytfjjoohflcchnaa.Gen
open Go Go.Lift Go.Conc Go.RowKit
/-! ### The world stays where it is -/
theorem going_wb (S : TS) (i : Nat) (t : Thr) : (going S i t).wb = S.wb := by
  unfold going
  first
    | rfl
    | (unfold picked; split <;> rfl)
    | (split <;> rfl)
theorem pturn_wb {mc : Mc} {p p' : PSt} (h : pturn mc p = some p') : p'.S.wb = p.S.wb := by
  unfold pturn at h
  split at h
  · split at h
    · cases h; rfl
    · cases h
  · cases h
    exact (resume_sta _ _ _ _ _).wb.trans (going_wb _ _ _)
theorem turns_wb {mc : Mc} {m : Nat} {p p' : PSt} (h : Turns mc m p p') : p'.S.wb = p.S.wb := by
  induction h with
  | stop _ => rfl
  | step h1 _ ih => exact ih.trans (pturn_wb h1)
theorem hires_wb {mc : Mc} {k : Nat} {ss : List (Scr mc)} {S S' : TS} {l l' : Nat → Ph} (h : Hires mc k ss S l S' l') : S'.wb = S.wb := by
  induction h with
  | nil => rfl
  | cons tv tb gc _ ih => exact ih.trans (flow_sta _ _ _ _ _ _ _).wb

end Go.Proofs.Ytfjjoohflcchnaa.Gen

namespace Go.Proofs.Ytfjjoohflcchnaa.Gen
open Go Go.Lift Go.Conc Go.RowKit
variable {mc : Mc}

/-- It goes on from a world v0 (state S0, cells K0), and is in a world v: state S (σ, but for the trace's place), cells κ; Mo is its own. -/
structure Now (X : Fix mc) (z : Nat → Option Nat) (cont : Addr → Value) (Ch : Nat → Prop) (S0 : TS) (K0 : List (Nat × Int)) (v0 : World) (Mo0 Mo : Nat → Option Obj) (σ : TS) (κ : List (Nat × Int)) (S : TS) (v w : World) (t : Thr) : Prop where
  at_ : At X z cont Ch S κ v w t
  evo : EvoP (fun b => Mo0 b ≠ none) z S0 K0 v0 S κ v
  nv : nv S = σ
  bk : S.bk = S0.bk
  mo : Has Mo v
  far : ∀ b, Mo b ≠ none → ¬ Own S κ b
  new : ∀ b, Mo b ≠ none → Mo0 b ≠ none ∨ v0.heap.size ≤ b
  row : ∀ b o, Mo b = some o → ∃ c e f, o = .cells c e f

section
variable {X : Fix mc} {z : Nat → Option Nat} {cont : Addr → Value} {Ch : Nat → Prop} {Stop : Goroutine → World → Prop} {cu : Value → Goroutine} {S0 : TS} {K0 : List (Nat × Int)} {v0 : World} {Mo0 Mo : Nat → Option Obj} {σ : TS} {κ : List (Nat × Int)} {S : TS} {v w : World} {t : Thr} {H : Nx → (Nat → Option Obj) → Goroutine → Prop}

theorem Now.good (N : Now X z cont Ch S0 K0 v0 Mo0 Mo σ κ S v w t) {x : Nx} (hx : ∀ e y, x ≠ .ans e y) : Good v0 Mo0 x Mo := ⟨hx, N.new, N.row⟩

/-- It goes on. -/
theorem Now.on (N : Now X z cont Ch S0 K0 v0 Mo0 Mo σ κ S v w t) {S' σ' : TS} {κ' : List (Nat × Int)} {v' w' : World} {t' : Thr} (e : Evo z S κ v S' κ' v') (r : Rel z v' w') (n : NoRow Ch v') (hS : Gen.nv S' = σ') (ht : S'.thr[X.i]? = some t') (htb : t'.tb = X.tb) (hgc : t'.gc = X.gc) (hbk : S'.bk = S.bk) (hok : KOk mc κ') : Now X z cont Ch S0 K0 v0 Mo0 Mo σ' κ' S' v' w' t' := by
  have kp : ∀ b, b < v.heap.size → ¬ Own S κ b → v'.heap[b]? = v.heap[b]? ∧ ¬ Own S' κ' b := fun b hb ho => (Evo.toP (Pr := fun _ => False) e).keeps hb ho (fun h => h)
  have km : ∀ (M : Nat → Option Obj), Has M v → (∀ b, M b ≠ none → ¬ Own S κ b) → Has M v' ∧ ∀ b, M b ≠ none → ¬ Own S' κ' b := fun M hM hf => by
    have h1 : ∀ b o, M b = some o → v'.heap[b]? = v.heap[b]? ∧ ¬ Own S' κ' b := fun b o hb => kp b (Array.getElem?_eq_some_iff.1 (hM b o hb)).1 (hf b (by rw [hb]; simp))
    refine ⟨fun b o hb => by rw [(h1 b o hb).1]; exact hM b o hb, fun b hb => ?_⟩
    obtain ⟨o, ho⟩ := Option.ne_none_iff_exists'.1 hb
    exact (h1 b o ho).2
  have k1 := km X.pk N.at_.pk N.at_.far
  have k2 := km Mo N.mo N.far
  exact ⟨⟨r, n, e.mem, ht, htb, hgc, ⟨e.blks.trans N.at_.kb.1, hok⟩, N.at_.z, N.at_.cont, k1.1, k1.2⟩, N.evo.trans (Evo.toP e), hS, hbk.trans N.bk, k2.1, k2.2, N.new, N.row⟩
/-- .. with nothing changed. -/
theorem Now.same (N : Now X z cont Ch S0 K0 v0 Mo0 Mo σ κ S v w t) {v' w' : World} (r : Rel z v' w') (n : NoRow Ch v') (e1 : v'.heap = v.heap) (e2 : v'.os = v.os) (e3 : v'.output = v.output) : Now X z cont Ch S0 K0 v0 Mo0 Mo σ κ S v' w' t :=
  N.on (N.at_.mem.grows ⟨by rw [e1]; exact Nat.le_refl _, fun b _ => by rw [e1], e2, e3⟩) r n N.nv N.at_.thr N.at_.tb N.at_.gc rfl N.at_.kb.2
/-- A call goes on from its seat. -/
theorem Now.here (A : At X z cont Ch S κ v w t) (hm : Has Mo v) (hf : ∀ b, Mo b ≠ none → ¬ Own S κ b) (hr : ∀ b o, Mo b = some o → ∃ c e f, o = .cells c e f) : Now X z cont Ch S κ v Mo Mo (Gen.nv S) κ S v w t :=
  ⟨A, Evo.toP (A.mem.grows ⟨Nat.le_refl _, fun _ _ => rfl, rfl, rfl⟩), rfl, rfl, hm, hf, fun b hb => .inl hb, hr⟩
theorem Now.cell (N : Now X z cont Ch S0 K0 v0 Mo0 Mo σ κ S v w t) {j cb : Nat} (h : X.kb[j]? = some cb) : κ[j]? = some (cb, (cellAt κ j).2) ∧ cellAt κ j = (cb, (cellAt κ j).2) := by
  rw [← N.at_.kb.1, List.getElem?_map, Option.map_eq_some_iff] at h
  obtain ⟨p, h1, rfl⟩ := h
  have : cellAt κ j = p := by unfold cellAt; rw [h1]; rfl
  rw [this]
  exact ⟨h1, rfl⟩

/-- A turn. -/
theorem ob_turn {op : Int} {j : Nat} {q : Q} (hob : Ob X H z cont Ch Stop cu S0 K0 v0 Mo0 σ κ (.turn op j q)) (N : Now X z cont Ch S0 K0 v0 Mo0 Mo σ κ S v w t) (g : Goroutine) (w' : World) (hg : GiveT z cont X.h S.bk t.gc (H (.turn op j q) Mo) (Then z Ch S κ v (waiting S X.i t 1 op j) κ) g w') : Stop g w' := by
  refine hob.seat 1 op j (.inl ⟨⟨q, rfl⟩, rfl⟩) g w' Mo (N.good (fun _ _ h => by cases h)) ?_
  rw [N.at_.gc, N.bk] at hg
  refine atGive_mono (fun hF => ?_) hg
  obtain ⟨v', r, n, e⟩ := hF
  have N' := N.on e r n rfl (t' := { t with st := 1, op := op, ce := j, se := _ }) (List.getElem?_set_self (List.getElem?_eq_some_iff.1 N.at_.thr).1) N.at_.tb N.at_.gc rfl N.at_.kb.2
  refine ⟨v', _, r, n, ?_, N'.evo, N'.mo, N'.far⟩
  rw [← N.nv, show thrI (Gen.nv S) X.i = t from thrI_of N.at_.thr]
  rfl
end
end Go.Proofs.Ytfjjoohflcchnaa.Gen

namespace Go.Proofs.Ytfjjoohflcchnaa.Gen
open Go Go.Lift Go.Conc Go.RowKit

noncomputable def hlB : Code := Try.f105.body.getD .skip
noncomputable def hl0 : Code := seq1 hlB
noncomputable def hl1 : Code := seq1 (seq1 (seq2 hlB))
noncomputable def hlL : Code := loopC (blockC (seq2 (seq1 (seq2 hlB))))
noncomputable def hlT : Code := seq2 (seq2 hlB)
noncomputable def hlI : Code := blockC (seq1 (seq2 (seq2 hlL)))
noncomputable def hl9 : Code := seq2 (seq2 (seq2 hlL))
noncomputable def hlO5 : Array Oper := opsOf (seq1 (seq2 hlI))
theorem eHlB : hlB = .seq hl0 (.seq (.seq hl1 (.block 0 (.loop hlL))) hlT) := by kernel_rfl
/-- The frame at the loop's head; where it has seen. -/
noncomputable def hlFr (a : Act) : Frame := (base 105).at a [.code hlL, .inLoop hlL, .inBlock 0, .code hlT]
noncomputable def hlSeen (a : Act) (r : Value) : Frame := (base 105).at (a.put (some 28) r) [.inRegion hlO5 [9], .code (seq2 (seq2 hlI)), .inBlock 1, .code hl9, .inLoop hlL, .inBlock 0, .code hlT]

set_option maxHeartbeats 2000000 in
set_option maxRecDepth 100000 in
/-- It has been entered. -/
theorem lead_in {z : Nat → Option Nat} {Ch : Nat → Prop} {Stop : Goroutine → World → Prop} {main : Bool} {v w : World} {c sb n tb x fr : Nat} (h0 : v.cell? ⟨c, 0, none⟩ = some (.slice (some ⟨sb, 0, none⟩) n n)) (cs : List Frame) (hvw : Rel z v w)
    (hk : ∀ a, Fl 34 [(0, Pt c 0), (1, Pt tb 0), (2, I (x : Nat)), (3, I (fr : Nat)), (14, I (n : Nat)), (15, I ((0 : Nat) : Int))] a → GoesI Try.prog main (DT (ScZ z) Ch) Stop (G (hlFr a) cs) w) (code : Code) (hc : Try.f105.body = some code) :
    GoesI Try.prog main (DT (ScZ z) Ch) Stop (G ((base 105).at { tmps := #[Pt c 0, Pt tb 0, I (x : Nat), I (fr : Nat)] ++ Array.replicate 30 undef, defers := [] } [.code code]) cs) w := by
  have e0 : w.cell? ⟨c, 0, none⟩ = some (.slice (some ⟨sb, 0, none⟩) n n) := by rw [hvw.cell?]; exact h0
  have hw0 : code = .seq hl0 (.seq (.seq hl1 (.block 0 (.loop hlL))) hlT) := by
    rw [show code = hlB by unfold hlB; rw [hc]; rfl]; exact eHlB
  subst hw0
  clear hc
  unfold hlFr at hk
  generalize hlL = L at hk ⊢
  generalize hlT = T at hk ⊢
  unfold hl0 hl1 hlB Try.f105 seq1 seq2
  simp only [Option.getD_some, Array.replicate_succ, Array.replicate_zero, List.push_toArray, List.append_toArray, List.nil_append, List.cons_append]
  refine goesI_seq (dt_idle _ _) ?_
  refine goesI_region (dt_idle _ _) ?_
  simp only [List.size_toArray, List.length_cons, List.length_nil, Nat.reduceAdd, Nat.zero_add, List.range, List.range.loop]
  iterate 1
    (refine goesI_oper rfl rfl (by decide) (fun d K hK => ?_)
     go_simp
     refine hK _ _ ⟨dt_reads (fun e he => ?_), GoesI.at ?_ d⟩
     · have hm := mem_listed he
       simp [go_sem, *] at hm
       try exact ⟨_, _, hm⟩
     clear hK K)
  refine goesI_regionEnd (dt_idle _ _) ?_
  refine goesI_seq (dt_idle _ _) ?_
  refine goesI_seq (dt_idle _ _) ?_
  refine goesI_region (dt_idle _ _) ?_
  simp only [List.size_toArray, List.length_cons, List.length_nil, Nat.reduceAdd, Nat.zero_add, List.range, List.range.loop]
  iterate 6
    (refine goesI_oper rfl rfl (by decide) (fun d K hK => ?_)
     go_simp
     refine hK _ _ ⟨dt_reads (fun e he => ?_), GoesI.at ?_ d⟩
     · have hm := mem_listed he
       simp [go_sem, *] at hm
       try exact ⟨_, _, hm⟩
     clear hK K)
  refine goesI_regionEnd (dt_idle _ _) ?_
  refine goesI_block (dt_idle _ _) ?_
  refine goesI_loop (dt_idle _ _) ?_
  exact hk _ ⟨rfl, rfl, by
    intro p hp
    simp only [List.mem_cons, List.not_mem_nil, or_false] at hp
    rcases hp with rfl | rfl | rfl | rfl | rfl | rfl <;> rfl⟩

set_option maxHeartbeats 2000000 in
set_option maxRecDepth 100000 in
/-- No times are left. -/
theorem lead_end {z : Nat → Option Nat} {Ch : Nat → Prop} {Stop : Goroutine → World → Prop} {main : Bool} {v w : World} {c n tb x fr k : Nat} (hkn : n ≤ k) {a : Act} (hA : Fl 34 [(0, Pt c 0), (1, Pt tb 0), (2, I (x : Nat)), (3, I (fr : Nat)), (14, I (n : Nat)), (15, I (k : Nat))] a) (cs : List Frame) {bc : Frame} {ac : Act} {ops : Array Oper} {q : Nat} {rest : List Nat} {oc : Oper} {k0 : List Item} (hoc : ops[q]? = some oc)
    (hvw : Rel z v w) (hn : NoRow Ch v) (hk : ∀ w', Rel z v w' → GoesI Try.prog main (DT (ScZ z) Ch) Stop (G (bc.at (ac.put oc.dst (.bool false)) (.inRegion ops rest :: k0)) cs) w') :
    GoesI Try.prog main (DT (ScZ z) Ch) Stop (G (hlFr a) (bc.at ac (.inRegion ops (q :: rest) :: k0) :: cs)) w := by
  have hkn' : ¬ (k : Int) < (n : Int) := by omega
  obtain ⟨hsz, hd, hpp⟩ := hA
  obtain ⟨u, rfl, hg⟩ := litN hsz hd
  have u0 := (hg 0).symm.trans (hpp (0, Pt c 0) (by simp))
  have u1 := (hg 1).symm.trans (hpp (1, Pt tb 0) (by simp))
  have u2 := (hg 2).symm.trans (hpp (2, I (x : Nat)) (by simp))
  have u3 := (hg 3).symm.trans (hpp (3, I (fr : Nat)) (by simp))
  have u14 := (hg 14).symm.trans (hpp (14, I (n : Nat)) (by simp))
  have u15 := (hg 15).symm.trans (hpp (15, I (k : Nat)) (by simp))
  clear hg hpp hsz hd
  unfold hlFr hlT hlL hlB Try.f105 seq1 seq2 blockC loopC
  simp only [Option.getD_some, lits, Nat.reduceAdd, u0, u1, u2, u3, u14, u15]
  clear u0 u1 u2 u3 u14 u15
  refine goesI_seq (dt_idle _ _) ?_
  refine goesI_region (dt_idle _ _) ?_
  simp only [List.size_toArray, List.length_cons, List.length_nil, Nat.reduceAdd, Nat.zero_add, List.range, List.range.loop]
  iterate 1
    (refine goesI_oper rfl rfl (by decide) (fun d K hK => ?_)
     go_simp
     refine hK _ _ ⟨dt_reads (fun e he => ?_), GoesI.at ?_ d⟩
     · have hm := mem_listed he
       simp [go_sem, *] at hm
       try exact ⟨_, _, hm⟩
     clear hK K)
  refine goesI_regionEnd (dt_idle _ _) ?_
  refine goesI_seq (dt_idle _ _) ?_
  refine goesI_cond (dt_idle _ _) (t := false) (by simp [Act.eval]; try omega) ?_
  simp only [if_true, if_false, Bool.false_eq_true]
  refine goesI_exit (dt_idle _ _) (by simp [exitTo]; rfl) ?_
  refine goesI_seq (dt_idle _ _) ?_
  refine goesI_region (dt_idle _ _) ?_
  simp only [List.size_toArray, List.length_cons, List.length_nil, Nat.reduceAdd, Nat.zero_add, List.range, List.range.loop]
  iterate 1
    (refine goesI_oper rfl rfl (by decide) (fun d K hK => ?_)
     go_simp
     refine hK _ _ ⟨dt_reads (fun e he => ?_), GoesI.at ?_ d⟩
     · have hm := mem_listed he
       simp [go_sem, *] at hm
       try exact ⟨_, _, hm⟩
     clear hK K)
  refine goesI_regionEnd (dt_idle _ _) ?_
  refine GoesI.ctl rfl (fun _ => stepG_ret') (dt_idle _ _) ?_
  exact goesI_leaveZ (f := 105) (fn := Try.f105) (x := .bool false) hvw hn Try.func105 rfl hoc (by simp [results, go_sem, Try.f105]) (fun w' r' => hk w' r')

set_option maxHeartbeats 2000000 in
set_option maxRecDepth 100000 in
/-- The way has come back. -/
theorem lead_yes {z : Nat → Option Nat} {Ch : Nat → Prop} {Stop : Goroutine → World → Prop} {main : Bool} {v w : World} {c n tb x fr k : Nat} (hkn : k < n) (hx : x = fr) {a : Act} (hA : Fl 34 [(0, Pt c 0), (1, Pt tb 0), (2, I (x : Nat)), (3, I (fr : Nat)), (14, I (n : Nat)), (15, I (k : Nat))] a) (cs : List Frame) {bc : Frame} {ac : Act} {ops : Array Oper} {q : Nat} {rest : List Nat} {oc : Oper} {k0 : List Item} (hoc : ops[q]? = some oc)
    (hvw : Rel z v w) (hn : NoRow Ch v) (hk : ∀ w', Rel z v w' → GoesI Try.prog main (DT (ScZ z) Ch) Stop (G (bc.at (ac.put oc.dst (.bool true)) (.inRegion ops rest :: k0)) cs) w') :
    GoesI Try.prog main (DT (ScZ z) Ch) Stop (G (hlFr a) (bc.at ac (.inRegion ops (q :: rest) :: k0) :: cs)) w := by
  have hkn' : (k : Int) < (n : Int) := by omega
  subst hx
  obtain ⟨hsz, hd, hpp⟩ := hA
  obtain ⟨u, rfl, hg⟩ := litN hsz hd
  have u0 := (hg 0).symm.trans (hpp (0, Pt c 0) (by simp))
  have u1 := (hg 1).symm.trans (hpp (1, Pt tb 0) (by simp))
  have u2 := (hg 2).symm.trans (hpp (2, I (x : Nat)) (by simp))
  have u3 := (hg 3).symm.trans (hpp (3, I (x : Nat)) (by simp))
  have u14 := (hg 14).symm.trans (hpp (14, I (n : Nat)) (by simp))
  have u15 := (hg 15).symm.trans (hpp (15, I (k : Nat)) (by simp))
  clear hg hpp hsz hd
  unfold hlFr hlT hlL hlB Try.f105 seq1 seq2 blockC loopC
  simp only [Option.getD_some, lits, Nat.reduceAdd, u0, u1, u2, u3, u14, u15]
  clear u0 u1 u2 u3 u14 u15
  refine goesI_seq (dt_idle _ _) ?_
  refine goesI_region (dt_idle _ _) ?_
  simp only [List.size_toArray, List.length_cons, List.length_nil, Nat.reduceAdd, Nat.zero_add, List.range, List.range.loop]
  iterate 1
    (refine goesI_oper rfl rfl (by decide) (fun d K hK => ?_)
     go_simp
     refine hK _ _ ⟨dt_reads (fun e he => ?_), GoesI.at ?_ d⟩
     · have hm := mem_listed he
       simp [go_sem, *] at hm
       try exact ⟨_, _, hm⟩
     clear hK K)
  refine goesI_regionEnd (dt_idle _ _) ?_
  refine goesI_seq (dt_idle _ _) ?_
  refine goesI_cond (dt_idle _ _) (t := true) (by simp [Act.eval]; try omega) ?_
  simp only [if_true, if_false, Bool.false_eq_true]
  refine goesI_skip (dt_idle _ _) ?_
  refine goesI_seq (dt_idle _ _) ?_
  refine goesI_block (dt_idle _ _) ?_
  refine goesI_seq (dt_idle _ _) ?_
  refine goesI_seq (dt_idle _ _) ?_
  refine goesI_region (dt_idle _ _) ?_
  simp only [List.size_toArray, List.length_cons, List.length_nil, Nat.reduceAdd, Nat.zero_add, List.range, List.range.loop]
  iterate 3
    (refine goesI_oper rfl rfl (by decide) (fun d K hK => ?_)
     go_simp
     refine hK _ _ ⟨dt_reads (fun e he => ?_), GoesI.at ?_ d⟩
     · have hm := mem_listed he
       simp [go_sem, *] at hm
       try exact ⟨_, _, hm⟩
     clear hK K)
  refine goesI_regionEnd (dt_idle _ _) ?_
  refine goesI_cond (dt_idle _ _) (t := true) (by simp [Act.eval]) ?_
  simp only [if_true, if_false, Bool.false_eq_true]
  refine goesI_seq (dt_idle _ _) ?_
  refine goesI_region (dt_idle _ _) ?_
  simp only [List.size_toArray, List.length_cons, List.length_nil, Nat.reduceAdd, Nat.zero_add, List.range, List.range.loop]
  iterate 1
    (refine goesI_oper rfl rfl (by decide) (fun d K hK => ?_)
     go_simp
     refine hK _ _ ⟨dt_reads (fun e he => ?_), GoesI.at ?_ d⟩
     · have hm := mem_listed he
       simp [go_sem, *] at hm
       try exact ⟨_, _, hm⟩
     clear hK K)
  refine goesI_regionEnd (dt_idle _ _) ?_
  refine GoesI.ctl rfl (fun _ => stepG_ret') (dt_idle _ _) ?_
  exact goesI_leaveZ (f := 105) (fn := Try.f105) (x := .bool true) hvw hn Try.func105 rfl hoc (by simp [results, go_sem, Try.f105]) (fun w' r' => hk w' r')

set_option maxHeartbeats 2000000 in
set_option maxRecDepth 100000 in
/-- It looks. -/
theorem lead_look {z : Nat → Option Nat} {Ch : Nat → Prop} {Stop : Goroutine → World → Prop} {h : Nat} {cont : Addr → Value} {S : TS} {K : List (Nat × Int)} {v w : World} {i cb c sb n x fr k : Nat} {t : Thr} (y : Int) (hkn : k < n) (hxn : x < n) (hne : x ≠ fr) (h0 : v.cell? ⟨c, 0, none⟩ = some (.slice (some ⟨sb, 0, none⟩) n n)) (hcb : v.cell? ⟨sb, x, none⟩ = some (Pt cb 0)) {a : Act} (hA : Fl 34 [(0, Pt c 0), (1, Pt t.tb 0), (2, I (x : Nat)), (3, I (fr : Nat)), (14, I (n : Nat)), (15, I (k : Nat))] a) (cs : List Frame) (Hm : Goroutine → Prop)
    (hH : ∀ g, (∃ a, Fl 34 [(0, Pt c 0), (1, Pt t.tb 0), (2, I (x : Nat)), (3, I (fr : Nat)), (14, I (n : Nat)), (15, I (k : Nat))] a ∧ OpBack (h == 0) i x cb t.tb 1 effLoad (fun r => G (hlSeen a r) cs) g) → Hm g)
    (hvw : Rel z v w) (hn : NoRow Ch v) (hm : Mem z S K v) (ht : S.thr[i]? = some t) (hK : K[x]? = some (cb, y)) (hz : z t.tb = some 2) (hcont : cont ⟨t.tb, 2, none⟩ = .chan (some t.gc))
    (hstop : ∀ g w', GiveT z cont h S.bk t.gc Hm (Then z Ch S K v (waiting S i t 1 1 x) K) g w' → Stop g w') :
    GoesI Try.prog (h == 0) (DT (ScZ z) Ch) Stop (G (hlFr a) cs) w := by
  have e0 : w.cell? ⟨c, 0, none⟩ = some (.slice (some ⟨sb, 0, none⟩) n n) := by rw [hvw.cell?]; exact h0
  have e1 : w.cell? ⟨sb, x, none⟩ = some (Pt cb 0) := by rw [hvw.cell?]; exact hcb
  have hkn' : (k : Int) < (n : Int) := by omega
  have hxn' : (x : Int) < (n : Int) := by omega
  have hne' : ¬ (x : Int) = (fr : Int) := by omega
  have HM : Hid (Mem z S K v) := ⟨hm⟩
  clear hm
  unfold hlSeen hlO5 hlI hl9 hlT hlL hlB Try.f105 seq1 seq2 blockC loopC opsOf at hH
  simp only [Option.getD_some] at hH
  obtain ⟨hsz, hd, hpp⟩ := hA
  obtain ⟨u, rfl, hg⟩ := litN hsz hd
  have u0 := (hg 0).symm.trans (hpp (0, Pt c 0) (by simp))
  have u1 := (hg 1).symm.trans (hpp (1, Pt t.tb 0) (by simp))
  have u2 := (hg 2).symm.trans (hpp (2, I (x : Nat)) (by simp))
  have u3 := (hg 3).symm.trans (hpp (3, I (fr : Nat)) (by simp))
  have u14 := (hg 14).symm.trans (hpp (14, I (n : Nat)) (by simp))
  have u15 := (hg 15).symm.trans (hpp (15, I (k : Nat)) (by simp))
  clear hg hpp hsz hd
  unfold hlFr hlT hlL hlB Try.f105 seq1 seq2 blockC loopC
  simp only [Option.getD_some, lits, Nat.reduceAdd, u0, u1, u2, u3, u14, u15]
  clear u0 u1 u2 u3 u14 u15
  refine goesI_seq (dt_idle _ _) ?_
  refine goesI_region (dt_idle _ _) ?_
  simp only [List.size_toArray, List.length_cons, List.length_nil, Nat.reduceAdd, Nat.zero_add, List.range, List.range.loop]
  iterate 1
    (refine goesI_oper rfl rfl (by decide) (fun d K hK => ?_)
     go_simp
     refine hK _ _ ⟨dt_reads (fun e he => ?_), GoesI.at ?_ d⟩
     · have hm := mem_listed he
       simp [go_sem, *] at hm
       try exact ⟨_, _, hm⟩
     clear hK K)
  refine goesI_regionEnd (dt_idle _ _) ?_
  refine goesI_seq (dt_idle _ _) ?_
  refine goesI_cond (dt_idle _ _) (t := true) (by simp [Act.eval]; try omega) ?_
  simp only [if_true, if_false, Bool.false_eq_true]
  refine goesI_skip (dt_idle _ _) ?_
  refine goesI_seq (dt_idle _ _) ?_
  refine goesI_block (dt_idle _ _) ?_
  refine goesI_seq (dt_idle _ _) ?_
  refine goesI_seq (dt_idle _ _) ?_
  refine goesI_region (dt_idle _ _) ?_
  simp only [List.size_toArray, List.length_cons, List.length_nil, Nat.reduceAdd, Nat.zero_add, List.range, List.range.loop]
  iterate 3
    (refine goesI_oper rfl rfl (by decide) (fun d K hK => ?_)
     go_simp
     refine hK _ _ ⟨dt_reads (fun e he => ?_), GoesI.at ?_ d⟩
     · have hm := mem_listed he
       simp [go_sem, *] at hm
       try exact ⟨_, _, hm⟩
     clear hK K)
  refine goesI_regionEnd (dt_idle _ _) ?_
  refine goesI_cond (dt_idle _ _) (t := false) (by simp [Act.eval]; try omega) ?_
  simp only [if_true, if_false, Bool.false_eq_true]
  refine goesI_skip (dt_idle _ _) ?_
  refine goesI_seq (dt_idle _ _) ?_
  refine goesI_region (dt_idle _ _) ?_
  simp only [List.size_toArray, List.length_cons, List.length_nil, Nat.reduceAdd, Nat.zero_add, List.range, List.range.loop]
  iterate 8
    (refine goesI_oper rfl rfl (by decide) (fun d K hK => ?_)
     go_simp
     refine hK _ _ ⟨dt_reads (fun e he => ?_), GoesI.at ?_ d⟩
     · have hm := mem_listed he
       simp [go_sem, *] at hm
       try exact ⟨_, _, hm⟩
     clear hK K)
  refine goesI_into (f := 28) (fn := Try.f28) (args := #[Pt cb 0, Pt t.tb 0]) (dt_idle _ _) rfl rfl (by decide) rfl (by simp [Act.eval]) Try.func28 (by decide) rfl ?_
  exact load_goes y _ Hm rfl (fun g hg => hH g ⟨_, ⟨rfl, rfl, by
    intro p hp
    simp only [List.mem_cons, List.not_mem_nil, or_false] at hp
    rcases hp with rfl | rfl | rfl | rfl | rfl | rfl <;> rfl⟩, hg⟩) hvw hn HM.out ht hK hz hcont hstop _ rfl

set_option maxHeartbeats 2000000 in
set_option maxRecDepth 100000 in
/-- Nothing was written down there. -/
theorem lead_no {z : Nat → Option Nat} {Ch : Nat → Prop} {Stop : Goroutine → World → Prop} {main : Bool} {v w : World} {c n tb x fr k : Nat} {a : Act} (hA : Fl 34 [(0, Pt c 0), (1, Pt tb 0), (2, I (x : Nat)), (3, I (fr : Nat)), (14, I (n : Nat)), (15, I (k : Nat))] a) (cs : List Frame) {bc : Frame} {ac : Act} {ops : Array Oper} {q : Nat} {rest : List Nat} {oc : Oper} {k0 : List Item} (hoc : ops[q]? = some oc)
    (hvw : Rel z v w) (hn : NoRow Ch v) (hk : ∀ w', Rel z v w' → GoesI Try.prog main (DT (ScZ z) Ch) Stop (G (bc.at (ac.put oc.dst (.bool false)) (.inRegion ops rest :: k0)) cs) w') :
    GoesI Try.prog main (DT (ScZ z) Ch) Stop (G (hlSeen a (I 0)) (bc.at ac (.inRegion ops (q :: rest) :: k0) :: cs)) w := by
  obtain ⟨hsz, hd, hpp⟩ := hA
  obtain ⟨u, rfl, hg⟩ := litN hsz hd
  have u0 := (hg 0).symm.trans (hpp (0, Pt c 0) (by simp))
  have u1 := (hg 1).symm.trans (hpp (1, Pt tb 0) (by simp))
  have u2 := (hg 2).symm.trans (hpp (2, I (x : Nat)) (by simp))
  have u3 := (hg 3).symm.trans (hpp (3, I (fr : Nat)) (by simp))
  have u14 := (hg 14).symm.trans (hpp (14, I (n : Nat)) (by simp))
  have u15 := (hg 15).symm.trans (hpp (15, I (k : Nat)) (by simp))
  clear hg hpp hsz hd
  unfold hlSeen hlO5 hlI hl9 hlT hlL hlB Try.f105 seq1 seq2 blockC loopC opsOf
  simp only [Option.getD_some, lits, Nat.reduceAdd, u0, u1, u2, u3, u14, u15]
  clear u0 u1 u2 u3 u14 u15
  walk_nrm
  iterate 1
    (refine goesI_oper rfl rfl (by decide) (fun d K hK => ?_)
     go_simp
     refine hK _ _ ⟨dt_reads (fun e he => ?_), GoesI.at ?_ d⟩
     · have hm := mem_listed he
       simp [go_sem, *] at hm
       try exact ⟨_, _, hm⟩
     clear hK K)
  refine goesI_regionEnd (dt_idle _ _) ?_
  refine goesI_seq (dt_idle _ _) ?_
  refine goesI_seq (dt_idle _ _) ?_
  refine goesI_region (dt_idle _ _) ?_
  simp only [List.size_toArray, List.length_cons, List.length_nil, Nat.reduceAdd, Nat.zero_add, List.range, List.range.loop]
  iterate 2
    (refine goesI_oper rfl rfl (by decide) (fun d K hK => ?_)
     go_simp
     refine hK _ _ ⟨dt_reads (fun e he => ?_), GoesI.at ?_ d⟩
     · have hm := mem_listed he
       simp [go_sem, *] at hm
       try exact ⟨_, _, hm⟩
     clear hK K)
  refine goesI_regionEnd (dt_idle _ _) ?_
  refine goesI_cond (dt_idle _ _) (t := true) (by simp [Act.eval]) ?_
  simp only [if_true, if_false, Bool.false_eq_true]
  refine goesI_seq (dt_idle _ _) ?_
  refine goesI_region (dt_idle _ _) ?_
  simp only [List.size_toArray, List.length_cons, List.length_nil, Nat.reduceAdd, Nat.zero_add, List.range, List.range.loop]
  iterate 1
    (refine goesI_oper rfl rfl (by decide) (fun d K hK => ?_)
     go_simp
     refine hK _ _ ⟨dt_reads (fun e he => ?_), GoesI.at ?_ d⟩
     · have hm := mem_listed he
       simp [go_sem, *] at hm
       try exact ⟨_, _, hm⟩
     clear hK K)
  refine goesI_regionEnd (dt_idle _ _) ?_
  refine GoesI.ctl rfl (fun _ => stepG_ret') (dt_idle _ _) ?_
  exact goesI_leaveZ (f := 105) (fn := Try.f105) (x := .bool false) hvw hn Try.func105 rfl hoc (by simp [results, go_sem, Try.f105]) (fun w' r' => hk w' r')

set_option maxHeartbeats 2000000 in
set_option maxRecDepth 100000 in
/-- It goes on. -/
theorem lead_next {z : Nat → Option Nat} {Ch : Nat → Prop} {Stop : Goroutine → World → Prop} {main : Bool} {w : World} {c n tb x fr k y : Nat} (hkn : k < n) (hn1 : n ≤ 100) (hy : y ≤ 100) {a : Act} (hA : Fl 34 [(0, Pt c 0), (1, Pt tb 0), (2, I (x : Nat)), (3, I (fr : Nat)), (14, I (n : Nat)), (15, I (k : Nat))] a) (cs : List Frame)
    (hk : ∀ a, Fl 34 [(0, Pt c 0), (1, Pt tb 0), (2, I (y : Nat)), (3, I (fr : Nat)), (14, I (n : Nat)), (15, I ((k + 1 : Nat) : Int))] a → GoesI Try.prog main (DT (ScZ z) Ch) Stop (G (hlFr a) cs) w) :
    GoesI Try.prog main (DT (ScZ z) Ch) Stop (G (hlSeen a (I ((y : Int) + 1))) cs) w := by
  have hy0 : ¬ ((y : Int) + 1 = 0) := by omega
  have hw1 : IntKind.i64.wrap (y : Int) = (y : Int) := by rw [IntKind.wrap_i64]; omega
  have hw2 : IntKind.i64.wrap ((k : Int) + 1) = ((k + 1 : Nat) : Int) := by rw [IntKind.wrap_i64]; omega
  unfold hlFr hlT hlL hlB Try.f105 seq1 seq2 blockC loopC at hk
  simp only [Option.getD_some] at hk
  obtain ⟨hsz, hd, hpp⟩ := hA
  obtain ⟨u, rfl, hg⟩ := litN hsz hd
  have u0 := (hg 0).symm.trans (hpp (0, Pt c 0) (by simp))
  have u1 := (hg 1).symm.trans (hpp (1, Pt tb 0) (by simp))
  have u2 := (hg 2).symm.trans (hpp (2, I (x : Nat)) (by simp))
  have u3 := (hg 3).symm.trans (hpp (3, I (fr : Nat)) (by simp))
  have u14 := (hg 14).symm.trans (hpp (14, I (n : Nat)) (by simp))
  have u15 := (hg 15).symm.trans (hpp (15, I (k : Nat)) (by simp))
  clear hg hpp hsz hd
  unfold hlSeen hlO5 hlI hl9 hlT hlL hlB Try.f105 seq1 seq2 blockC loopC opsOf
  simp only [Option.getD_some, lits, Nat.reduceAdd, u0, u1, u2, u3, u14, u15]
  clear u0 u1 u2 u3 u14 u15
  walk_nrm
  iterate 1
    (refine goesI_oper rfl rfl (by decide) (fun d K hK => ?_)
     go_simp
     refine hK _ _ ⟨dt_reads (fun e he => ?_), GoesI.at ?_ d⟩
     · have hm := mem_listed he
       simp [go_sem, *] at hm
       try exact ⟨_, _, hm⟩
     clear hK K)
  refine goesI_regionEnd (dt_idle _ _) ?_
  refine goesI_seq (dt_idle _ _) ?_
  refine goesI_seq (dt_idle _ _) ?_
  refine goesI_region (dt_idle _ _) ?_
  simp only [List.size_toArray, List.length_cons, List.length_nil, Nat.reduceAdd, Nat.zero_add, List.range, List.range.loop]
  iterate 2
    (refine goesI_oper rfl rfl (by decide) (fun d K hK => ?_)
     go_simp
     refine hK _ _ ⟨dt_reads (fun e he => ?_), GoesI.at ?_ d⟩
     · have hm := mem_listed he
       simp [go_sem, *] at hm
       try exact ⟨_, _, hm⟩
     clear hK K)
  refine goesI_regionEnd (dt_idle _ _) ?_
  refine goesI_cond (dt_idle _ _) (t := false) (by simp [Act.eval]; try omega) ?_
  simp only [if_true, if_false, Bool.false_eq_true]
  refine goesI_skip (dt_idle _ _) ?_
  refine goesI_region (dt_idle _ _) ?_
  simp only [List.size_toArray, List.length_cons, List.length_nil, Nat.reduceAdd, Nat.zero_add, List.range, List.range.loop]
  iterate 3
    (refine goesI_oper rfl rfl (by decide) (fun d K hK => ?_)
     go_simp
     refine hK _ _ ⟨dt_reads (fun e he => ?_), GoesI.at ?_ d⟩
     · have hm := mem_listed he
       simp [go_sem, *] at hm
       try exact ⟨_, _, hm⟩
     clear hK K)
  refine goesI_regionEnd (dt_idle _ _) ?_
  refine goesI_inBlock (dt_idle _ _) ?_
  refine goesI_region (dt_idle _ _) ?_
  simp only [List.size_toArray, List.length_cons, List.length_nil, Nat.reduceAdd, Nat.zero_add, List.range, List.range.loop]
  iterate 2
    (refine goesI_oper rfl rfl (by decide) (fun d K hK => ?_)
     go_simp
     refine hK _ _ ⟨dt_reads (fun e he => ?_), GoesI.at ?_ d⟩
     · have hm := mem_listed he
       simp [go_sem, *] at hm
       try exact ⟨_, _, hm⟩
     clear hK K)
  refine goesI_regionEnd (dt_idle _ _) ?_
  refine goesI_inLoop (dt_idle _ _) ?_
  exact hk _ ⟨rfl, rfl, by
    intro p hp
    simp only [List.mem_cons, List.not_mem_nil, or_false] at hp
    rcases hp with rfl | rfl | rfl | rfl | rfl | rfl <;> first | rfl | exact congrArg I hw1 | exact congrArg I hw2⟩
end Go.Proofs.Ytfjjoohflcchnaa.Gen
