/- ChainTrue: who is told of a ring lies on one; no call takes longer than it may. Part 21 of 26. (Joined, by program, of: GIns, GWb, GNow, ChL, ChA.) -/
import Derived.Test.YtmmfjanbjheekaaChainTrue06
import Derived.Test.YtmmfjanbjheekaaChainTrue12
import Derived.Test.YtmmfjanbjheekaaChainTrue14
import Derived.Test.YtmmfjanbjheekaaChainTrue17

/- What came in: lists of numbers, scripts; what a Play asks of them. -/
set_option linter.unusedSimpArgs false
set_option linter.unusedVariables false
namespace Go.Proofs.Ytmmfjanbjheekaa.Gen
open Go Go.Lift Go.Conc Go.RowKit

def InR (x : Int) : Prop := -9223372036854775808 ≤ x ∧ x < 9223372036854775808
def Cl.ok (c : Cl) : Prop := InR c.cb ∧ InR c.cc
/-- Where a list of ints lies that came in. -/
structure InI (W : World) (p : Option Addr) (b o : Nat) (xs : List Int) : Prop where
  at_ : 0 < xs.length → p = some ⟨b, o, none⟩
  cell : ∀ k x, xs[k]? = some x → W.cell? ⟨b, o + k, none⟩ = some (I x)
  inr : ∀ x ∈ xs, InR x
  len : xs.length ≤ 17592186043904
theorem InI.grows {W W' : World} {p : Option Addr} {b o : Nat} {xs : List Int} (h : InI W p b o xs) (g : Grows W W') : InI W' p b o xs :=
  ⟨h.at_, fun k x hk => g.cell (h.cell k x hk), h.inr, h.len⟩
/-- Where scripts lie that came in. -/
structure InS (W : World) (p : Option Addr) (b o n : Nat) (pc : Nat → Option Addr) (ln cp rb : Nat → Nat) (cl : Nat → List Cl) : Prop where
  at_ : 0 < n → p = some ⟨b, o, none⟩
  row : ∀ k, k < n → W.cell? ⟨b, o + k, none⟩ = some (.slice (pc k) (ln k) (cp k))
  len : ∀ j, j < n → (cl j).length = ln j
  pq : ∀ j, j < n → 0 < ln j → pc j = some ⟨rb j, roOf (pc j), none⟩
  call : ∀ j, j < n → ∀ (k : Nat) (c : Cl), (cl j)[k]? = some c → W.cell? ⟨rb j, roOf (pc j) + k * 4, none⟩ = some (I c.po) ∧ W.cell? ⟨rb j, roOf (pc j) + k * 4 + 1, none⟩ = some (I c.ca) ∧ W.cell? ⟨rb j, roOf (pc j) + k * 4 + 2, none⟩ = some (I c.cb) ∧ W.cell? ⟨rb j, roOf (pc j) + k * 4 + 3, none⟩ = some (I c.cc)
  ok : ∀ j, j < n → ∀ c ∈ cl j, InR c.ca ∧ c.ok
  n : n ≤ 17592186043904
theorem InS.grows {W W' : World} {p : Option Addr} {b o n : Nat} {pc : Nat → Option Addr} {ln cp rb : Nat → Nat} {cl : Nat → List Cl} (h : InS W p b o n pc ln cp rb cl) (g : Grows W W') : InS W' p b o n pc ln cp rb cl :=
  ⟨h.at_, fun k hk => g.cell (h.row k hk), h.len, h.pq, fun j hj k c hc => by
    have := h.call j hj k c hc
    exact ⟨g.cell this.1, g.cell this.2.1, g.cell this.2.2.1, g.cell this.2.2.2⟩, h.ok, h.n⟩

theorem lens_scrs (mc : Mc) (fid : FuncId) (caps : Array Value) (pk : Nat → Option Obj) (N n : Nat) (K : List (Nat × Int)) (pc : Nat → Option Addr) (ln cp rb : Nat → Nat) (cl : Nat → List Cl) (hl : ∀ j, j < n → (cl j).length ≤ 64) : lens (scrs mc fid caps pk N n K pc ln cp rb cl) ≤ 64 * n := by
  unfold lens scrs
  rw [List.map_map]
  have : ∀ (m j : Nat), j + m ≤ n → ((List.range' j m).map ((fun s : Scr mc => s.calls.length) ∘ scrOf mc fid caps pk N n (K.map (·.1)) pc ln cp rb cl)).sum ≤ 64 * m := by
    intro m
    induction m with
    | zero => intro j _; simp
    | succ m ih =>
      intro j hj
      rw [List.range'_succ, List.map_cons, List.sum_cons]
      have h1 := ih (j + 1) (by omega)
      have h2 : ((fun s : Scr mc => s.calls.length) ∘ scrOf mc fid caps pk N n (K.map (·.1)) pc ln cp rb cl) j ≤ 64 := hl j (by omega)
      omega
  exact this n 0 (by omega)
theorem scrs_len (mc : Mc) (fid : FuncId) (caps : Array Value) (pk : Nat → Option Obj) (N n : Nat) (K : List (Nat × Int)) (pc : Nat → Option Addr) (ln cp rb : Nat → Nat) (cl : Nat → List Cl) : (scrs mc fid caps pk N n K pc ln cp rb cl).length = n := by simp [scrs]
/-- The world is new: the scripts lie there for Play. -/
theorem asked_of {W v : World} {p : Option Addr} {b o n : Nat} {pc : Nat → Option Addr} {ln cp rb : Nat → Nat} {cl : Nat → List Cl} (h : InS W p b o n pc ln cp rb cl) {xs : List Int} {wb bk : Nat} {sc : Value} (hn : IsNew W xs wb bk sc v) (h64 : ∀ j, j < n → ln j ≤ 64) (h0 : 0 < n) : Asked v (newS wb bk W.heap.size sc xs) n b o pc ln cp rb cl := by
  have g := h.grows hn.old
  have far : ∀ (a : Addr) (x : Value), W.cell? a = some x → ¬ Own (newS wb bk W.heap.size sc xs) [] a.block := fun a x ha ho => by
    have := hn.new _ (.inl ho)
    have := World.block_lt_of_cell? _ _ ha
    omega
  refine ⟨fun j hj => ⟨h.len j hj, h64 j hj⟩, g.row, far _ _ (h.row 0 h0), fun j hj hl => ⟨h.pq j hj hl, ?_⟩, g.call, fun j hj c hc => (h.ok j hj c hc).1⟩
  obtain ⟨c, hc⟩ : ∃ c, (cl j)[0]? = some c := ⟨_, List.getElem?_eq_getElem (by rw [h.len j hj]; exact hl)⟩
  exact far _ _ (h.call j hj 0 c hc).1

end Go.Proofs.Ytmmfjanbjheekaa.Gen

/- A world stays where it is, through hiring and turns. -/
set_option linter.unusedSimpArgs false
set_option linter.unusedVariables false
namespace Go.Proofs.Ytmmfjanbjheekaa.Gen
open Go Go.Lift Go.Conc Go.RowKit
/-! ### The world stays where it is -/
theorem going_wb (S : TS) (i : Nat) (t : Thr) : (going S i t).wb = S.wb := by
  unfold going
  first
    | rfl
    | (unfold picked; split <;> rfl)
    | (split <;> rfl)
theorem pturn_wb {mc : Mc} {p p' : PSt} (h : pturn mc p = some p') : p'.S.wb = p.S.wb := by
  unfold pturn at h
  split at h
  · split at h
    · cases h; rfl
    · cases h
  · cases h
    exact (resume_sta _ _ _ _ _).wb.trans (going_wb _ _ _)
theorem turns_wb {mc : Mc} {m : Nat} {p p' : PSt} (h : Turns mc m p p') : p'.S.wb = p.S.wb := by
  induction h with
  | stop _ => rfl
  | step h1 _ ih => exact ih.trans (pturn_wb h1)
theorem hires_wb {mc : Mc} {k : Nat} {ss : List (Scr mc)} {S S' : TS} {l l' : Nat → Ph} (h : Hires mc k ss S l S' l') : S'.wb = S.wb := by
  induction h with
  | nil => rfl
  | cons tv tb gc _ ih => exact ih.trans (flow_sta _ _ _ _ _ _ _).wb

end Go.Proofs.Ytmmfjanbjheekaa.Gen

/- A thread in the middle of a call: where it is (Now), and that a seat which it comes to is what Ob asks. -/
set_option linter.unusedSimpArgs false
set_option linter.unusedVariables false
namespace Go.Proofs.Ytmmfjanbjheekaa.Gen
open Go Go.Lift Go.Conc Go.RowKit
variable {mc : Mc}

/-- It goes on from a world v0 (state S0, cells K0), and is in a world v: state S (σ, but for the trace's place), cells κ; Mo is its own. -/
structure Now (X : Fix mc) (z : Nat → Option Nat) (cont : Addr → Value) (Ch : Nat → Prop) (S0 : TS) (K0 : List (Nat × Int)) (v0 : World) (Mo0 Mo : Nat → Option Obj) (σ : TS) (κ : List (Nat × Int)) (S : TS) (v w : World) (t : Thr) : Prop where
  at_ : At X z cont Ch S κ v w t
  evo : EvoP (fun b => Mo0 b ≠ none) z S0 K0 v0 S κ v
  nv : nv S = σ
  bk : S.bk = S0.bk
  mo : Has Mo v
  far : ∀ b, Mo b ≠ none → ¬ Own S κ b
  new : ∀ b, Mo b ≠ none → Mo0 b ≠ none ∨ v0.heap.size ≤ b
  row : ∀ b o, Mo b = some o → ∃ c e f, o = .cells c e f

section
variable {X : Fix mc} {z : Nat → Option Nat} {cont : Addr → Value} {Ch : Nat → Prop} {Stop : Goroutine → World → Prop} {cu : Value → Goroutine} {S0 : TS} {K0 : List (Nat × Int)} {v0 : World} {Mo0 Mo : Nat → Option Obj} {σ : TS} {κ : List (Nat × Int)} {S : TS} {v w : World} {t : Thr} {H : Nx → (Nat → Option Obj) → Goroutine → Prop}

theorem Now.good (N : Now X z cont Ch S0 K0 v0 Mo0 Mo σ κ S v w t) {x : Nx} (hx : ∀ e y, x ≠ .ans e y) : Good v0 Mo0 x Mo := ⟨hx, N.new, N.row⟩

/-- It goes on. -/
theorem Now.on (N : Now X z cont Ch S0 K0 v0 Mo0 Mo σ κ S v w t) {S' σ' : TS} {κ' : List (Nat × Int)} {v' w' : World} {t' : Thr} (e : Evo z S κ v S' κ' v') (r : Rel z v' w') (n : NoRow Ch v') (hS : Gen.nv S' = σ') (ht : S'.thr[X.i]? = some t') (htb : t'.tb = X.tb) (hgc : t'.gc = X.gc) (hbk : S'.bk = S.bk) (hok : KOk mc κ') : Now X z cont Ch S0 K0 v0 Mo0 Mo σ' κ' S' v' w' t' := by
  have kp : ∀ b, b < v.heap.size → ¬ Own S κ b → v'.heap[b]? = v.heap[b]? ∧ ¬ Own S' κ' b := fun b hb ho => (Evo.toP (Pr := fun _ => False) e).keeps hb ho (fun h => h)
  have km : ∀ (M : Nat → Option Obj), Has M v → (∀ b, M b ≠ none → ¬ Own S κ b) → Has M v' ∧ ∀ b, M b ≠ none → ¬ Own S' κ' b := fun M hM hf => by
    have h1 : ∀ b o, M b = some o → v'.heap[b]? = v.heap[b]? ∧ ¬ Own S' κ' b := fun b o hb => kp b (Array.getElem?_eq_some_iff.1 (hM b o hb)).1 (hf b (by rw [hb]; simp))
    refine ⟨fun b o hb => by rw [(h1 b o hb).1]; exact hM b o hb, fun b hb => ?_⟩
    obtain ⟨o, ho⟩ := Option.ne_none_iff_exists'.1 hb
    exact (h1 b o ho).2
  have k1 := km X.pk N.at_.pk N.at_.far
  have k2 := km Mo N.mo N.far
  exact ⟨⟨r, n, e.mem, ht, htb, hgc, ⟨e.blks.trans N.at_.kb.1, hok⟩, N.at_.z, N.at_.cont, k1.1, k1.2⟩, N.evo.trans (Evo.toP e), hS, hbk.trans N.bk, k2.1, k2.2, N.new, N.row⟩
/-- .. with nothing changed. -/
theorem Now.same (N : Now X z cont Ch S0 K0 v0 Mo0 Mo σ κ S v w t) {v' w' : World} (r : Rel z v' w') (n : NoRow Ch v') (e1 : v'.heap = v.heap) (e2 : v'.os = v.os) (e3 : v'.output = v.output) : Now X z cont Ch S0 K0 v0 Mo0 Mo σ κ S v' w' t :=
  N.on (N.at_.mem.grows ⟨by rw [e1]; exact Nat.le_refl _, fun b _ => by rw [e1], e2, e3⟩) r n N.nv N.at_.thr N.at_.tb N.at_.gc rfl N.at_.kb.2
/-- A call goes on from its seat. -/
theorem Now.here (A : At X z cont Ch S κ v w t) (hm : Has Mo v) (hf : ∀ b, Mo b ≠ none → ¬ Own S κ b) (hr : ∀ b o, Mo b = some o → ∃ c e f, o = .cells c e f) : Now X z cont Ch S κ v Mo Mo (Gen.nv S) κ S v w t :=
  ⟨A, Evo.toP (A.mem.grows ⟨Nat.le_refl _, fun _ _ => rfl, rfl, rfl⟩), rfl, rfl, hm, hf, fun b hb => .inl hb, hr⟩
theorem Now.cell (N : Now X z cont Ch S0 K0 v0 Mo0 Mo σ κ S v w t) {j cb : Nat} (h : X.kb[j]? = some cb) : κ[j]? = some (cb, (cellAt κ j).2) ∧ cellAt κ j = (cb, (cellAt κ j).2) := by
  rw [← N.at_.kb.1, List.getElem?_map, Option.map_eq_some_iff] at h
  obtain ⟨p, h1, rfl⟩ := h
  have : cellAt κ j = p := by unfold cellAt; rw [h1]; rfl
  rw [this]
  exact ⟨h1, rfl⟩

/-- A turn. -/
theorem ob_turn {op : Int} {j : Nat} {q : Q} (hob : Ob X H z cont Ch Stop cu S0 K0 v0 Mo0 σ κ (.turn op j q)) (N : Now X z cont Ch S0 K0 v0 Mo0 Mo σ κ S v w t) (g : Goroutine) (w' : World) (hg : GiveT z cont X.h S.bk t.gc (H (.turn op j q) Mo) (Then z Ch S κ v (waiting S X.i t 1 op j) κ) g w') : Stop g w' := by
  refine hob.seat 1 op j (.inl ⟨⟨q, rfl⟩, rfl⟩) g w' Mo (N.good (fun _ _ h => by cases h)) ?_
  rw [N.at_.gc, N.bk] at hg
  refine atGive_mono (fun hF => ?_) hg
  obtain ⟨v', r, n, e⟩ := hF
  have N' := N.on e r n rfl (t' := { t with st := 1, op := op, ce := j, se := _ }) (List.getElem?_set_self (List.getElem?_eq_some_iff.1 N.at_.thr).1) N.at_.tb N.at_.gc rfl N.at_.kb.2
  refine ⟨v', _, r, n, ?_, N'.evo, N'.mo, N'.far⟩
  rw [← N.nv, show thrI (Gen.nv S) X.i = t from thrI_of N.at_.thr]
  rfl
end
end Go.Proofs.Ytmmfjanbjheekaa.Gen

/- leads (20) in company, in pieces: entered; the way is at its end, or has come back; it looks; nothing was written down there; it goes on. (Made by wip/tools/mkch.py.) -/
set_option linter.unusedSimpArgs false
set_option linter.unusedVariables false
namespace Go.Proofs.Ytmmfjanbjheekaa.Gen
open Go Go.Lift Go.Conc Go.RowKit

noncomputable def hlB : Code := Try.f20.body.getD .skip
noncomputable def hl0 : Code := seq1 hlB
noncomputable def hl1 : Code := seq1 (seq1 (seq2 hlB))
noncomputable def hlL : Code := loopC (blockC (seq2 (seq1 (seq2 hlB))))
noncomputable def hlT : Code := seq2 (seq2 hlB)
noncomputable def hlI : Code := blockC (seq1 (seq2 (seq2 hlL)))
noncomputable def hl9 : Code := seq2 (seq2 (seq2 hlL))
noncomputable def hlO5 : Array Oper := opsOf (seq1 (seq2 hlI))
theorem eHlB : hlB = .seq hl0 (.seq (.seq hl1 (.block 0 (.loop hlL))) hlT) := by kernel_rfl
/-- The frame at the loop's head; where it has seen. -/
noncomputable def hlFr (a : Act) : Frame := (base 20).at a [.code hlL, .inLoop hlL, .inBlock 0, .code hlT]
noncomputable def hlSeen (a : Act) (r : Value) : Frame := (base 20).at (a.put (some 28) r) [.inRegion hlO5 [9], .code (seq2 (seq2 hlI)), .inBlock 1, .code hl9, .inLoop hlL, .inBlock 0, .code hlT]

set_option maxHeartbeats 2000000 in
set_option maxRecDepth 100000 in
/-- It has been entered. -/
theorem lead_in {z : Nat → Option Nat} {Ch : Nat → Prop} {Stop : Goroutine → World → Prop} {main : Bool} {v w : World} {c sb n tb x fr : Nat} (h0 : v.cell? ⟨c, 0, none⟩ = some (.slice (some ⟨sb, 0, none⟩) n n)) (cs : List Frame) (hvw : Rel z v w)
    (hk : ∀ a, Fl 34 [(0, Pt c 0), (1, Pt tb 0), (2, I (x : Nat)), (3, I (fr : Nat)), (14, I (n : Nat)), (15, I ((0 : Nat) : Int))] a → GoesI Try.prog main (DT (ScZ z) Ch) Stop (G (hlFr a) cs) w) (code : Code) (hc : Try.f20.body = some code) :
    GoesI Try.prog main (DT (ScZ z) Ch) Stop (G ((base 20).at { tmps := #[Pt c 0, Pt tb 0, I (x : Nat), I (fr : Nat)] ++ Array.replicate 30 undef, defers := [] } [.code code]) cs) w := by
  have e0 : w.cell? ⟨c, 0, none⟩ = some (.slice (some ⟨sb, 0, none⟩) n n) := by rw [hvw.cell?]; exact h0
  have hw0 : code = .seq hl0 (.seq (.seq hl1 (.block 0 (.loop hlL))) hlT) := by
    rw [show code = hlB by unfold hlB; rw [hc]; rfl]; exact eHlB
  subst hw0
  clear hc
  unfold hlFr at hk
  generalize hlL = L at hk ⊢
  generalize hlT = T at hk ⊢
  unfold hl0 hl1 hlB Try.f20 seq1 seq2
  simp only [Option.getD_some, Array.replicate_succ, Array.replicate_zero, List.push_toArray, List.append_toArray, List.nil_append, List.cons_append]
  refine goesI_seq (dt_idle _ _) ?_
  refine goesI_region (dt_idle _ _) ?_
  simp only [List.size_toArray, List.length_cons, List.length_nil, Nat.reduceAdd, Nat.zero_add, List.range, List.range.loop]
  iterate 1
    (refine goesI_oper rfl rfl (by decide) (fun d K hK => ?_)
     go_simp
     refine hK _ _ ⟨dt_reads (fun e he => ?_), GoesI.at ?_ d⟩
     · have hm := mem_listed he
       simp [go_sem, *] at hm
       try exact ⟨_, _, hm⟩
     clear hK K)
  refine goesI_regionEnd (dt_idle _ _) ?_
  refine goesI_seq (dt_idle _ _) ?_
  refine goesI_seq (dt_idle _ _) ?_
  refine goesI_region (dt_idle _ _) ?_
  simp only [List.size_toArray, List.length_cons, List.length_nil, Nat.reduceAdd, Nat.zero_add, List.range, List.range.loop]
  iterate 6
    (refine goesI_oper rfl rfl (by decide) (fun d K hK => ?_)
     go_simp
     refine hK _ _ ⟨dt_reads (fun e he => ?_), GoesI.at ?_ d⟩
     · have hm := mem_listed he
       simp [go_sem, *] at hm
       try exact ⟨_, _, hm⟩
     clear hK K)
  refine goesI_regionEnd (dt_idle _ _) ?_
  refine goesI_block (dt_idle _ _) ?_
  refine goesI_loop (dt_idle _ _) ?_
  exact hk _ ⟨rfl, rfl, by
    intro p hp
    simp only [List.mem_cons, List.not_mem_nil, or_false] at hp
    rcases hp with rfl | rfl | rfl | rfl | rfl | rfl <;> rfl⟩

set_option maxHeartbeats 2000000 in
set_option maxRecDepth 100000 in
/-- No times are left. -/
theorem lead_end {z : Nat → Option Nat} {Ch : Nat → Prop} {Stop : Goroutine → World → Prop} {main : Bool} {v w : World} {c n tb x fr k : Nat} (hkn : n ≤ k) {a : Act} (hA : Fl 34 [(0, Pt c 0), (1, Pt tb 0), (2, I (x : Nat)), (3, I (fr : Nat)), (14, I (n : Nat)), (15, I (k : Nat))] a) (cs : List Frame) {bc : Frame} {ac : Act} {ops : Array Oper} {q : Nat} {rest : List Nat} {oc : Oper} {k0 : List Item} (hoc : ops[q]? = some oc)
    (hvw : Rel z v w) (hn : NoRow Ch v) (hk : ∀ w', Rel z v w' → GoesI Try.prog main (DT (ScZ z) Ch) Stop (G (bc.at (ac.put oc.dst (.bool false)) (.inRegion ops rest :: k0)) cs) w') :
    GoesI Try.prog main (DT (ScZ z) Ch) Stop (G (hlFr a) (bc.at ac (.inRegion ops (q :: rest) :: k0) :: cs)) w := by
  have hkn' : ¬ (k : Int) < (n : Int) := by omega
  obtain ⟨hsz, hd, hpp⟩ := hA
  obtain ⟨u, rfl, hg⟩ := litN hsz hd
  have u0 := (hg 0).symm.trans (hpp (0, Pt c 0) (by simp))
  have u1 := (hg 1).symm.trans (hpp (1, Pt tb 0) (by simp))
  have u2 := (hg 2).symm.trans (hpp (2, I (x : Nat)) (by simp))
  have u3 := (hg 3).symm.trans (hpp (3, I (fr : Nat)) (by simp))
  have u14 := (hg 14).symm.trans (hpp (14, I (n : Nat)) (by simp))
  have u15 := (hg 15).symm.trans (hpp (15, I (k : Nat)) (by simp))
  clear hg hpp hsz hd
  unfold hlFr hlT hlL hlB Try.f20 seq1 seq2 blockC loopC
  simp only [Option.getD_some, lits, Nat.reduceAdd, u0, u1, u2, u3, u14, u15]
  clear u0 u1 u2 u3 u14 u15
  refine goesI_seq (dt_idle _ _) ?_
  refine goesI_region (dt_idle _ _) ?_
  simp only [List.size_toArray, List.length_cons, List.length_nil, Nat.reduceAdd, Nat.zero_add, List.range, List.range.loop]
  iterate 1
    (refine goesI_oper rfl rfl (by decide) (fun d K hK => ?_)
     go_simp
     refine hK _ _ ⟨dt_reads (fun e he => ?_), GoesI.at ?_ d⟩
     · have hm := mem_listed he
       simp [go_sem, *] at hm
       try exact ⟨_, _, hm⟩
     clear hK K)
  refine goesI_regionEnd (dt_idle _ _) ?_
  refine goesI_seq (dt_idle _ _) ?_
  refine goesI_cond (dt_idle _ _) (t := false) (by simp [Act.eval]; try omega) ?_
  simp only [if_true, if_false, Bool.false_eq_true]
  refine goesI_exit (dt_idle _ _) (by simp [exitTo]; rfl) ?_
  refine goesI_seq (dt_idle _ _) ?_
  refine goesI_region (dt_idle _ _) ?_
  simp only [List.size_toArray, List.length_cons, List.length_nil, Nat.reduceAdd, Nat.zero_add, List.range, List.range.loop]
  iterate 1
    (refine goesI_oper rfl rfl (by decide) (fun d K hK => ?_)
     go_simp
     refine hK _ _ ⟨dt_reads (fun e he => ?_), GoesI.at ?_ d⟩
     · have hm := mem_listed he
       simp [go_sem, *] at hm
       try exact ⟨_, _, hm⟩
     clear hK K)
  refine goesI_regionEnd (dt_idle _ _) ?_
  refine GoesI.ctl rfl (fun _ => stepG_ret') (dt_idle _ _) ?_
  exact goesI_leaveZ (f := 20) (fn := Try.f20) (x := .bool false) hvw hn Try.func20 rfl hoc (by simp [results, go_sem, Try.f20]) (fun w' r' => hk w' r')

set_option maxHeartbeats 2000000 in
set_option maxRecDepth 100000 in
/-- The way has come back. -/
theorem lead_yes {z : Nat → Option Nat} {Ch : Nat → Prop} {Stop : Goroutine → World → Prop} {main : Bool} {v w : World} {c n tb x fr k : Nat} (hkn : k < n) (hx : x = fr) {a : Act} (hA : Fl 34 [(0, Pt c 0), (1, Pt tb 0), (2, I (x : Nat)), (3, I (fr : Nat)), (14, I (n : Nat)), (15, I (k : Nat))] a) (cs : List Frame) {bc : Frame} {ac : Act} {ops : Array Oper} {q : Nat} {rest : List Nat} {oc : Oper} {k0 : List Item} (hoc : ops[q]? = some oc)
    (hvw : Rel z v w) (hn : NoRow Ch v) (hk : ∀ w', Rel z v w' → GoesI Try.prog main (DT (ScZ z) Ch) Stop (G (bc.at (ac.put oc.dst (.bool true)) (.inRegion ops rest :: k0)) cs) w') :
    GoesI Try.prog main (DT (ScZ z) Ch) Stop (G (hlFr a) (bc.at ac (.inRegion ops (q :: rest) :: k0) :: cs)) w := by
  have hkn' : (k : Int) < (n : Int) := by omega
  subst hx
  obtain ⟨hsz, hd, hpp⟩ := hA
  obtain ⟨u, rfl, hg⟩ := litN hsz hd
  have u0 := (hg 0).symm.trans (hpp (0, Pt c 0) (by simp))
  have u1 := (hg 1).symm.trans (hpp (1, Pt tb 0) (by simp))
  have u2 := (hg 2).symm.trans (hpp (2, I (x : Nat)) (by simp))
  have u3 := (hg 3).symm.trans (hpp (3, I (x : Nat)) (by simp))
  have u14 := (hg 14).symm.trans (hpp (14, I (n : Nat)) (by simp))
  have u15 := (hg 15).symm.trans (hpp (15, I (k : Nat)) (by simp))
  clear hg hpp hsz hd
  unfold hlFr hlT hlL hlB Try.f20 seq1 seq2 blockC loopC
  simp only [Option.getD_some, lits, Nat.reduceAdd, u0, u1, u2, u3, u14, u15]
  clear u0 u1 u2 u3 u14 u15
  refine goesI_seq (dt_idle _ _) ?_
  refine goesI_region (dt_idle _ _) ?_
  simp only [List.size_toArray, List.length_cons, List.length_nil, Nat.reduceAdd, Nat.zero_add, List.range, List.range.loop]
  iterate 1
    (refine goesI_oper rfl rfl (by decide) (fun d K hK => ?_)
     go_simp
     refine hK _ _ ⟨dt_reads (fun e he => ?_), GoesI.at ?_ d⟩
     · have hm := mem_listed he
       simp [go_sem, *] at hm
       try exact ⟨_, _, hm⟩
     clear hK K)
  refine goesI_regionEnd (dt_idle _ _) ?_
  refine goesI_seq (dt_idle _ _) ?_
  refine goesI_cond (dt_idle _ _) (t := true) (by simp [Act.eval]; try omega) ?_
  simp only [if_true, if_false, Bool.false_eq_true]
  refine goesI_skip (dt_idle _ _) ?_
  refine goesI_seq (dt_idle _ _) ?_
  refine goesI_block (dt_idle _ _) ?_
  refine goesI_seq (dt_idle _ _) ?_
  refine goesI_seq (dt_idle _ _) ?_
  refine goesI_region (dt_idle _ _) ?_
  simp only [List.size_toArray, List.length_cons, List.length_nil, Nat.reduceAdd, Nat.zero_add, List.range, List.range.loop]
  iterate 3
    (refine goesI_oper rfl rfl (by decide) (fun d K hK => ?_)
     go_simp
     refine hK _ _ ⟨dt_reads (fun e he => ?_), GoesI.at ?_ d⟩
     · have hm := mem_listed he
       simp [go_sem, *] at hm
       try exact ⟨_, _, hm⟩
     clear hK K)
  refine goesI_regionEnd (dt_idle _ _) ?_
  refine goesI_cond (dt_idle _ _) (t := true) (by simp [Act.eval]) ?_
  simp only [if_true, if_false, Bool.false_eq_true]
  refine goesI_seq (dt_idle _ _) ?_
  refine goesI_region (dt_idle _ _) ?_
  simp only [List.size_toArray, List.length_cons, List.length_nil, Nat.reduceAdd, Nat.zero_add, List.range, List.range.loop]
  iterate 1
    (refine goesI_oper rfl rfl (by decide) (fun d K hK => ?_)
     go_simp
     refine hK _ _ ⟨dt_reads (fun e he => ?_), GoesI.at ?_ d⟩
     · have hm := mem_listed he
       simp [go_sem, *] at hm
       try exact ⟨_, _, hm⟩
     clear hK K)
  refine goesI_regionEnd (dt_idle _ _) ?_
  refine GoesI.ctl rfl (fun _ => stepG_ret') (dt_idle _ _) ?_
  exact goesI_leaveZ (f := 20) (fn := Try.f20) (x := .bool true) hvw hn Try.func20 rfl hoc (by simp [results, go_sem, Try.f20]) (fun w' r' => hk w' r')

set_option maxHeartbeats 2000000 in
set_option maxRecDepth 100000 in
/-- It looks. -/
theorem lead_look {z : Nat → Option Nat} {Ch : Nat → Prop} {Stop : Goroutine → World → Prop} {h : Nat} {cont : Addr → Value} {S : TS} {K : List (Nat × Int)} {v w : World} {i cb c sb n x fr k : Nat} {t : Thr} (y : Int) (hkn : k < n) (hxn : x < n) (hne : x ≠ fr) (h0 : v.cell? ⟨c, 0, none⟩ = some (.slice (some ⟨sb, 0, none⟩) n n)) (hcb : v.cell? ⟨sb, x, none⟩ = some (Pt cb 0)) {a : Act} (hA : Fl 34 [(0, Pt c 0), (1, Pt t.tb 0), (2, I (x : Nat)), (3, I (fr : Nat)), (14, I (n : Nat)), (15, I (k : Nat))] a) (cs : List Frame) (Hm : Goroutine → Prop)
    (hH : ∀ g, (∃ a, Fl 34 [(0, Pt c 0), (1, Pt t.tb 0), (2, I (x : Nat)), (3, I (fr : Nat)), (14, I (n : Nat)), (15, I (k : Nat))] a ∧ OpBack (h == 0) i x cb t.tb 1 effLoad (fun r => G (hlSeen a r) cs) g) → Hm g)
    (hvw : Rel z v w) (hn : NoRow Ch v) (hm : Mem z S K v) (ht : S.thr[i]? = some t) (hK : K[x]? = some (cb, y)) (hz : z t.tb = some 2) (hcont : cont ⟨t.tb, 2, none⟩ = .chan (some t.gc))
    (hstop : ∀ g w', GiveT z cont h S.bk t.gc Hm (Then z Ch S K v (waiting S i t 1 1 x) K) g w' → Stop g w') :
    GoesI Try.prog (h == 0) (DT (ScZ z) Ch) Stop (G (hlFr a) cs) w := by
  have e0 : w.cell? ⟨c, 0, none⟩ = some (.slice (some ⟨sb, 0, none⟩) n n) := by rw [hvw.cell?]; exact h0
  have e1 : w.cell? ⟨sb, x, none⟩ = some (Pt cb 0) := by rw [hvw.cell?]; exact hcb
  have hkn' : (k : Int) < (n : Int) := by omega
  have hxn' : (x : Int) < (n : Int) := by omega
  have hne' : ¬ (x : Int) = (fr : Int) := by omega
  have HM : Hid (Mem z S K v) := ⟨hm⟩
  clear hm
  unfold hlSeen hlO5 hlI hl9 hlT hlL hlB Try.f20 seq1 seq2 blockC loopC opsOf at hH
  simp only [Option.getD_some] at hH
  obtain ⟨hsz, hd, hpp⟩ := hA
  obtain ⟨u, rfl, hg⟩ := litN hsz hd
  have u0 := (hg 0).symm.trans (hpp (0, Pt c 0) (by simp))
  have u1 := (hg 1).symm.trans (hpp (1, Pt t.tb 0) (by simp))
  have u2 := (hg 2).symm.trans (hpp (2, I (x : Nat)) (by simp))
  have u3 := (hg 3).symm.trans (hpp (3, I (fr : Nat)) (by simp))
  have u14 := (hg 14).symm.trans (hpp (14, I (n : Nat)) (by simp))
  have u15 := (hg 15).symm.trans (hpp (15, I (k : Nat)) (by simp))
  clear hg hpp hsz hd
  unfold hlFr hlT hlL hlB Try.f20 seq1 seq2 blockC loopC
  simp only [Option.getD_some, lits, Nat.reduceAdd, u0, u1, u2, u3, u14, u15]
  clear u0 u1 u2 u3 u14 u15
  refine goesI_seq (dt_idle _ _) ?_
  refine goesI_region (dt_idle _ _) ?_
  simp only [List.size_toArray, List.length_cons, List.length_nil, Nat.reduceAdd, Nat.zero_add, List.range, List.range.loop]
  iterate 1
    (refine goesI_oper rfl rfl (by decide) (fun d K hK => ?_)
     go_simp
     refine hK _ _ ⟨dt_reads (fun e he => ?_), GoesI.at ?_ d⟩
     · have hm := mem_listed he
       simp [go_sem, *] at hm
       try exact ⟨_, _, hm⟩
     clear hK K)
  refine goesI_regionEnd (dt_idle _ _) ?_
  refine goesI_seq (dt_idle _ _) ?_
  refine goesI_cond (dt_idle _ _) (t := true) (by simp [Act.eval]; try omega) ?_
  simp only [if_true, if_false, Bool.false_eq_true]
  refine goesI_skip (dt_idle _ _) ?_
  refine goesI_seq (dt_idle _ _) ?_
  refine goesI_block (dt_idle _ _) ?_
  refine goesI_seq (dt_idle _ _) ?_
  refine goesI_seq (dt_idle _ _) ?_
  refine goesI_region (dt_idle _ _) ?_
  simp only [List.size_toArray, List.length_cons, List.length_nil, Nat.reduceAdd, Nat.zero_add, List.range, List.range.loop]
  iterate 3
    (refine goesI_oper rfl rfl (by decide) (fun d K hK => ?_)
     go_simp
     refine hK _ _ ⟨dt_reads (fun e he => ?_), GoesI.at ?_ d⟩
     · have hm := mem_listed he
       simp [go_sem, *] at hm
       try exact ⟨_, _, hm⟩
     clear hK K)
  refine goesI_regionEnd (dt_idle _ _) ?_
  refine goesI_cond (dt_idle _ _) (t := false) (by simp [Act.eval]; try omega) ?_
  simp only [if_true, if_false, Bool.false_eq_true]
  refine goesI_skip (dt_idle _ _) ?_
  refine goesI_seq (dt_idle _ _) ?_
  refine goesI_region (dt_idle _ _) ?_
  simp only [List.size_toArray, List.length_cons, List.length_nil, Nat.reduceAdd, Nat.zero_add, List.range, List.range.loop]
  iterate 8
    (refine goesI_oper rfl rfl (by decide) (fun d K hK => ?_)
     go_simp
     refine hK _ _ ⟨dt_reads (fun e he => ?_), GoesI.at ?_ d⟩
     · have hm := mem_listed he
       simp [go_sem, *] at hm
       try exact ⟨_, _, hm⟩
     clear hK K)
  refine goesI_into (f := 30) (fn := Try.f30) (args := #[Pt cb 0, Pt t.tb 0]) (dt_idle _ _) rfl rfl (by decide) rfl (by simp [Act.eval]) Try.func30 (by decide) rfl ?_
  exact load_goes y _ Hm rfl (fun g hg => hH g ⟨_, ⟨rfl, rfl, by
    intro p hp
    simp only [List.mem_cons, List.not_mem_nil, or_false] at hp
    rcases hp with rfl | rfl | rfl | rfl | rfl | rfl <;> rfl⟩, hg⟩) hvw hn HM.out ht hK hz hcont hstop _ rfl

set_option maxHeartbeats 2000000 in
set_option maxRecDepth 100000 in
/-- Nothing was written down there. -/
theorem lead_no {z : Nat → Option Nat} {Ch : Nat → Prop} {Stop : Goroutine → World → Prop} {main : Bool} {v w : World} {c n tb x fr k : Nat} {a : Act} (hA : Fl 34 [(0, Pt c 0), (1, Pt tb 0), (2, I (x : Nat)), (3, I (fr : Nat)), (14, I (n : Nat)), (15, I (k : Nat))] a) (cs : List Frame) {bc : Frame} {ac : Act} {ops : Array Oper} {q : Nat} {rest : List Nat} {oc : Oper} {k0 : List Item} (hoc : ops[q]? = some oc)
    (hvw : Rel z v w) (hn : NoRow Ch v) (hk : ∀ w', Rel z v w' → GoesI Try.prog main (DT (ScZ z) Ch) Stop (G (bc.at (ac.put oc.dst (.bool false)) (.inRegion ops rest :: k0)) cs) w') :
    GoesI Try.prog main (DT (ScZ z) Ch) Stop (G (hlSeen a (I 0)) (bc.at ac (.inRegion ops (q :: rest) :: k0) :: cs)) w := by
  obtain ⟨hsz, hd, hpp⟩ := hA
  obtain ⟨u, rfl, hg⟩ := litN hsz hd
  have u0 := (hg 0).symm.trans (hpp (0, Pt c 0) (by simp))
  have u1 := (hg 1).symm.trans (hpp (1, Pt tb 0) (by simp))
  have u2 := (hg 2).symm.trans (hpp (2, I (x : Nat)) (by simp))
  have u3 := (hg 3).symm.trans (hpp (3, I (fr : Nat)) (by simp))
  have u14 := (hg 14).symm.trans (hpp (14, I (n : Nat)) (by simp))
  have u15 := (hg 15).symm.trans (hpp (15, I (k : Nat)) (by simp))
  clear hg hpp hsz hd
  unfold hlSeen hlO5 hlI hl9 hlT hlL hlB Try.f20 seq1 seq2 blockC loopC opsOf
  simp only [Option.getD_some, lits, Nat.reduceAdd, u0, u1, u2, u3, u14, u15]
  clear u0 u1 u2 u3 u14 u15
  walk_nrm
  iterate 1
    (refine goesI_oper rfl rfl (by decide) (fun d K hK => ?_)
     go_simp
     refine hK _ _ ⟨dt_reads (fun e he => ?_), GoesI.at ?_ d⟩
     · have hm := mem_listed he
       simp [go_sem, *] at hm
       try exact ⟨_, _, hm⟩
     clear hK K)
  refine goesI_regionEnd (dt_idle _ _) ?_
  refine goesI_seq (dt_idle _ _) ?_
  refine goesI_seq (dt_idle _ _) ?_
  refine goesI_region (dt_idle _ _) ?_
  simp only [List.size_toArray, List.length_cons, List.length_nil, Nat.reduceAdd, Nat.zero_add, List.range, List.range.loop]
  iterate 2
    (refine goesI_oper rfl rfl (by decide) (fun d K hK => ?_)
     go_simp
     refine hK _ _ ⟨dt_reads (fun e he => ?_), GoesI.at ?_ d⟩
     · have hm := mem_listed he
       simp [go_sem, *] at hm
       try exact ⟨_, _, hm⟩
     clear hK K)
  refine goesI_regionEnd (dt_idle _ _) ?_
  refine goesI_cond (dt_idle _ _) (t := true) (by simp [Act.eval]) ?_
  simp only [if_true, if_false, Bool.false_eq_true]
  refine goesI_seq (dt_idle _ _) ?_
  refine goesI_region (dt_idle _ _) ?_
  simp only [List.size_toArray, List.length_cons, List.length_nil, Nat.reduceAdd, Nat.zero_add, List.range, List.range.loop]
  iterate 1
    (refine goesI_oper rfl rfl (by decide) (fun d K hK => ?_)
     go_simp
     refine hK _ _ ⟨dt_reads (fun e he => ?_), GoesI.at ?_ d⟩
     · have hm := mem_listed he
       simp [go_sem, *] at hm
       try exact ⟨_, _, hm⟩
     clear hK K)
  refine goesI_regionEnd (dt_idle _ _) ?_
  refine GoesI.ctl rfl (fun _ => stepG_ret') (dt_idle _ _) ?_
  exact goesI_leaveZ (f := 20) (fn := Try.f20) (x := .bool false) hvw hn Try.func20 rfl hoc (by simp [results, go_sem, Try.f20]) (fun w' r' => hk w' r')

set_option maxHeartbeats 2000000 in
set_option maxRecDepth 100000 in
/-- It goes on. -/
theorem lead_next {z : Nat → Option Nat} {Ch : Nat → Prop} {Stop : Goroutine → World → Prop} {main : Bool} {w : World} {c n tb x fr k y : Nat} (hkn : k < n) (hn1 : n ≤ 100) (hy : y ≤ 100) {a : Act} (hA : Fl 34 [(0, Pt c 0), (1, Pt tb 0), (2, I (x : Nat)), (3, I (fr : Nat)), (14, I (n : Nat)), (15, I (k : Nat))] a) (cs : List Frame)
    (hk : ∀ a, Fl 34 [(0, Pt c 0), (1, Pt tb 0), (2, I (y : Nat)), (3, I (fr : Nat)), (14, I (n : Nat)), (15, I ((k + 1 : Nat) : Int))] a → GoesI Try.prog main (DT (ScZ z) Ch) Stop (G (hlFr a) cs) w) :
    GoesI Try.prog main (DT (ScZ z) Ch) Stop (G (hlSeen a (I ((y : Int) + 1))) cs) w := by
  have hy0 : ¬ ((y : Int) + 1 = 0) := by omega
  have hw1 : IntKind.i64.wrap (y : Int) = (y : Int) := by rw [IntKind.wrap_i64]; omega
  have hw2 : IntKind.i64.wrap ((k : Int) + 1) = ((k + 1 : Nat) : Int) := by rw [IntKind.wrap_i64]; omega
  unfold hlFr hlT hlL hlB Try.f20 seq1 seq2 blockC loopC at hk
  simp only [Option.getD_some] at hk
  obtain ⟨hsz, hd, hpp⟩ := hA
  obtain ⟨u, rfl, hg⟩ := litN hsz hd
  have u0 := (hg 0).symm.trans (hpp (0, Pt c 0) (by simp))
  have u1 := (hg 1).symm.trans (hpp (1, Pt tb 0) (by simp))
  have u2 := (hg 2).symm.trans (hpp (2, I (x : Nat)) (by simp))
  have u3 := (hg 3).symm.trans (hpp (3, I (fr : Nat)) (by simp))
  have u14 := (hg 14).symm.trans (hpp (14, I (n : Nat)) (by simp))
  have u15 := (hg 15).symm.trans (hpp (15, I (k : Nat)) (by simp))
  clear hg hpp hsz hd
  unfold hlSeen hlO5 hlI hl9 hlT hlL hlB Try.f20 seq1 seq2 blockC loopC opsOf
  simp only [Option.getD_some, lits, Nat.reduceAdd, u0, u1, u2, u3, u14, u15]
  clear u0 u1 u2 u3 u14 u15
  walk_nrm
  iterate 1
    (refine goesI_oper rfl rfl (by decide) (fun d K hK => ?_)
     go_simp
     refine hK _ _ ⟨dt_reads (fun e he => ?_), GoesI.at ?_ d⟩
     · have hm := mem_listed he
       simp [go_sem, *] at hm
       try exact ⟨_, _, hm⟩
     clear hK K)
  refine goesI_regionEnd (dt_idle _ _) ?_
  refine goesI_seq (dt_idle _ _) ?_
  refine goesI_seq (dt_idle _ _) ?_
  refine goesI_region (dt_idle _ _) ?_
  simp only [List.size_toArray, List.length_cons, List.length_nil, Nat.reduceAdd, Nat.zero_add, List.range, List.range.loop]
  iterate 2
    (refine goesI_oper rfl rfl (by decide) (fun d K hK => ?_)
     go_simp
     refine hK _ _ ⟨dt_reads (fun e he => ?_), GoesI.at ?_ d⟩
     · have hm := mem_listed he
       simp [go_sem, *] at hm
       try exact ⟨_, _, hm⟩
     clear hK K)
  refine goesI_regionEnd (dt_idle _ _) ?_
  refine goesI_cond (dt_idle _ _) (t := false) (by simp [Act.eval]; try omega) ?_
  simp only [if_true, if_false, Bool.false_eq_true]
  refine goesI_skip (dt_idle _ _) ?_
  refine goesI_region (dt_idle _ _) ?_
  simp only [List.size_toArray, List.length_cons, List.length_nil, Nat.reduceAdd, Nat.zero_add, List.range, List.range.loop]
  iterate 3
    (refine goesI_oper rfl rfl (by decide) (fun d K hK => ?_)
     go_simp
     refine hK _ _ ⟨dt_reads (fun e he => ?_), GoesI.at ?_ d⟩
     · have hm := mem_listed he
       simp [go_sem, *] at hm
       try exact ⟨_, _, hm⟩
     clear hK K)
  refine goesI_regionEnd (dt_idle _ _) ?_
  refine goesI_inBlock (dt_idle _ _) ?_
  refine goesI_region (dt_idle _ _) ?_
  simp only [List.size_toArray, List.length_cons, List.length_nil, Nat.reduceAdd, Nat.zero_add, List.range, List.range.loop]
  iterate 2
    (refine goesI_oper rfl rfl (by decide) (fun d K hK => ?_)
     go_simp
     refine hK _ _ ⟨dt_reads (fun e he => ?_), GoesI.at ?_ d⟩
     · have hm := mem_listed he
       simp [go_sem, *] at hm
       try exact ⟨_, _, hm⟩
     clear hK K)
  refine goesI_regionEnd (dt_idle _ _) ?_
  refine goesI_inLoop (dt_idle _ _) ?_
  exact hk _ ⟨rfl, rfl, by
    intro p hp
    simp only [List.mem_cons, List.not_mem_nil, or_false] at hp
    rcases hp with rfl | rfl | rfl | rfl | rfl | rfl <;> first | rfl | exact congrArg I hw1 | exact congrArg I hw2⟩
end Go.Proofs.Ytmmfjanbjheekaa.Gen

/- Ask (13) in company, in pieces: it writes down; then it follows the way. (Made by wip/tools/mkch.py.) -/
set_option linter.unusedSimpArgs false
set_option linter.unusedVariables false
namespace Go.Proofs.Ytmmfjanbjheekaa.Gen
open Go Go.Lift Go.Conc Go.RowKit

noncomputable def hkB : Code := Try.f13.body.getD .skip
noncomputable def hk1 : Code := seq1 (seq2 hkB)
noncomputable def hkO3 : Array Oper := opsOf (seq1 (seq2 (seq2 hkB)))
noncomputable def hkR : Code := seq2 (seq2 (seq2 hkB))
theorem eHkB : hkB = .seq (seq1 hkB) (.seq hk1 (.seq (.region 3 hkO3 false) hkR)) := by kernel_rfl
theorem fine_hk1 : fineCode Try.prog true LT hk1 := fineCode_ask callT extT (by kernel_rfl)
noncomputable def hkPut (a : Act) (r : Value) : Frame := (base 13).at (a.put (some 29) r) [.inRegion hkO3 [], .code hkR]
/-- What comes back is handed on. -/
def ABack (main : Bool) (cu1 cu2 : Value → Goroutine) : Prop :=
  ∀ (z : Nat → Option Nat) (Ch : Nat → Prop) (Stop : Goroutine → World → Prop) (w v : World) (r : Bool), Rel z v w → NoRow Ch v → (∀ w', Rel z v w' → GoesI Try.prog main (DT (ScZ z) Ch) Stop (cu2 (.bool r)) w') → GoesI Try.prog main (DT (ScZ z) Ch) Stop (cu1 (.bool r)) w

set_option maxHeartbeats 2000000 in
set_option maxRecDepth 100000 in
theorem hk1_wp (v : World) (c sb n tb fr to : Nat) (hf : fr < n) (ht : to < n) (h0 : v.cell? ⟨c, 0, none⟩ = some (.slice (some ⟨sb, 0, none⟩) n n)) {a : Act} (hA : Fl 35 [(0, Pt c 0), (1, Pt tb 0), (2, I (fr : Nat)), (3, I (to : Nat))] a) :
    hk1.wp Try.prog (fun e a w' => e = .normal ∧ Fl 35 [(0, Pt c 0), (1, Pt tb 0), (2, I (fr : Nat)), (3, I (to : Nat))] a ∧ w'.heap = v.heap ∧ w'.os = v.os ∧ w'.output = v.output) a v := by
  obtain ⟨hsz, hd, hpp⟩ := hA
  obtain ⟨u, rfl, hg⟩ := litN hsz hd
  have u0 := (hg 0).symm.trans (hpp (0, Pt c 0) (by simp))
  have u1 := (hg 1).symm.trans (hpp (1, Pt tb 0) (by simp))
  have u2 := (hg 2).symm.trans (hpp (2, I (fr : Nat)) (by simp))
  have u3 := (hg 3).symm.trans (hpp (3, I (to : Nat)) (by simp))
  clear hg hpp hsz hd
  unfold hk1 hkB Try.f13 seq1 seq2
  simp only [Option.getD_some, lits, Nat.reduceAdd, u0, u1, u2, u3]
  clear u0 u1 u2 u3
  go_wp2_with (first
    | (go_at_call 18; refine (has_any c sb n _ (by assumption) _ h0).mono ?_; rintro e w1 ⟨rfl, rfl⟩))
  first
    | exact ⟨rfl, ⟨rfl, rfl, by
      intro p hp
      simp only [List.mem_cons, List.not_mem_nil, or_false] at hp
      rcases hp with rfl | rfl | rfl | rfl <;> rfl⟩, rfl, rfl, rfl⟩
    | exact ⟨rfl, rfl, by
      intro p hp
      simp only [List.mem_cons, List.not_mem_nil, or_false] at hp
      rcases hp with rfl | rfl | rfl | rfl <;> rfl⟩
set_option maxHeartbeats 2000000 in
set_option maxRecDepth 100000 in
/-- It writes down. -/
theorem ask_in {z : Nat → Option Nat} {Ch : Nat → Prop} {Stop : Goroutine → World → Prop} {h : Nat} {cont : Addr → Value} {S : TS} {K : List (Nat × Int)} {v w : World} {i cb c sb n fr to : Nat} {t : Thr} (y : Int) (hf : fr < n) (hto : to < n) (hn1 : n ≤ 100) (h0 : v.cell? ⟨c, 0, none⟩ = some (.slice (some ⟨sb, 0, none⟩) n n)) (hcb : v.cell? ⟨sb, fr, none⟩ = some (Pt cb 0)) (cs : List Frame) (Hm : Goroutine → Prop)
    (hH : ∀ g, (∃ a, Fl 35 [(0, Pt c 0), (1, Pt t.tb 0), (2, I (fr : Nat)), (3, I (to : Nat))] a ∧ OpBack (h == 0) i fr cb t.tb 2 (effStore ((to : Int) + 1)) (fun r => G (hkPut a r) cs) g) → Hm g)
    (hvw : Rel z v w) (hn : NoRow Ch v) (hm : Mem z S K v) (ht : S.thr[i]? = some t) (hK : K[fr]? = some (cb, y)) (hz : z t.tb = some 2) (hcont : cont ⟨t.tb, 2, none⟩ = .chan (some t.gc))
    (hstop : ∀ g w', GiveT z cont h S.bk t.gc Hm (Then z Ch S K v (waiting S i t 1 2 fr) K) g w' → Stop g w') (code : Code) (hc : Try.f13.body = some code) :
    GoesI Try.prog (h == 0) (DT (ScZ z) Ch) Stop (G ((base 13).at { tmps := #[Pt c 0, Pt t.tb 0, I (fr : Nat), I (to : Nat)] ++ Array.replicate 31 undef, defers := [] } [.code code]) cs) w := by
  have hw0 : code = .seq (seq1 hkB) (.seq hk1 (.seq (.region 3 hkO3 false) hkR)) := by
    rw [show code = hkB by unfold hkB; rw [hc]; rfl]; exact eHkB
  subst hw0
  clear hc
  have HM : Hid (Mem z S K v) := ⟨hm⟩
  clear hm
  simp only [Array.replicate_succ, Array.replicate_zero, List.push_toArray, List.append_toArray, List.nil_append, List.cons_append]
  refine goesI_seq (dt_idle _ _) ?_
  generalize hh1 : hk1 = C1
  generalize hhR : hkR = CR at hH ⊢
  generalize hh3 : hkO3 = O3 at hH ⊢
  unfold hkB Try.f13 seq1
  simp only [Option.getD_some]
  refine goesI_region (dt_idle _ _) ?_
  simp only [List.size_toArray, List.length_cons, List.length_nil, Nat.reduceAdd, Nat.zero_add, List.range, List.range.loop]
  iterate 1
    (refine goesI_oper rfl rfl (by decide) (fun d K hK => ?_)
     go_simp
     refine hK _ _ ⟨dt_reads (fun e he => ?_), GoesI.at ?_ d⟩
     · have hm := mem_listed he
       simp [go_sem, *] at hm
       try exact ⟨_, _, hm⟩
     clear hK K)
  refine goesI_regionEnd (dt_idle _ _) ?_
  refine goesI_seq (dt_idle _ _) ?_
  subst hh1
  refine goesI_plain (z := z) (wr := true) (L := LT) (I := NoRow Ch) hE fineT noRow_keeps (fun v v' w w' es hi hr ho he => dt_of_z v v' w w' es hi hr ho he) hvw fine_hk1 rfl (by simp [base]) hn
    (Q := fun a w' => Fl 35 [(0, Pt c 0), (1, Pt t.tb 0), (2, I (fr : Nat)), (3, I (to : Nat))] a ∧ w'.heap = v.heap ∧ w'.os = v.os ∧ w'.output = v.output) (fun τ => hk1_wp (onTape v τ 0) c sb n t.tb fr to hf hto h0 ⟨rfl, rfl, by
      intro p hp
      simp only [List.mem_cons, List.not_mem_nil, or_false] at hp
      rcases hp with rfl | rfl | rfl | rfl <;> rfl⟩) ?_
  rintro a1 v1 w1 ⟨hA, q1, q2, q3⟩ hvw1 hn1' -
  have ev1 := HM.out.grows ⟨by rw [q1]; exact Nat.le_refl _, fun b _ => by rw [q1], q2, q3⟩
  have e0 : w1.cell? ⟨c, 0, none⟩ = some (.slice (some ⟨sb, 0, none⟩) n n) := by rw [hvw1.cell?, World.cell?_of_block (w := v) (by rw [q1])]; exact h0
  have e1 : w1.cell? ⟨sb, fr, none⟩ = some (Pt cb 0) := by rw [hvw1.cell?, World.cell?_of_block (w := v) (by rw [q1])]; exact hcb
  have hf' : (fr : Int) < (n : Int) := by omega
  have hw1 : IntKind.i64.wrap ((to : Int) + 1) = (to : Int) + 1 := by rw [IntKind.wrap_i64]; omega
  have EV : Hid (Evo z S K v S K v1) := ⟨ev1⟩
  clear ev1
  unfold hkPut at hH
  subst hhR hh3
  unfold hkO3 hkR hkB Try.f13 seq1 seq2 opsOf at hH
  simp only [Option.getD_some] at hH
  obtain ⟨hsz, hd, hpp⟩ := hA
  obtain ⟨u, rfl, hg⟩ := litN hsz hd
  have u0 := (hg 0).symm.trans (hpp (0, Pt c 0) (by simp))
  have u1 := (hg 1).symm.trans (hpp (1, Pt t.tb 0) (by simp))
  have u2 := (hg 2).symm.trans (hpp (2, I (fr : Nat)) (by simp))
  have u3 := (hg 3).symm.trans (hpp (3, I (to : Nat)) (by simp))
  clear hg hpp hsz hd
  unfold hkO3 hkR hkB Try.f13 seq1 seq2 opsOf
  simp only [Option.getD_some, lits, Nat.reduceAdd, u0, u1, u2, u3]
  clear u0 u1 u2 u3
  refine goesI_seq (dt_idle _ _) ?_
  refine goesI_region (dt_idle _ _) ?_
  simp only [List.size_toArray, List.length_cons, List.length_nil, Nat.reduceAdd, Nat.zero_add, List.range, List.range.loop]
  iterate 10
    (refine goesI_oper rfl rfl (by decide) (fun d K hK => ?_)
     go_simp
     refine hK _ _ ⟨dt_reads (fun e he => ?_), GoesI.at ?_ d⟩
     · have hm := mem_listed he
       simp [go_sem, *] at hm
       try exact ⟨_, _, hm⟩
     clear hK K)
  refine goesI_into (f := 19) (fn := Try.f19) (args := #[Pt cb 0, Pt t.tb 0, I ((to : Int) + 1)]) (dt_idle _ _) rfl rfl (by decide) rfl (by simp [Act.eval, hw1]) Try.func19 (by decide) rfl ?_
  exact store_goes ((to : Int) + 1) y _ Hm rfl (fun g hg => hH g ⟨_, ⟨rfl, rfl, by
    intro p hp
    simp only [List.mem_cons, List.not_mem_nil, or_false] at hp
    rcases hp with rfl | rfl | rfl | rfl <;> rfl⟩, hg⟩) hvw1 hn1' EV.out.mem ht hK hz hcont (fun g w' hs => hstop g w' (give_mono (fun hT => by obtain ⟨v', r1, r2, r3⟩ := hT; exact ⟨v', r1, r2, EV.out.trans r3⟩) hs)) _ rfl

set_option maxHeartbeats 2000000 in
set_option maxRecDepth 100000 in
/-- .. and follows the way. -/
theorem ask_next {z : Nat → Option Nat} {Ch : Nat → Prop} {Stop : Goroutine → World → Prop} {main : Bool} {v w : World} {c tb fr to : Nat} (r : Value) {a : Act} (hA : Fl 35 [(0, Pt c 0), (1, Pt tb 0), (2, I (fr : Nat)), (3, I (to : Nat))] a) (cs : List Frame) {bc : Frame} {ac : Act} {ops : Array Oper} {q : Nat} {rest : List Nat} {oc : Oper} {k0 : List Item} (hoc : ops[q]? = some oc)
    (hk : ∀ (bd : Frame) (ad : Act) (od : Array Oper) (qd : Nat) (rd : List Nat) (oe : Oper) (kd : List Item), od[qd]? = some oe →
      ABack main (fun r => G (bd.at (ad.put oe.dst r) (.inRegion od rd :: kd)) (bc.at ac (.inRegion ops (q :: rest) :: k0) :: cs)) (fun r => (G (bc.at (ac.put oc.dst r) (.inRegion ops rest :: k0)) cs)) → ∀ code, Try.f20.body = some code →
      GoesI Try.prog main (DT (ScZ z) Ch) Stop (G ((base 20).at { tmps := #[Pt c 0, Pt tb 0, I (to : Nat), I (fr : Nat)] ++ Array.replicate 30 undef, defers := [] } [.code code]) (bd.at ad (.inRegion od (qd :: rd) :: kd) :: bc.at ac (.inRegion ops (q :: rest) :: k0) :: cs)) w) :
    GoesI Try.prog main (DT (ScZ z) Ch) Stop (G (hkPut a r) (bc.at ac (.inRegion ops (q :: rest) :: k0) :: cs)) w := by
  obtain ⟨hsz, hd, hpp⟩ := hA
  obtain ⟨u, rfl, hg⟩ := litN hsz hd
  have u0 := (hg 0).symm.trans (hpp (0, Pt c 0) (by simp))
  have u1 := (hg 1).symm.trans (hpp (1, Pt tb 0) (by simp))
  have u2 := (hg 2).symm.trans (hpp (2, I (fr : Nat)) (by simp))
  have u3 := (hg 3).symm.trans (hpp (3, I (to : Nat)) (by simp))
  clear hg hpp hsz hd
  unfold hkPut hkO3 hkR hkB Try.f13 seq1 seq2 opsOf
  simp only [Option.getD_some, lits, Nat.reduceAdd, u0, u1, u2, u3]
  clear u0 u1 u2 u3
  walk_nrm
  refine goesI_regionEnd (dt_idle _ _) ?_
  refine goesI_seq (dt_idle _ _) ?_
  refine goesI_region (dt_idle _ _) ?_
  simp only [List.size_toArray, List.length_cons, List.length_nil, Nat.reduceAdd, Nat.zero_add, List.range, List.range.loop]
  iterate 4
    (refine goesI_oper rfl rfl (by decide) (fun d K hK => ?_)
     go_simp
     refine hK _ _ ⟨dt_reads (fun e he => ?_), GoesI.at ?_ d⟩
     · have hm := mem_listed he
       simp [go_sem, *] at hm
       try exact ⟨_, _, hm⟩
     clear hK K)
  refine goesI_into (f := 20) (fn := Try.f20) (args := #[Pt c 0, Pt tb 0, I (to : Nat), I (fr : Nat)]) (dt_idle _ _) rfl rfl (by decide) rfl (by simp [Act.eval]) Try.func20 (by decide) rfl ?_
  refine hk _ _ _ _ _ _ _ rfl ?_ _ rfl
  intro z1 Ch1 St w2 v2 b r2 n2 hgo
  show GoesI Try.prog main (DT (ScZ z1) Ch1) St _ w2
  walk_nrm
  iterate 1
    (refine goesI_oper rfl rfl (by decide) (fun d K hK => ?_)
     go_simp
     refine hK _ _ ⟨dt_reads (fun e he => ?_), GoesI.at ?_ d⟩
     · have hm := mem_listed he
       simp [go_sem, *] at hm
       try exact ⟨_, _, hm⟩
     clear hK K)
  refine goesI_regionEnd (dt_idle _ _) ?_
  refine GoesI.ctl rfl (fun _ => stepG_ret') (dt_idle _ _) ?_
  exact goesI_leaveZ (f := 13) (fn := Try.f13) (x := .bool b) r2 n2 Try.func13 rfl hoc (by simp [results, go_sem, Try.f13]) (fun w' r' => hgo w' r')
end Go.Proofs.Ytmmfjanbjheekaa.Gen
