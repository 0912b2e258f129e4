/- ChainRing: of a ring the last who writes down is told, under every schedule. Part 25 of 28. (Joined, by program, of: ChY, GPts, ChAw1, GFree, ChF, ChH.) -/
import Derived.Test.YtmmfjanbjheekaaChainRing06
import Derived.Test.YtmmfjanbjheekaaChainRing13
import Derived.Test.YtmmfjanbjheekaaChainRing16
import Derived.Test.YtmmfjanbjheekaaChainRing17
import Derived.Test.YtmmfjanbjheekaaChainRing23
import Derived.Test.YtmmfjanbjheekaaChainRing24
import Derived.KernelRfl
import Derived.Deep.RegionHeld3

/- chain.Play (8), main alone: from its entry to its call of play.Run, and behind it. (Made by wip/tools/mkchy.py.) -/
set_option linter.unusedSimpArgs false
set_option linter.unusedVariables false
namespace Go.Proofs.Ytmmfjanbjheekaa.Gen
open Go Go.Lift Go.Conc Go.RowKit

noncomputable def B8c : Code := Try.f8.body.getD .skip
noncomputable def k8c0 : Code := seq1 B8c
noncomputable def k8c1 : Code := seq1 (seq2 B8c)
noncomputable def k8c2 : Code := seq1 (seq2 (seq2 B8c))
noncomputable def R8c : Code := seq2 (seq2 (seq2 B8c))
theorem eB8c : B8c = .seq k8c0 (.seq k8c1 (.seq k8c2 R8c)) := by kernel_rfl
theorem fine_k8c0 : fineCode Try.prog true LV k8c0 := fineCode_askS callV extT (by kernel_rfl)
theorem fine_k8c1 : fineCode Try.prog true LV k8c1 := fineCode_askS callV extT (by kernel_rfl)
theorem fine_k8c2 : fineCode Try.prog true LV k8c2 := fineCode_askS callV extT (by kernel_rfl)

section
variable {S : TS} {v : World} {a : Act} {n cap : Nat} {p : Option Addr} {m : Int}
set_option maxHeartbeats 2000000 in
set_option maxRecDepth 100000 in
theorem k8c0_wp (hA : Fl 28 [(0, Pt S.wb 0), (1, I m), (2, .slice p n cap)] a) : k8c0.wp Try.prog (fun e a w' => e = .normal ∧ Fl 28 [(0, Pt S.wb 0), (1, I m), (2, .slice p n cap), (6, .slice none 0 0), (7, I 0)] a ∧ w'.heap = v.heap ∧ w'.os = v.os ∧ w'.output = v.output) a v := by
  obtain ⟨hsz, hd, hpp⟩ := hA
  obtain ⟨u, rfl, hg⟩ := litN hsz hd
  have u0 := (hg 0).symm.trans (hpp (0, Pt S.wb 0) (by simp))
  have u1 := (hg 1).symm.trans (hpp (1, I m) (by simp))
  have u2 := (hg 2).symm.trans (hpp (2, .slice p n cap) (by simp))
  clear hg hpp hsz hd
  unfold k8c0 B8c Try.f8 seq1
  simp only [Option.getD_some, lits, Nat.reduceAdd, u0, u1, u2]
  clear u0 u1 u2
  go_wp2_with fail
  first
    | exact ⟨rfl, ⟨rfl, rfl, by
        intro p hp
        simp only [List.mem_cons, List.not_mem_nil, or_false] at hp
        rcases hp with rfl | rfl | rfl | rfl | rfl <;> rfl⟩, rfl, rfl, rfl⟩
    | exact ⟨⟨rfl, rfl, by
        intro p hp
        simp only [List.mem_cons, List.not_mem_nil, or_false] at hp
        rcases hp with rfl | rfl | rfl | rfl | rfl <;> rfl⟩, rfl, rfl, rfl⟩
    | exact ⟨rfl, rfl, by
        intro p hp
        simp only [List.mem_cons, List.not_mem_nil, or_false] at hp
        rcases hp with rfl | rfl | rfl | rfl | rfl <;> rfl⟩

set_option maxHeartbeats 2000000 in
set_option maxRecDepth 100000 in
theorem k8c1_yes (h : Rep zn S v) (pc : Nat → Option Addr) (ln cp : Nat → Nat) (hs : ∀ k, k < n → ∃ sb so, p = some ⟨sb, so, none⟩ ∧ v.cell? ⟨sb, so + k, none⟩ = some (.slice (pc k) (ln k) (cp k))) (hln : ∀ k, k < n → ln k ≤ 64) (hn : 0 < n ∧ n ≤ 8) (hr : S.ran = false) (hA : Fl 28 [(0, Pt S.wb 0), (1, I m), (2, .slice p n cap), (6, .slice none 0 0), (7, I 0)] a) :
    k8c1.wp Try.prog (fun e a w' => e = .normal ∧ Fl 28 [(0, Pt S.wb 0), (1, I m), (2, .slice p n cap), (6, .slice none 0 0), (7, I 0)] a ∧ w'.heap = v.heap ∧ w'.os = v.os ∧ w'.output = v.output) a v := by
  have h19 := (body19 h p n cap (by omega) pc ln cp hs).calls Try.func14 rfl
  have he : checkE n S.ran = 0 := by unfold checkE; rw [if_neg (by rw [hr]; rintro (h | h | h) <;> first | omega | cases h)]
  have H19 : Hid (Calls Try.prog 14 #[Pt S.wb 0, .slice p n cap] v (fun e w' => e = .returned (I 0) ∧ w' = v)) := ⟨h19.mono (by
    rintro e w' ⟨r, rfl, rfl, ⟨⟨k, hk, h1⟩, _⟩ | ⟨_, rfl⟩⟩
    · exact absurd (hln k hk) (by omega)
    · rw [he]; exact ⟨rfl, rfl⟩)⟩
  clear h19 h hs hln hn hr he
  obtain ⟨hsz, hd, hpp⟩ := hA
  obtain ⟨u, rfl, hg⟩ := litN hsz hd
  have u0 := (hg 0).symm.trans (hpp (0, Pt S.wb 0) (by simp))
  have u1 := (hg 1).symm.trans (hpp (1, I m) (by simp))
  have u2 := (hg 2).symm.trans (hpp (2, .slice p n cap) (by simp))
  have u6 := (hg 6).symm.trans (hpp (6, .slice none 0 0) (by simp))
  have u7 := (hg 7).symm.trans (hpp (7, I 0) (by simp))
  clear hg hpp hsz hd
  unfold k8c1 B8c Try.f8 seq1 seq2
  simp only [Option.getD_some, lits, Nat.reduceAdd, u0, u1, u2, u6, u7]
  clear u0 u1 u2 u6 u7
  go_wp2_with (first
    | (go_at_call 14; refine H19.out.mono ?_; rintro e w1 ⟨rfl, rfl⟩))
  first
    | exact ⟨rfl, ⟨rfl, rfl, by
        intro p hp
        simp only [List.mem_cons, List.not_mem_nil, or_false] at hp
        rcases hp with rfl | rfl | rfl | rfl | rfl <;> rfl⟩, rfl, rfl, rfl⟩
    | exact ⟨⟨rfl, rfl, by
        intro p hp
        simp only [List.mem_cons, List.not_mem_nil, or_false] at hp
        rcases hp with rfl | rfl | rfl | rfl | rfl <;> rfl⟩, rfl, rfl, rfl⟩
    | exact ⟨rfl, rfl, by
        intro p hp
        simp only [List.mem_cons, List.not_mem_nil, or_false] at hp
        rcases hp with rfl | rfl | rfl | rfl | rfl <;> rfl⟩

set_option maxHeartbeats 2000000 in
set_option maxRecDepth 100000 in
theorem k8c2_yes (h1 : 1 ≤ m) (h2 : m ≤ 100) (hA : Fl 28 [(0, Pt S.wb 0), (1, I m), (2, .slice p n cap), (6, .slice none 0 0), (7, I 0)] a) : k8c2.wp Try.prog (fun e a w' => e = .normal ∧ Fl 28 [(0, Pt S.wb 0), (1, I m), (2, .slice p n cap), (6, .slice none 0 0), (7, I 0)] a ∧ w'.heap = v.heap ∧ w'.os = v.os ∧ w'.output = v.output) a v := by
  have g1 : decide (m < 1) = false := decide_eq_false (by omega)
  have g2 : decide (m > 100) = false := decide_eq_false (by omega)
  have g3 : ¬ m < 1 := by omega
  have g4 : ¬ m > 100 := by omega
  obtain ⟨hsz, hd, hpp⟩ := hA
  obtain ⟨u, rfl, hg⟩ := litN hsz hd
  have u0 := (hg 0).symm.trans (hpp (0, Pt S.wb 0) (by simp))
  have u1 := (hg 1).symm.trans (hpp (1, I m) (by simp))
  have u2 := (hg 2).symm.trans (hpp (2, .slice p n cap) (by simp))
  have u6 := (hg 6).symm.trans (hpp (6, .slice none 0 0) (by simp))
  have u7 := (hg 7).symm.trans (hpp (7, I 0) (by simp))
  clear hg hpp hsz hd
  unfold k8c2 B8c Try.f8 seq1 seq2
  simp only [Option.getD_some, lits, Nat.reduceAdd, u0, u1, u2, u6, u7]
  clear u0 u1 u2 u6 u7
  go_wp2_with fail
  first
    | exact ⟨rfl, ⟨rfl, rfl, by
        intro p hp
        simp only [List.mem_cons, List.not_mem_nil, or_false] at hp
        rcases hp with rfl | rfl | rfl | rfl | rfl <;> rfl⟩, rfl, rfl, rfl⟩
    | exact ⟨⟨rfl, rfl, by
        intro p hp
        simp only [List.mem_cons, List.not_mem_nil, or_false] at hp
        rcases hp with rfl | rfl | rfl | rfl | rfl <;> rfl⟩, rfl, rfl, rfl⟩
    | exact ⟨rfl, rfl, by
        intro p hp
        simp only [List.mem_cons, List.not_mem_nil, or_false] at hp
        rcases hp with rfl | rfl | rfl | rfl | rfl <;> rfl⟩

end

/-- What a chain's threads read. -/
def QH (s : Nat) (caps : Array Value) (pk : Nat → Option Obj) (K : List (Nat × Int)) : Prop :=
  0 < s ∧ s ≤ 100 ∧ ∃ pk0 N, caps = #[Pt (N + 1) 0] ∧ pk = pkN pk0 s N K ∧ K.length = s ∧ K.map (·.2) = List.replicate s 0
theorem mineH (s : Nat) (caps : Array Value) (pk : Nat → Option Obj) (K : List (Nat × Int)) (h : QH s caps pk K) (X : Fix (mcH s)) (hf : X.fid = 16) (hc : X.caps = caps) (hp : X.pk = pk) (hk : X.kb = K.map (·.1)) : (pkgH s).Mine X := by
  obtain ⟨h0, h1, pk0, N, rfl, rfl, hK, _⟩ := h
  refine ⟨N + 1, N, hc, fun v hv => ?_⟩
  rw [hp] at hv
  have e0 := hv (N + 1) (.cells #[.slice (some ⟨N, 0, none⟩) s s] 62 (0, 0)) (by unfold pkN; rw [padd_ne (by omega), padd_at])
  have e1 := hv N (objP s K) (by unfold pkN; rw [padd_at])
  refine ⟨cell_of e0 rfl, fun j hj => ?_, h0, h1⟩
  obtain ⟨c, hcj⟩ : ∃ c, K[j]? = some c := ⟨_, List.getElem?_eq_getElem (by omega)⟩
  refine ⟨c.1, by rw [hk, List.getElem?_map, hcj]; rfl, cell_of e1 ?_⟩
  unfold rowP
  simp [hj, hcj]
theorem kokH (s : Nat) (caps : Array Value) (pk : Nat → Option Obj) (K : List (Nat × Int)) (h : QH s caps pk K) : KOk (mcH s) K := by
  obtain ⟨h0, h1, pk0, N, rfl, rfl, hK, hv⟩ := h
  intro j p hp _
  have : (K.map (·.2))[j]? = some p.2 := by rw [List.getElem?_map, hp]; rfl
  rw [hv, List.getElem?_replicate] at this
  split at this
  · have := Option.some.inj this
    omega
  · cases this

set_option maxHeartbeats 2000000 in
set_option maxRecDepth 100000 in
theorem cplay_in {Ch : Nat → Prop} {Stop : Goroutine → World → Prop} {main : Bool} {S : TS} {v w : World} (s : Nat) (h0 : 0 < s) (h1 : s ≤ 100) {pk0 : Nat → Option Obj} (hO : Objs v S [] pk0 S [] v) (hlt : ∀ b, pk0 b ≠ none → b < v.heap.size) (p : Option Addr) (n cap : Nat) (hn8 : 0 < n ∧ n ≤ 8) (hran : S.ran = false) (pc : Nat → Option Addr) (ln cp : Nat → Nat) (hs : ∀ k, k < n → ∃ sb so, p = some ⟨sb, so, none⟩ ∧ v.cell? ⟨sb, so + k, none⟩ = some (.slice (pc k) (ln k) (cp k))) (hln : ∀ k, k < n → ln k ≤ 64)
    (cs : List Frame) {bc : Frame} {ac : Act} {ops : Array Oper} {q : Nat} {rest : List Nat} {oc : Oper} {k : List Item} (hoc : ops[q]? = some oc)
    (hvw : Rel zn v w) (hn : NoRow Ch v)
    (hk : ∀ v' w' (bd : Frame) (ad : Act) (od : Array Oper) (qd : Nat) (rd : List Nat) (oe : Oper) (kd : List Item) (caps : Array Value) (pk : Nat → Option Obj) (S1 : TS) (K : List (Nat × Int)), Rel zn v' w' → NoRow Ch v' → Objs v S (List.replicate s 0) pk S1 K v' → QH s caps pk K → od[qd]? = some oe →
      (∀ (Ch : Nat → Prop) (Stop : Goroutine → World → Prop) (w : World) (x : Value), (∀ d, GoesI Try.prog main (DT (ScZ zn) Ch) Stop (G (bc.at (ac.put oc.dst (.tuple #[x, I 0])) (.inRegion ops rest :: k)) cs) (w.at d)) → GoesI Try.prog main (DT (ScZ zn) Ch) Stop (G (bd.at (ad.put oe.dst x) (.inRegion od rd :: kd)) (bc.at ac (.inRegion ops (q :: rest) :: k) :: cs)) w) →
      GoesI Try.prog main (DT (ScZ zn) Ch) Stop (G ((base 15).at { tmps := #[Pt S.wb 0, .slice p n cap, .func (.func 16) ((mcH s).bn caps) ((mcH s).fr caps)] ++ Array.replicate 36 undef, defers := [] } [.code B20]) (bd.at ad (.inRegion od (qd :: rd) :: kd) :: bc.at ac (.inRegion ops (q :: rest) :: k) :: cs)) w') :
    GoesI Try.prog main (DT (ScZ zn) Ch) Stop (G ((base 8).at { tmps := #[Pt S.wb 0, I s, .slice p n cap] ++ Array.replicate 25 undef, defers := [] } [.code B8c]) (bc.at ac (.inRegion ops (q :: rest) :: k) :: cs)) w := by
  rw [eB8c]
  have hA0 : Fl 28 [(0, Pt S.wb 0), (1, I s), (2, .slice p n cap)] { tmps := #[Pt S.wb 0, I s, .slice p n cap] ++ Array.replicate 25 undef, defers := [] } := by
    simp only [Array.replicate_succ, Array.replicate_zero, List.push_toArray, List.append_toArray, List.nil_append, List.cons_append]
    exact ⟨rfl, rfl, by
      intro p hp
      simp only [List.mem_cons, List.not_mem_nil, or_false] at hp
      rcases hp with rfl | rfl | rfl <;> rfl⟩
  refine goesI_seq (dt_idle _ _) ?_
  refine goesI_plain (z := zn) (wr := true) (L := LV) (I := NoRow Ch) hE fineV noRow_keeps (fun v v' w w' es hi hr ho he => dt_of_z v v' w w' es hi hr ho he) hvw fine_k8c0 hA0.2.1 (by simp [base]) hn (Q := fun a w' => Fl 28 [(0, Pt S.wb 0), (1, I s), (2, .slice p n cap), (6, .slice none 0 0), (7, I 0)] a ∧ w'.heap = v.heap ∧ w'.os = v.os ∧ w'.output = v.output) (fun τ => k8c0_wp (v := onTape v τ 0) hA0) ?_
  rintro a0 v0 w0 ⟨hB0, e0, o0, u0⟩ hr0 hn0 -
  have m0 : Mem zn S [] v0 := (hO.cel.mem.grows (v' := v0) ⟨by rw [e0]; exact Nat.le_refl _, fun b _ => by rw [e0], o0, u0⟩).mem
  have hs0 : ∀ τ, ∀ k, k < n → ∃ sb so, p = some ⟨sb, so, none⟩ ∧ (onTape v0 τ 0).cell? ⟨sb, so + k, none⟩ = some (.slice (pc k) (ln k) (cp k)) := fun τ k hk => by
    obtain ⟨sb, so, h1, h2⟩ := hs k hk
    exact ⟨sb, so, h1, by rw [World.cell?_of_block (w := v) (w' := onTape v0 τ 0) (by show v0.heap[_]? = _; rw [e0])]; exact h2⟩
  refine goesI_seq (dt_idle _ _) ?_
  refine goesI_plain (z := zn) (wr := true) (L := LV) (I := NoRow Ch) hE fineV noRow_keeps (fun v v' w w' es hi hr ho he => dt_of_z v v' w w' es hi hr ho he) hr0 fine_k8c1 hB0.2.1 (by simp [base]) hn0 (Q := fun a w' => Fl 28 [(0, Pt S.wb 0), (1, I s), (2, .slice p n cap), (6, .slice none 0 0), (7, I 0)] a ∧ w'.heap = v0.heap ∧ w'.os = v0.os ∧ w'.output = v0.output) (fun τ => k8c1_yes (v := onTape v0 τ 0) (m0.grows (v' := onTape v0 τ 0) ⟨Nat.le_refl _, fun _ _ => rfl, rfl, rfl⟩).mem.rep pc ln cp (hs0 τ) hln hn8 hran hB0) ?_
  rintro a1 v1 w1 ⟨hB1, e1, o1, u1⟩ hr1 hn1 -
  refine goesI_seq (dt_idle _ _) ?_
  refine goesI_plain (z := zn) (wr := true) (L := LV) (I := NoRow Ch) hE fineV noRow_keeps (fun v v' w w' es hi hr ho he => dt_of_z v v' w w' es hi hr ho he) hr1 fine_k8c2 hB1.2.1 (by simp [base]) hn1 (Q := fun a w' => Fl 28 [(0, Pt S.wb 0), (1, I s), (2, .slice p n cap), (6, .slice none 0 0), (7, I 0)] a ∧ w'.heap = v1.heap ∧ w'.os = v1.os ∧ w'.output = v1.output) (fun τ => k8c2_yes (v := onTape v1 τ 0) (by omega) (by omega) hB1) ?_
  rintro a2 v2 w2 ⟨hB2, e2, o2, u2⟩ hr2 hn2 -
  have e20 : v2.heap = v.heap := e2.trans (e1.trans e0)
  have O2 : Objs v2 S [] pk0 S [] v2 := ⟨Cel.refl (hO.cel.mem.grows (v' := v2) ⟨by rw [e20]; exact Nat.le_refl _, fun b _ => by rw [e20], o2.trans (o1.trans o0), u2.trans (u1.trans u0)⟩).mem, rfl, hO.st, fun b o hb => by rw [e20]; exact hO.has b o hb, fun b hb => by have := hO.new b hb; rw [e20]; exact this, hO.row⟩
  have hlt2 : ∀ b, pk0 b ≠ none → b < v2.heap.size := fun b hb => by rw [e20]; exact hlt b hb
  obtain ⟨hsz, hd, hpp⟩ := hB2
  obtain ⟨u, rfl, hg⟩ := litN hsz hd
  have u0 := (hg 0).symm.trans (hpp (0, Pt S.wb 0) (by simp))
  have u1 := (hg 1).symm.trans (hpp (1, I s) (by simp))
  have u2 := (hg 2).symm.trans (hpp (2, .slice p n cap) (by simp))
  have u6 := (hg 6).symm.trans (hpp (6, .slice none 0 0) (by simp))
  have u7 := (hg 7).symm.trans (hpp (7, I 0) (by simp))
  clear hg hpp hsz hd
  unfold R8c B8c Try.f8 seq2
  simp only [Option.getD_some, lits, Nat.reduceAdd, u0, u1, u2, u6, u7]
  clear u0 u1 u2 u6 u7
  refine goesI_seq (dt_idle _ _) ?_
  refine goesI_region (dt_idle _ _) ?_
  simp only [List.size_toArray, List.length_cons, List.length_nil, Nat.reduceAdd, Nat.zero_add, List.range, List.range.loop]
  iterate 4
    (refine goesI_oper rfl rfl (by decide) (fun d K hK => ?_)
     go_simp
     refine hK _ _ ⟨dt_reads (fun e he => ?_), GoesI.at ?_ d⟩
     · have hm := mem_listed he
       simp [go_sem, *] at hm
       try exact ⟨_, _, hm⟩
     clear hK K)
  refine goesI_call (L := LV) (f := 12) (fn := Try.f12) (args := #[Pt S.wb 0, I s]) hE fineV rfl rfl (by decide) rfl (by simp [Act.eval]) Try.func12 (by kernel_rfl) rfl (fineFn_body fineV (by simp [LV, plainV]) Try.func12 rfl) (fun tmps => ⟨_, fun w => results_tmp rfl _ _ _, fun w => by simp [results, go_sem, Try.f12]⟩) hr2 hn2
    (R := fun r v4 => r = Pt (v2.heap.size + 1) 0 ∧ ∃ S1 K, K.length = s ∧ Objs v2 S (List.replicate s 0) (pkN pk0 s v2.heap.size K) S1 K v4) (fun τ => ?_) (fun r v4 w4 hR hr4 hn4 => ?_)
  · have Oτ : Objs (onTape v2 τ 0) S [] pk0 S [] (onTape v2 τ 0) := ⟨Cel.refl (O2.cel.mem.grows (v' := onTape v2 τ 0) ⟨Nat.le_refl _, fun _ _ => rfl, rfl, rfl⟩).mem, rfl, O2.st, O2.has, O2.new, O2.row⟩
    refine wp_mono (body12 Oτ hlt2 s h0 h1 _ rfl) (bp_mono fun r u hq => ⟨hq.1, ?_⟩)
    obtain ⟨_, S1, K, h2, o⟩ := hq
    exact ⟨S1, K, h2, ⟨o.cel.from rfl rfl rfl, o.vals, o.st, o.has, o.new, o.row⟩⟩
  obtain ⟨rfl, S1, K, hKl, ob4⟩ := hR
  have hset : Objs v S (List.replicate s 0) (pkN pk0 s v2.heap.size K) S1 K v4 :=
    ⟨ob4.cel.from e20 (o2.trans (o1.trans o0)) (u2.trans (u1.trans u0)), ob4.vals, ob4.st, ob4.has, fun b hb => by rw [← e20]; exact ob4.new b hb, ob4.row⟩
  have hql : QH s #[Pt (v2.heap.size + 1) 0] (pkN pk0 s v2.heap.size K) K := ⟨h0, h1, pk0, v2.heap.size, rfl, rfl, hKl, ob4.vals⟩
  clear ob4 hr0 hr1 hr2 hn0 hn1 hn2 e0 e1 e2 e20 o0 o1 o2 u0 u1 u2 hvw hn hs hs0 hln m0 O2 hlt2 hO hlt
  walk_nrm
  iterate 1
    (refine goesI_oper rfl rfl (by decide) (fun d K hK => ?_)
     go_simp
     refine hK _ _ ⟨dt_reads (fun e he => ?_), GoesI.at ?_ d⟩
     · have hm := mem_listed he
       simp [go_sem, *] at hm
       try exact ⟨_, _, hm⟩
     clear hK K)
  refine goesI_into (f := 15) (fn := Try.f15) (args := #[Pt S.wb 0, .slice p n cap, .func (.func 16) #[Pt (v2.heap.size + 1) 0] #[]]) (dt_idle _ _) rfl rfl (by decide) rfl (by simp [Act.eval]) Try.func15 (by decide) rfl ?_
  refine hk v4 w4 _ _ _ _ _ _ _ _ _ _ _ hr4 hn4 hset hql rfl (fun Ch Stop w x hg => ?_)
  clear hk hset hr4 hn4 hql
  iterate 2
    (refine goesI_oper rfl rfl (by decide) (fun d K hK => ?_)
     go_simp
     refine hK _ _ ⟨dt_reads (fun e he => ?_), GoesI.at ?_ d⟩
     · have hm := mem_listed he
       simp [go_sem, *] at hm
       try exact ⟨_, _, hm⟩
     clear hK K)
  refine goesI_regionEnd (dt_idle _ _) ?_
  refine GoesI.ctl rfl (fun _ => stepG_ret') (dt_idle _ _) ?_
  refine goesI_leave (b := base 8) (fn := Try.f8) (v := .tuple #[x, I 0]) rfl rfl Try.func8 (fun w => ?_) (fun w => by simp [results, go_sem, Try.f8]) hoc (dt_idle _ _) ?_
  · rw [results_tmp2 (t := 6) (u := 7) rfl]
    simp
  · have := hg w.drawn
    exact this

section
variable {S : TS} {n sb so cap : Nat} {pc : Nat → Option Addr} {ln cp rb : Nat → Nat} {cl : Nat → List Cl}
/-- chain.Play, whole, by the machine. -/
theorem cplay_all (s : Nat) (h0 : 0 < s) (h1 : s ≤ 100) {cs : List Frame} {bc : Frame} {ac : Act} {ops : Array Oper} {q0 : Nat} {rest : List Nat} {oc : Oper} {k0 : List Item} (hoc : ops[q0]? = some oc) {w : World} {T : Trace} {gs : Array Goroutine} {q : Nat → Nat} (sl : Option (Nat × Nat)) (NT : Nat) (A : Alone gs w T q)
    (hg : gs[0]? = some (G ((base 8).at { tmps := #[Pt S.wb 0, I s, .slice (some ⟨sb, so, none⟩) n cap] ++ Array.replicate 25 undef, defers := [] } [.code B8c]) (bc.at ac (.inRegion ops (q0 :: rest) :: k0) :: cs)))
    (hm : Mem zn S [] w) (hthr : S.thr = []) (hran : S.ran = false) (hch : S.chg = []) (hbk : Open w S.bk) (t : Asked w S n sb so pc ln cp rb cl) (hn8 : 0 < n ∧ n ≤ 8)
    (hlen : ∀ caps pk N K, S.n + 2 * lens (scrs (mcH s) 16 caps pk N n K pc ln cp rb cl) ≤ 1000000) (hsl : S.sched.length ≤ 4611686018427387904) (hsc : ∀ x ∈ S.sched, -9223372036854775808 ≤ x ∧ x < 9223372036854775808) (l0 : Nat → Ph)
    (hturn : ∀ (caps : Array Value) (pk : Nat → Option Obj) (N : Nat) (cv : Value) (K : List (Nat × Int)), K.map (·.2) = List.replicate s 0 → ∀ S1 l1, Hires (mcH s) 0 (scrs (mcH s) 16 caps pk N n K pc ln cp rb cl) (nv { cellsS S cv (List.replicate s (0 : Int)).length with ran := true }) l0 S1 l1 → ∃ m p', m ≤ NT ∧ Turns (mcH s) m ⟨S1, K, l1⟩ p' ∧ p'.S.n * 40 ≤ 140737488355328) :
    ∃ (N' : Nat) (gs' : Array Goroutine) (w' : World) (sl' : Option (Nat × Nat)) (T' : Trace) (q' : Nat → Nat) (caps : Array Value) (pk : Nat → Option Obj) (N : Nat) (cv : Value) (K : List (Nat × Int)) (S' : TS) (S1 : TS) (l1 : Nat → Ph) (m : Nat) (p' : PSt),
      runNT Try.prog N' (crowd gs w sl) T = (.next (crowd gs' w' sl'), T') ∧ gs'.size = gs.size + n ∧ gs'[0]? = some (G (bc.at (ac.put oc.dst (.tuple #[.slice (some ⟨N + 1, 0, none⟩) n n, I 0])) (.inRegion ops rest :: k0)) cs) ∧
      Alone gs' w' T' q' ∧ K.map (·.2) = List.replicate s 0 ∧ nv S' = p'.S ∧ Hires (mcH s) 0 (scrs (mcH s) 16 caps pk N n K pc ln cp rb cl) (nv { cellsS S cv (List.replicate s (0 : Int)).length with ran := true }) l0 S1 l1 ∧ Turns (mcH s) m ⟨S1, K, l1⟩ p' ∧ GOut w S n ln N S' p'.K p'.l w' := by
  refine gplay_all (xs := List.replicate s 0) (cap := cap) (q0 := q0) (pkgH s) (mineH s) (kokH s) sl NT A hg ?_ hm hthr hran hbk t hn8 hlen hsl hsc l0 hturn
  exact cplay_in s h0 h1 (Objs.startG (pk := fun _ => none) hm hch (fun _ _ h => by cases h) (fun _ h => absurd rfl h) (fun _ _ h => by cases h)) (fun b hb => absurd rfl hb) (some ⟨sb, so, none⟩) n cap hn8 hran pc ln cp (fun k hk => ⟨sb, so, rfl, t.row k hk⟩) (fun k hk => (t.len k hk).2) cs hoc (Rel.refl w) (fun c hc => hc.elim)
    (fun v' w' bd ad od qd rd oe kd caps pk S1 K hr hn ho hq hoe hback => GoesI.stop fun d => ⟨bd, ad, od, qd, rd, oe, kd, caps, pk, S1, K, ho.same hr.eq hr.os hr.output, hq, hoe, hback, rfl⟩)
end
end Go.Proofs.Ytmmfjanbjheekaa.Gen

/- Turns, reckoned: so many turns as a Bool tells. -/
set_option linter.unusedSimpArgs false
set_option linter.unusedVariables false
namespace Go.Proofs.Ytmmfjanbjheekaa.Gen
open Go Go.Lift Go.Conc Go.RowKit
variable {mc : Mc}

theorem turns_det : ∀ {m m' : Nat} {p p1 p2 : PSt}, Turns mc m p p1 → Turns mc m' p p2 → p1 = p2
  | _, _, _, _, _, .stop h, .stop h' => rfl
  | _, _, _, _, _, .stop h, .step h' _ => by rw [h] at h'; cases h'
  | _, _, _, _, _, .step h _, .stop h' => by rw [h] at h'; cases h'
  | _, _, _, _, _, .step h t, .step h' t' => by
    rw [h] at h'
    cases h'
    exact turns_det t t'
def pt (mc : Mc) (p : PSt) : PSt := (pturn mc p).getD p
def pts (mc : Mc) : Nat → PSt → PSt
  | 0, p => p
  | n + 1, p => pts mc n (pt mc p)
def runs (mc : Mc) : Nat → PSt → Bool
  | 0, p => (pturn mc p).isNone
  | n + 1, p => (pturn mc p).isSome && runs mc n (pt mc p)
theorem turns_of : ∀ (n : Nat) (p : PSt), runs mc n p = true → Turns mc n p (pts mc n p)
  | 0, p, h => by
    refine .stop ?_
    cases hp : pturn mc p with
    | none => rfl
    | some x => unfold runs at h; rw [hp] at h; cases h
  | n + 1, p, h => by
    unfold runs at h
    rw [Bool.and_eq_true] at h
    refine .step ?_ (turns_of n (pt mc p) h.2)
    unfold pt
    cases hp : pturn mc p with
    | none => rw [hp] at h; cases h.1
    | some x => rfl
end Go.Proofs.Ytmmfjanbjheekaa.Gen

/- The laws' first play of a chain (awake, 5): what its turns come to. (Made by wip/tools/mkch.py.) -/
set_option linter.unusedSimpArgs false
set_option linter.unusedVariables false
namespace Go.Proofs.Ytmmfjanbjheekaa.Gen
open Go Go.Lift Go.Conc Go.RowKit
open Go.ConcN (upd upd_same upd_ne)

def clsH : List Cl := [⟨1, 0, 1, 0⟩, ⟨1, 1, 2, 0⟩, ⟨1, 2, 0, 0⟩]
/-- The world ahead of the hiring. -/
def awSH (wb bk base : Nat) (sc cv : Value) (k : Nat) : TS := nv { cellsS (newS wb bk base sc []) cv k with ran := true }
def awPH (wb bk base : Nat) (sc cv : Value) (tv0 : Value) (tb0 gc0 : Nat) (c0 c1 c2 : Nat) (l0 : Nat → Ph) : PSt :=
  ⟨(flow 0 (mcH 3) clsH 0 false [(0, 0), (0, 0), (0, 0)] (hiredS (awSH wb bk base sc cv 3) tv0 tb0 gc0)).1, [(c0, 0), (c1, 0), (c2, 0)], upd l0 0 (flow 0 (mcH 3) clsH 0 false [(0, 0), (0, 0), (0, 0)] (hiredS (awSH wb bk base sc cv 3) tv0 tb0 gc0)).2⟩
section
variable (wb bk base : Nat) (sc cv : Value) (tv0 : Value) (tb0 gc0 : Nat) (c0 c1 c2 : Nat) (l0 : Nat → Ph)
set_option maxRecDepth 100000
theorem awh_runs : runs (mcH 3) 7 (awPH wb bk base sc cv tv0 tb0 gc0 c0 c1 c2 l0) = true := by kernel_rfl
theorem awh_n : (pts (mcH 3) 7 (awPH wb bk base sc cv tv0 tb0 gc0 c0 c1 c2 l0)).S.n = 13 := by kernel_rfl
theorem awh_ans : ((pts (mcH 3) 7 (awPH wb bk base sc cv tv0 tb0 gc0 c0 c1 c2 l0)).l 0).ans = [(0, 0), (0, 0), (0, 1)] := by kernel_rfl
end
end Go.Proofs.Ytmmfjanbjheekaa.Gen

/- A thread of no world (turn.Free), cells of no world, and what such a thread does to them: main alone. -/
set_option linter.unusedSimpArgs false
set_option linter.unusedVariables false
namespace Go.Proofs.Ytmmfjanbjheekaa.Gen
open Go Go.Lift Go.Conc Go.RowKit


/-- A free thread, and a cell of no world. -/
structure Fm (tb cb : Nat) (x : Int) (v : World) : Prop where
  thr : v.cell? ⟨tb, 0, none⟩ = some (.pointer none)
  ne : tb ≠ cb
  cel : v.heap[cb]? = some (.cells #[I 0, I x] 78 (0, 0))
structure Fto (tb cb : Nat) (x : Int) (v v' : World) : Prop where
  fm : Fm tb cb x v'
  old : ∀ b, b ≠ cb → v'.heap[b]? = v.heap[b]?
  size : v'.heap.size = v.heap.size
  os : v'.os = v.os
  out : v'.output = v.output
section
variable {tb cb : Nat} {x y : Int} {v v' v'' : World}
theorem Fm.cells (h : Fm tb cb x v) : v.cell? ⟨tb, 0, none⟩ = some (.pointer none) ∧ v.cell? ⟨cb, 0, none⟩ = some (I 0) ∧ v.cell? ⟨cb, 1, none⟩ = some (I x) ∧ v.frozen? ⟨cb, 1, none⟩ = false := by
  refine ⟨h.thr, ?_, ?_, ?_⟩
  · unfold World.cell?; rw [show v.heap[cb]? = _ from h.cel]; rfl
  · unfold World.cell?; rw [show v.heap[cb]? = _ from h.cel]; rfl
  · unfold World.frozen?; rw [show v.heap[cb]? = _ from h.cel]; rfl
theorem Fm.same (h : Fm tb cb x v) (e : v'.heap = v.heap) : Fm tb cb x v' := ⟨by rw [World.cell?_of_block (w := v) (by rw [e])]; exact h.thr, h.ne, by rw [e]; exact h.cel⟩
theorem Fto.refl (h : Fm tb cb x v) : Fto tb cb x v v := ⟨h, fun _ _ => rfl, rfl, rfl, rfl⟩
theorem Fto.same (h : Fto tb cb x v v') (e1 : v''.heap = v'.heap) (e2 : v''.os = v'.os) (e3 : v''.output = v'.output) : Fto tb cb x v v'' :=
  ⟨h.fm.same e1, fun b hb => by rw [e1]; exact h.old b hb, by rw [e1]; exact h.size, e2.trans h.os, e3.trans h.out⟩
theorem Fto.set (h : Fm tb cb x v) (y : Int) : Fto tb cb y v (v.setCell ⟨cb, 1, none⟩ (I y)) :=
  ⟨⟨by rw [World.cell?_of_block (Below.heap_setCell _ _ _ _ h.ne)]; exact h.thr, h.ne, heap_setCell_same h.cel _⟩, fun b hb => Below.heap_setCell _ _ _ _ hb, by simp [World.setCell], rfl, rfl⟩
theorem Fto.base (h : Fto tb cb x v v') (e1 : v.heap = v''.heap) (e2 : v.os = v''.os) (e3 : v.output = v''.output) : Fto tb cb x v'' v' :=
  ⟨h.fm, fun b hb => by rw [← e1]; exact h.old b hb, by rw [← e1]; exact h.size, h.os.trans e2, h.out.trans e3⟩

theorem body27f (tb : Nat) (b a : Int) (v : World) (h : v.cell? ⟨tb, 0, none⟩ = some (.pointer none)) : Body Try.f29 #[Pt tb 0, I b, I a] v (fun r v' => r = .tuple #[] ∧ v' = v) := by
  intro code hb
  obtain rfl := Option.some.inj hb
  clear hb
  simp only [Try.ntmps29, List.size_toArray, List.length_cons, List.length_nil, Nat.reduceAdd, Nat.reduceSub, Array.replicate_succ, Array.replicate_zero, List.push_toArray, List.append_toArray, List.nil_append, List.cons_append]
  go_wp2_with fail
  exact ⟨rfl, _, results_none rfl _ _ _, _, rfl, rfl, rfl⟩
end

set_option maxHeartbeats 1000000 in
set_option maxRecDepth 100000 in
theorem free26 {Ch : Nat → Prop} {Stop : Goroutine → World → Prop} {main : Bool} {v w : World} (tb : Nat) (c o : Int) (ht : v.cell? ⟨tb, 0, none⟩ = some (.pointer none)) (cs : List Frame) {bc : Frame} {ac : Act} {ops : Array Oper} {q : Nat} {rest : List Nat} {oc : Oper} {k : List Item} (hoc : ops[q]? = some oc) (hvw : Rel zn v w) (hn : NoRow Ch v)
    (hk : ∀ w', Rel zn v w' → GoesI Try.prog main (DT (ScZ zn) Ch) Stop (G (bc.at (ac.put oc.dst (.tuple #[])) (.inRegion ops rest :: k)) cs) w') (code : Code) (hc : Try.f28.body = some code) :
    GoesI Try.prog main (DT (ScZ zn) Ch) Stop (G ((base 28).at { tmps := #[Pt tb 0, I c, I o] ++ Array.replicate 12 undef, defers := [] } [.code code]) (bc.at ac (.inRegion ops (q :: rest) :: k) :: cs)) w := by
  obtain rfl := Option.some.inj hc
  clear hc
  have e0 : w.cell? ⟨tb, 0, none⟩ = some (.pointer none) := by rw [hvw.cell?]; exact ht
  simp only [Array.replicate_succ, Array.replicate_zero, List.push_toArray, List.append_toArray, List.nil_append, List.cons_append]
  refine goesI_seq (dt_idle _ _) ?_
  refine goesI_region (dt_idle _ _) ?_
  simp only [List.size_toArray, List.length_cons, List.length_nil, Nat.reduceAdd, Nat.zero_add, List.range, List.range.loop]
  iterate 4
    (refine goesI_oper rfl rfl (by decide) (fun d K hK => ?_)
     go_simp
     refine hK _ _ ⟨dt_reads (fun e he => ?_), GoesI.at ?_ d⟩
     · have hm := mem_listed he
       simp [go_sem, *] at hm
       try exact ⟨_, _, hm⟩
     clear hK K)
  refine goesI_opZ (L := LT) rfl rfl (by decide) (fineOp_ask callT extT (by kernel_rfl)) hvw hn (v' := v) (x := .bool false) (by go_simp) rfl (fun w2 hr2 hn2 => ?_)
  refine goesI_regionEnd (dt_idle _ _) ?_
  refine goesI_cond (dt_idle _ _) (t := false) rfl ?_
  refine goesI_skip (dt_idle _ _) ?_
  refine goesI_end (dt_idle _ _) ?_
  exact goesI_leave (b := base 28) (fn := Try.f28) rfl rfl Try.func28 (res26 _) (ev26 _) hoc (dt_idle _ _) (hk w2 hr2)
set_option maxHeartbeats 1000000 in
set_option maxRecDepth 100000 in
theorem tailF17 {v : World} {tb cb : Nat} {x : Int} (hm : Fm tb cb x v) (a6 a7 a8 a9 a10 a11 : Value) :
    rest17.wp Try.prog (bodyPost Try.prog Try.f30 (fun e w' => ∃ r, e = .returned r ∧ (r = (effLoad x).2.2 ∧ Fto tb cb (effLoad x).2.1 v w')))
      { tmps := #[Pt cb 0, Pt tb 0, undef, undef, I 0, undef, a6, a7, a8, a9, a10, a11, undef, undef, undef, undef, undef, undef, undef, undef, undef], defers := [] } v := by
  obtain ⟨c0, _, c1, f1⟩ := hm.cells
  have HM : Hid (Fm tb cb x v) := ⟨hm⟩
  have HT : Hid (v.cell? ⟨tb, 0, none⟩ = some (.pointer none)) := ⟨by exact c0⟩
  clear hm
  show Code.wp Try.prog (seq2 (seq2 (Try.f30.body.getD .skip))) _ _ _
  unfold Try.f30 seq2
  simp only [Option.getD_some]
  go_wp2_with (first
    | (go_at_call 42; refine ((body29 cb x _ c1).calls Try.func42 rfl).mono ?_; rintro e w1 ⟨_, rfl, rfl, rfl⟩)
    | (go_at_call 29; refine ((body27f tb x x _ HT.out).calls Try.func29 rfl).mono ?_; rintro e w2 ⟨_, rfl, rfl, rfl⟩))
  go_ret
  exact ⟨_, rfl, rfl, Fto.refl HM.out⟩

set_option maxHeartbeats 1000000 in
set_option maxRecDepth 100000 in
theorem free17 {Ch : Nat → Prop} {Stop : Goroutine → World → Prop} {main : Bool} {v w : World} {tb cb : Nat} (x : Int) (cs : List Frame) {bc : Frame} {ac : Act} {ops : Array Oper} {q : Nat} {rest : List Nat} {oc : Oper} {k : List Item} (hoc : ops[q]? = some oc)
    (hvw : Rel zn v w) (hn : NoRow Ch v) (hm : Fm tb cb x v)
    (hk : ∀ v' w', Rel zn v' w' → NoRow Ch v' → Fto tb cb (effLoad x).2.1 v v' → GoesI Try.prog main (DT (ScZ zn) Ch) Stop (G (bc.at (ac.put oc.dst (effLoad x).2.2) (.inRegion ops rest :: k)) cs) w') (code : Code) (hc : Try.f30.body = some code) :
    GoesI Try.prog main (DT (ScZ zn) Ch) Stop (G ((base 30).at { tmps := #[Pt cb 0, Pt tb 0] ++ Array.replicate 19 undef, defers := [] } [.code code]) (bc.at ac (.inRegion ops (q :: rest) :: k) :: cs)) w := by
  obtain rfl := Option.some.inj hc
  clear hc
  have e0 : w.cell? ⟨cb, 0, none⟩ = some (I 0) := by rw [hvw.cell?]; exact hm.cells.2.1
  simp only [Array.replicate_succ, Array.replicate_zero, List.push_toArray, List.append_toArray, List.nil_append, List.cons_append]
  have HM : Hid (Fm tb cb x v) := ⟨hm⟩
  clear hm
  refine goesI_seq (dt_idle _ _) ?_
  refine goesI_region (dt_idle _ _) ?_
  simp only [List.size_toArray, List.length_cons, List.length_nil, Nat.reduceAdd, Nat.zero_add, List.range, List.range.loop]
  (refine goesI_oper rfl rfl (by decide) (fun d K hK => ?_)
   go_simp
   refine hK _ _ ⟨dt_reads (fun e he => ?_), GoesI.at ?_ d⟩
   · have hm := mem_listed he
     simp [go_sem, *] at hm
   clear hK K)
  refine goesI_regionEnd (dt_idle _ _) ?_
  refine goesI_seq (dt_idle _ _) ?_
  refine goesI_region (dt_idle _ _) ?_
  simp only [List.size_toArray, List.length_cons, List.length_nil, Nat.reduceAdd, Nat.zero_add, List.range, List.range.loop]
  iterate 5
    (refine goesI_oper rfl rfl (by decide) (fun d K hK => ?_)
     go_simp
     refine hK _ _ ⟨dt_reads (fun e he => ?_), GoesI.at ?_ d⟩
     · have hm := mem_listed he
       simp [go_sem, *] at hm
       try exact ⟨_, _, hm⟩
     clear hK K)
  refine goesI_into (f := 28) (fn := Try.f28) (args := #[Pt tb 0, I 0, I 1]) (dt_idle _ _) rfl rfl (by decide) rfl (by simp [Act.eval]) Try.func28 (by decide) rfl ?_
  refine free26 tb 0 1 HM.out.cells.1 _ rfl hvw hn (fun w1 hr1 => ?_) _ rfl
  clear e0 hvw
  refine goesI_regionEnd (dt_idle _ _) ?_
  refine goesI_rest (f := 30) (fn := Try.f30) (c := rest17) hE fineT hr1 hn Try.func30 fine17 rfl hoc res17 (fun τ => ?_) (fun r v' w' hR hr' hn' => ?_) (R := fun r w' => r = (effLoad x).2.2 ∧ Fto tb cb (effLoad x).2.1 v w')
  · exact wp_mono (tailF17 (HM.out.same (v' := onTape v τ 0) rfl) _ _ _ _ _ _) (bp_mono fun r u hq => ⟨hq.1, hq.2.base rfl rfl rfl⟩)
  · obtain ⟨rfl, he⟩ := hR
    exact hk v' w' hr' hn' he

theorem body24n (v : World) : Body Try.f26 #[.pointer none] v (fun r v' => r = I 0 ∧ v' = v) := by
  intro code hb
  obtain rfl := Option.some.inj hb
  clear hb
  simp only [Try.ntmps26, List.size_toArray, List.length_cons, List.length_nil, Nat.reduceAdd, Nat.reduceSub, Array.replicate_succ, Array.replicate_zero, List.push_toArray, List.append_toArray, List.nil_append, List.cons_append]
  go_wp2_with fail
  go_ret
  exact ⟨_, rfl, rfl, rfl⟩
set_option maxHeartbeats 2000000 in
set_option maxRecDepth 100000 in
theorem body10n (v : World) (x : Int) : Body Try.f17 #[.pointer none, I x] v (fun r v' => r = Pt v.heap.size 0 ∧ v'.heap = v.heap.push (.cells #[I 0, I x] 78) ∧ v'.os = v.os ∧ v'.output = v.output) := by
  intro code hb
  obtain rfl := Option.some.inj hb
  clear hb
  simp only [Try.ntmps17, List.size_toArray, List.length_cons, List.length_nil, Nat.reduceAdd, Nat.reduceSub, Array.replicate_succ, Array.replicate_zero, List.push_toArray, List.append_toArray, List.nil_append, List.cons_append]
  go_wp2_with (first
    | (go_at_call 26; refine ((body24n v).calls Try.func26 rfl).mono ?_; rintro e w1 ⟨r1, rfl, rfl, rfl⟩)
    | (go_at_call 27
       have hb : (w1.alloc (.cells #[I 0, I 0] 78)).heap[w1.heap.size]? = some (.cells #[I 0, I 0] 78) := Array.getElem?_push_size
       refine ((body25 w1.heap.size 0 x _ (by unfold World.cell?; rw [hb]; rfl) (by unfold World.frozen?; rw [hb]; rfl)).calls Try.func27 rfl).mono ?_; rintro e w2 ⟨r2, rfl, rfl, rfl⟩))
  go_ret
  exact ⟨_, rfl, rfl, rfl, rfl, rfl⟩
set_option maxHeartbeats 2000000 in
set_option maxRecDepth 100000 in
theorem body11 (v : World) (i : Int) : Body Try.f11 #[I i] v (fun r v' => r = Pt v.heap.size 0 ∧ v'.heap = v.heap.push (.cells #[.pointer none, I i, .chan none, I 0, I 0, I 0, I 0] 59) ∧ v'.os = v.os ∧ v'.output = v.output) := by
  intro code hb
  obtain rfl := Option.some.inj hb
  clear hb
  simp only [Try.ntmps11, List.size_toArray, List.length_cons, List.length_nil, Nat.reduceAdd, Nat.reduceSub, Array.replicate_succ, Array.replicate_zero, List.push_toArray, List.append_toArray, List.nil_append, List.cons_append]
  go_wp2_with fail
  go_ret
  exact ⟨_, rfl, rfl, rfl, rfl, rfl⟩
section
variable {tb c c' : Nat} {x y : Int} {v v' v'' : World}
theorem Fto.stay (h : Fto tb c x v v') (m : Fm tb c x v) : v'.heap = v.heap := by
  apply Array.ext_getElem?
  intro b
  by_cases e : b = c
  · rw [e, h.fm.cel, m.cel]
  · exact h.old b e
theorem Fto.other (h : Fto tb c x v v') (m : Fm tb c' y v) (hne : c' ≠ c) : Fm tb c' y v' := ⟨h.fm.thr, m.ne, by rw [h.old c' hne]; exact m.cel⟩
theorem Fto.cell (h : Fto tb c x v v') {b j : Nat} {u : Value} (hb : b ≠ c) (hc : v.cell? ⟨b, j, none⟩ = some u) : v'.cell? ⟨b, j, none⟩ = some u := by
  rw [World.cell?_of_block (w := v) (w' := v') (h.old b hb)]; exact hc
theorem Fto.then (h : Fto tb c x v v') (k : Fto tb c' y v' v'') (m : Fm tb c' y v') : Fto tb c x v v'' := h.same (k.stay m) k.os k.out
end
end Go.Proofs.Ytmmfjanbjheekaa.Gen

/- A chain asked by a thread of no world, main alone. (Made by wip/tools/mkch.py.) -/
set_option linter.unusedSimpArgs false
set_option linter.unusedVariables false
namespace Go.Proofs.Ytmmfjanbjheekaa.Gen
open Go Go.Lift Go.Conc Go.RowKit

set_option maxHeartbeats 2000000 in
set_option maxRecDepth 100000 in
theorem tailF12 {v : World} {tb cb : Nat} {x : Int} (y : Int) (hm : Fm tb cb x v) (a7 a8 a9 a10 a11 a12 : Value) :
    rest12.wp Try.prog (bodyPost Try.prog Try.f19 (fun e w' => ∃ r, e = .returned r ∧ (r = .tuple #[] ∧ Fto tb cb y v w')))
      { tmps := #[Pt cb 0, Pt tb 0, I y, undef, undef, undef, undef, a7, a8, a9, a10, a11, a12, undef, undef, undef, undef, undef, undef, undef, undef, undef], defers := [] } v := by
  obtain ⟨c0, _, c1, f1⟩ := hm.cells
  have HF : Hid (Fto tb cb y v (v.setCell ⟨cb, 1, none⟩ (I y))) := ⟨Fto.set hm y⟩
  clear hm
  show Code.wp Try.prog (seq2 (Try.f19.body.getD .skip)) _ _ _
  unfold Try.f19 seq2
  simp only [Option.getD_some]
  go_wp2_with (first
    | (go_at_call 27; refine ((body25 cb x y _ c1 f1).calls Try.func27 rfl).mono ?_; rintro e w1 ⟨_, rfl, rfl, rfl⟩)
    | (go_at_call 29; refine ((body27f tb x y _ HF.out.fm.thr).calls Try.func29 rfl).mono ?_; rintro e w2 ⟨_, rfl, rfl, rfl⟩))
  exact ⟨rfl, _, results_none rfl _ _ _, _, rfl, rfl, HF.out⟩
set_option maxHeartbeats 2000000 in
set_option maxRecDepth 100000 in
/-- A free thread stores. -/
theorem free12 {Ch : Nat → Prop} {Stop : Goroutine → World → Prop} {main : Bool} {v w : World} {tb cb : Nat} (x y : Int) (cs : List Frame) {bc : Frame} {ac : Act} {ops : Array Oper} {q : Nat} {rest : List Nat} {oc : Oper} {k0 : List Item} (hoc : ops[q]? = some oc)
    (hvw : Rel zn v w) (hn : NoRow Ch v) (hm : Fm tb cb x v)
    (hk : ∀ v' w', Rel zn v' w' → NoRow Ch v' → Fto tb cb y v v' → GoesI Try.prog main (DT (ScZ zn) Ch) Stop (G (bc.at (ac.put oc.dst (.tuple #[])) (.inRegion ops rest :: k0)) cs) w') (code : Code) (hc : Try.f19.body = some code) :
    GoesI Try.prog main (DT (ScZ zn) Ch) Stop (G ((base 19).at { tmps := #[Pt cb 0, Pt tb 0, I y] ++ Array.replicate 19 undef, defers := [] } [.code code]) (bc.at ac (.inRegion ops (q :: rest) :: k0) :: cs)) w := by
  obtain rfl := Option.some.inj hc
  clear hc
  have e0 : w.cell? ⟨cb, 0, none⟩ = some (I 0) := by rw [hvw.cell?]; exact hm.cells.2.1
  simp only [Array.replicate_succ, Array.replicate_zero, List.push_toArray, List.append_toArray, List.nil_append, List.cons_append]
  have HM : Hid (Fm tb cb x v) := ⟨hm⟩
  clear hm
  refine goesI_seq (dt_idle _ _) ?_
  refine goesI_region (dt_idle _ _) ?_
  simp only [List.size_toArray, List.length_cons, List.length_nil, Nat.reduceAdd, Nat.zero_add, List.range, List.range.loop]
  iterate 5
    (refine goesI_oper rfl rfl (by decide) (fun d K hK => ?_)
     go_simp
     refine hK _ _ ⟨dt_reads (fun e he => ?_), GoesI.at ?_ d⟩
     · have hm := mem_listed he
       simp [go_sem, *] at hm
       try exact ⟨_, _, hm⟩
     clear hK K)
  refine goesI_into (f := 28) (fn := Try.f28) (args := #[Pt tb 0, I 0, I 2]) (dt_idle _ _) rfl rfl (by decide) rfl (by simp [Act.eval]) Try.func28 (by decide) rfl ?_
  refine free26 tb 0 2 HM.out.cells.1 _ rfl hvw hn (fun w1 hr1 => ?_) _ rfl
  clear e0 hvw
  refine goesI_regionEnd (dt_idle _ _) ?_
  refine goesI_rest (f := 19) (fn := Try.f19) (c := rest12) hE fineT hr1 hn Try.func19 fine12 rfl hoc res12 (fun τ => ?_) (fun r v' w' hR hr' hn' => ?_) (R := fun r w' => r = .tuple #[] ∧ Fto tb cb y v w')
  · exact wp_mono (tailF12 y (HM.out.same (v' := onTape v τ 0) rfl) _ _ _ _ _ _) (bp_mono fun r u hq => ⟨hq.1, hq.2.base rfl rfl rfl⟩)
  · obtain ⟨rfl, he⟩ := hR
    exact hk v' w' hr' hn' he

set_option maxHeartbeats 2000000 in
set_option maxRecDepth 100000 in
/-- Ask, by a free thread: it writes down. -/
theorem ask_inF {Ch : Nat → Prop} {Stop : Goroutine → World → Prop} {main : Bool} {v w : World} {tb cb c sb n fr to : Nat} (y : Int) (hf : fr < n) (hto : to < n) (hn1 : n ≤ 100) (h0 : v.cell? ⟨c, 0, none⟩ = some (.slice (some ⟨sb, 0, none⟩) n n)) (hcb : v.cell? ⟨sb, fr, none⟩ = some (Pt cb 0)) (hm : Fm tb cb y v) (cs : List Frame)
    (hvw : Rel zn v w) (hn : NoRow Ch v)
    (hk : ∀ a v' w', Fl 35 [(0, Pt c 0), (1, Pt tb 0), (2, I (fr : Nat)), (3, I (to : Nat))] a → Rel zn v' w' → NoRow Ch v' → Fto tb cb ((to : Int) + 1) v v' → GoesI Try.prog main (DT (ScZ zn) Ch) Stop (G (hkPut a (.tuple #[])) cs) w') (code : Code) (hc : Try.f13.body = some code) :
    GoesI Try.prog main (DT (ScZ zn) Ch) Stop (G ((base 13).at { tmps := #[Pt c 0, Pt tb 0, I (fr : Nat), I (to : Nat)] ++ Array.replicate 31 undef, defers := [] } [.code code]) cs) w := by
  have hw0 : code = .seq (seq1 hkB) (.seq hk1 (.seq (.region 3 hkO3 false) hkR)) := by
    rw [show code = hkB by unfold hkB; rw [hc]; rfl]; exact eHkB
  subst hw0
  clear hc
  have HM : Hid (Fm tb cb y v) := ⟨hm⟩
  clear hm
  simp only [Array.replicate_succ, Array.replicate_zero, List.push_toArray, List.append_toArray, List.nil_append, List.cons_append]
  refine goesI_seq (dt_idle _ _) ?_
  generalize hh1 : hk1 = C1
  generalize hhR : hkR = CR at hk ⊢
  generalize hh3 : hkO3 = O3 at hk ⊢
  unfold hkB Try.f13 seq1
  simp only [Option.getD_some]
  refine goesI_region (dt_idle _ _) ?_
  simp only [List.size_toArray, List.length_cons, List.length_nil, Nat.reduceAdd, Nat.zero_add, List.range, List.range.loop]
  iterate 1
    (refine goesI_oper rfl rfl (by decide) (fun d K hK => ?_)
     go_simp
     refine hK _ _ ⟨dt_reads (fun e he => ?_), GoesI.at ?_ d⟩
     · have hm := mem_listed he
       simp [go_sem, *] at hm
       try exact ⟨_, _, hm⟩
     clear hK K)
  refine goesI_regionEnd (dt_idle _ _) ?_
  refine goesI_seq (dt_idle _ _) ?_
  subst hh1
  refine goesI_plain (z := zn) (wr := true) (L := LT) (I := NoRow Ch) hE fineT noRow_keeps (fun v v' w w' es hi hr ho he => dt_of_z v v' w w' es hi hr ho he) hvw fine_hk1 rfl (by simp [base]) hn
    (Q := fun a w' => Fl 35 [(0, Pt c 0), (1, Pt tb 0), (2, I (fr : Nat)), (3, I (to : Nat))] a ∧ w'.heap = v.heap ∧ w'.os = v.os ∧ w'.output = v.output) (fun τ => hk1_wp (onTape v τ 0) c sb n tb fr to hf hto h0 ⟨rfl, rfl, by
      intro p hp
      simp only [List.mem_cons, List.not_mem_nil, or_false] at hp
      rcases hp with rfl | rfl | rfl | rfl <;> rfl⟩) ?_
  rintro a1 v1 w1 ⟨hA, q1, q2, q3⟩ hvw1 hn1' -
  have e0 : w1.cell? ⟨c, 0, none⟩ = some (.slice (some ⟨sb, 0, none⟩) n n) := by rw [hvw1.cell?, World.cell?_of_block (w := v) (by rw [q1])]; exact h0
  have e1 : w1.cell? ⟨sb, fr, none⟩ = some (Pt cb 0) := by rw [hvw1.cell?, World.cell?_of_block (w := v) (by rw [q1])]; exact hcb
  have hf' : (fr : Int) < (n : Int) := by omega
  have hw1 : IntKind.i64.wrap ((to : Int) + 1) = (to : Int) + 1 := by rw [IntKind.wrap_i64]; omega
  unfold hkPut at hk
  subst hhR hh3
  unfold hkO3 hkR hkB Try.f13 seq1 seq2 opsOf at hk
  simp only [Option.getD_some] at hk
  obtain ⟨hsz, hd, hpp⟩ := hA
  obtain ⟨u, rfl, hg⟩ := litN hsz hd
  have u0 := (hg 0).symm.trans (hpp (0, Pt c 0) (by simp))
  have u1 := (hg 1).symm.trans (hpp (1, Pt tb 0) (by simp))
  have u2 := (hg 2).symm.trans (hpp (2, I (fr : Nat)) (by simp))
  have u3 := (hg 3).symm.trans (hpp (3, I (to : Nat)) (by simp))
  clear hg hpp hsz hd
  unfold hkO3 hkR hkB Try.f13 seq1 seq2 opsOf
  simp only [Option.getD_some, lits, Nat.reduceAdd, u0, u1, u2, u3]
  clear u0 u1 u2 u3
  refine goesI_seq (dt_idle _ _) ?_
  refine goesI_region (dt_idle _ _) ?_
  simp only [List.size_toArray, List.length_cons, List.length_nil, Nat.reduceAdd, Nat.zero_add, List.range, List.range.loop]
  iterate 10
    (refine goesI_oper rfl rfl (by decide) (fun d K hK => ?_)
     go_simp
     refine hK _ _ ⟨dt_reads (fun e he => ?_), GoesI.at ?_ d⟩
     · have hm := mem_listed he
       simp [go_sem, *] at hm
       try exact ⟨_, _, hm⟩
     clear hK K)
  refine goesI_into (f := 19) (fn := Try.f19) (args := #[Pt cb 0, Pt tb 0, I ((to : Int) + 1)]) (dt_idle _ _) rfl rfl (by decide) rfl (by simp [Act.eval, hw1]) Try.func19 (by decide) rfl ?_
  exact free12 y ((to : Int) + 1) _ rfl hvw1 hn1' (HM.out.same q1) (fun v' w' r nn f => hk _ v' w' ⟨rfl, rfl, by
    intro p hp
    simp only [List.mem_cons, List.not_mem_nil, or_false] at hp
    rcases hp with rfl | rfl | rfl | rfl <;> rfl⟩ r nn (f.base q1 q2 q3)) _ rfl

set_option maxHeartbeats 2000000 in
set_option maxRecDepth 100000 in
theorem has_no (c sb n : Nat) (x : Int) (hx : ¬ (0 ≤ x ∧ x < n)) (w : World) (h0 : w.cell? ⟨c, 0, none⟩ = some (.slice (some ⟨sb, 0, none⟩) n n)) : Calls Try.prog 18 #[Pt c 0, I x] w fun e w' => e = .returned (.bool false) ∧ w' = w := by
  by_cases h1 : 0 ≤ x
  · have h2 : ¬ x < (n : Int) := fun h => hx ⟨h1, h⟩
    have h3 : decide (x ≥ 0) = true := decide_eq_true (by omega)
    have h4 : decide (x < (n : Int)) = false := decide_eq_false h2
    go_enter Try.func18, Try.ntmps18
    go_wp2_with fail
    go_ret
    exact ⟨by simp [h4], rfl⟩
  · have h3 : decide (x ≥ 0) = false := decide_eq_false (by omega)
    have h2 : ¬ x ≥ 0 := by omega
    go_enter Try.func18, Try.ntmps18
    go_wp2_with fail
    go_ret
    exact ⟨rfl, rfl⟩
set_option maxHeartbeats 2000000 in
set_option maxRecDepth 100000 in
theorem hk1_no (v : World) (c sb n tb fr : Nat) (to : Int) (hf : fr < n) (ht : ¬ (0 ≤ to ∧ to < n)) (h0 : v.cell? ⟨c, 0, none⟩ = some (.slice (some ⟨sb, 0, none⟩) n n)) {a : Act} (hA : Fl 35 [(0, Pt c 0), (1, Pt tb 0), (2, I (fr : Nat)), (3, I to)] a) :
    hk1.wp Try.prog (fun e a w' => e = .ret ∧ ∃ x, (results Try.f13 a.tmps).run Try.prog w' = .ok x w' ∧ x = .bool false ∧ w'.heap = v.heap ∧ w'.os = v.os ∧ w'.output = v.output) a v := by
  obtain ⟨hsz, hd, hpp⟩ := hA
  obtain ⟨u, rfl, hg⟩ := litN hsz hd
  have u0 := (hg 0).symm.trans (hpp (0, Pt c 0) (by simp))
  have u1 := (hg 1).symm.trans (hpp (1, Pt tb 0) (by simp))
  have u2 := (hg 2).symm.trans (hpp (2, I (fr : Nat)) (by simp))
  have u3 := (hg 3).symm.trans (hpp (3, I to) (by simp))
  clear hg hpp hsz hd
  unfold hk1 hkB Try.f13 seq1 seq2
  simp only [Option.getD_some, lits, Nat.reduceAdd, u0, u1, u2, u3]
  clear u0 u1 u2 u3
  have H1 : Hid (Calls Try.prog 18 #[Pt c 0, I (fr : Nat)] v _) := ⟨has_any c sb n fr hf v h0⟩
  have H2 : Hid (Calls Try.prog 18 #[Pt c 0, I to] v _) := ⟨has_no c sb n to ht v h0⟩
  clear hf ht h0
  go_wp2_with fail
  refine H1.out.mono ?_
  rintro e w1 ⟨rfl, rfl⟩
  go_wp2_with fail
  refine H2.out.mono ?_
  rintro e w1 ⟨rfl, rfl⟩
  go_wp2_with fail
  first
    | exact ⟨rfl, _, results_tmp (t := 8) rfl _ _ _, rfl, rfl, rfl, rfl⟩
    | exact ⟨_, results_tmp (t := 8) rfl _ _ _, rfl, rfl, rfl, rfl⟩
    | exact results_tmp (t := 8) rfl _ _ _
set_option maxHeartbeats 2000000 in
set_option maxRecDepth 100000 in
/-- Ask for what is no key. -/
theorem ask_no {Ch : Nat → Prop} {Stop : Goroutine → World → Prop} {main : Bool} {v w : World} {tb c sb n fr : Nat} {to : Int} (hf : fr < n) (hto : ¬ (0 ≤ to ∧ to < n)) (h0 : v.cell? ⟨c, 0, none⟩ = some (.slice (some ⟨sb, 0, none⟩) n n)) (cs : List Frame) {bc : Frame} {ac : Act} {ops : Array Oper} {q : Nat} {rest : List Nat} {oc : Oper} {k0 : List Item} (hoc : ops[q]? = some oc)
    (hvw : Rel zn v w) (hn : NoRow Ch v)
    (hk : ∀ v' w', Rel zn v' w' → NoRow Ch v' → v'.heap = v.heap → v'.os = v.os → v'.output = v.output → GoesI Try.prog main (DT (ScZ zn) Ch) Stop (G (bc.at (ac.put oc.dst (.bool false)) (.inRegion ops rest :: k0)) cs) w') (code : Code) (hc : Try.f13.body = some code) :
    GoesI Try.prog main (DT (ScZ zn) Ch) Stop (G ((base 13).at { tmps := #[Pt c 0, Pt tb 0, I (fr : Nat), I to] ++ Array.replicate 31 undef, defers := [] } [.code code]) (bc.at ac (.inRegion ops (q :: rest) :: k0) :: cs)) w := by
  have hw0 : code = .seq (seq1 hkB) (.seq hk1 (.seq (.region 3 hkO3 false) hkR)) := by
    rw [show code = hkB by unfold hkB; rw [hc]; rfl]; exact eHkB
  subst hw0
  clear hc
  simp only [Array.replicate_succ, Array.replicate_zero, List.push_toArray, List.append_toArray, List.nil_append, List.cons_append]
  refine goesI_seq (dt_idle _ _) ?_
  generalize hh1 : hk1 = C1
  generalize hhR : hkR = CR
  generalize hh3 : hkO3 = O3
  unfold hkB Try.f13 seq1
  simp only [Option.getD_some]
  refine goesI_region (dt_idle _ _) ?_
  simp only [List.size_toArray, List.length_cons, List.length_nil, Nat.reduceAdd, Nat.zero_add, List.range, List.range.loop]
  iterate 1
    (refine goesI_oper rfl rfl (by decide) (fun d K hK => ?_)
     go_simp
     refine hK _ _ ⟨dt_reads (fun e he => ?_), GoesI.at ?_ d⟩
     · have hm := mem_listed he
       simp [go_sem, *] at hm
       try exact ⟨_, _, hm⟩
     clear hK K)
  refine goesI_regionEnd (dt_idle _ _) ?_
  refine goesI_seq (dt_idle _ _) ?_
  subst hh1
  refine goesI_outZ (c := hk1) (f := 13) (fn := Try.f13) (L := LT) hE fineT hvw hn Try.func13 fine_hk1 rfl hoc (R := fun r w' => r = .bool false ∧ w'.heap = v.heap ∧ w'.os = v.os ∧ w'.output = v.output) (fun τ => hk1_no (onTape v τ 0) c sb n tb fr to hf hto h0 ⟨rfl, rfl, by
      intro p hp
      simp only [List.mem_cons, List.not_mem_nil, or_false] at hp
      rcases hp with rfl | rfl | rfl | rfl <;> rfl⟩) (fun r v' w' hR hr' hn' => ?_)
  obtain ⟨rfl, q1, q2, q3⟩ := hR
  exact hk v' w' hr' hn' q1 q2 q3

set_option maxHeartbeats 2000000 in
set_option maxRecDepth 100000 in
/-- A free thread looks. -/
theorem lead_lookF {Ch : Nat → Prop} {Stop : Goroutine → World → Prop} {main : Bool} {v w : World} {tb cb c sb n x fr k : Nat} (y : Int) (hkn : k < n) (hxn : x < n) (hne : x ≠ fr) (h0 : v.cell? ⟨c, 0, none⟩ = some (.slice (some ⟨sb, 0, none⟩) n n)) (hcb : v.cell? ⟨sb, x, none⟩ = some (Pt cb 0)) (hm : Fm tb cb y v) {a : Act} (hA : Fl 34 [(0, Pt c 0), (1, Pt tb 0), (2, I (x : Nat)), (3, I (fr : Nat)), (14, I (n : Nat)), (15, I (k : Nat))] a) (cs : List Frame)
    (hvw : Rel zn v w) (hn : NoRow Ch v)
    (hk : ∀ a v' w', Fl 34 [(0, Pt c 0), (1, Pt tb 0), (2, I (x : Nat)), (3, I (fr : Nat)), (14, I (n : Nat)), (15, I (k : Nat))] a → Rel zn v' w' → NoRow Ch v' → Fto tb cb y v v' → GoesI Try.prog main (DT (ScZ zn) Ch) Stop (G (hlSeen a (I y)) cs) w') :
    GoesI Try.prog main (DT (ScZ zn) Ch) Stop (G (hlFr a) cs) w := by
  have e0 : w.cell? ⟨c, 0, none⟩ = some (.slice (some ⟨sb, 0, none⟩) n n) := by rw [hvw.cell?]; exact h0
  have e1 : w.cell? ⟨sb, x, none⟩ = some (Pt cb 0) := by rw [hvw.cell?]; exact hcb
  have hkn' : (k : Int) < (n : Int) := by omega
  have hxn' : (x : Int) < (n : Int) := by omega
  have hne' : ¬ (x : Int) = (fr : Int) := by omega
  have HM : Hid (Fm tb cb y v) := ⟨hm⟩
  clear hm
  unfold hlSeen hlO5 hlI hl9 hlT hlL hlB Try.f20 seq1 seq2 blockC loopC opsOf at hk
  simp only [Option.getD_some] at hk
  obtain ⟨hsz, hd, hpp⟩ := hA
  obtain ⟨u, rfl, hg⟩ := litN hsz hd
  have u0 := (hg 0).symm.trans (hpp (0, Pt c 0) (by simp))
  have u1 := (hg 1).symm.trans (hpp (1, Pt tb 0) (by simp))
  have u2 := (hg 2).symm.trans (hpp (2, I (x : Nat)) (by simp))
  have u3 := (hg 3).symm.trans (hpp (3, I (fr : Nat)) (by simp))
  have u14 := (hg 14).symm.trans (hpp (14, I (n : Nat)) (by simp))
  have u15 := (hg 15).symm.trans (hpp (15, I (k : Nat)) (by simp))
  clear hg hpp hsz hd
  unfold hlFr hlT hlL hlB Try.f20 seq1 seq2 blockC loopC
  simp only [Option.getD_some, lits, Nat.reduceAdd, u0, u1, u2, u3, u14, u15]
  clear u0 u1 u2 u3 u14 u15
  refine goesI_seq (dt_idle _ _) ?_
  refine goesI_region (dt_idle _ _) ?_
  simp only [List.size_toArray, List.length_cons, List.length_nil, Nat.reduceAdd, Nat.zero_add, List.range, List.range.loop]
  iterate 1
    (refine goesI_oper rfl rfl (by decide) (fun d K hK => ?_)
     go_simp
     refine hK _ _ ⟨dt_reads (fun e he => ?_), GoesI.at ?_ d⟩
     · have hm := mem_listed he
       simp [go_sem, *] at hm
       try exact ⟨_, _, hm⟩
     clear hK K)
  refine goesI_regionEnd (dt_idle _ _) ?_
  refine goesI_seq (dt_idle _ _) ?_
  refine goesI_cond (dt_idle _ _) (t := true) (by simp [Act.eval]; try omega) ?_
  simp only [if_true, if_false, Bool.false_eq_true]
  refine goesI_skip (dt_idle _ _) ?_
  refine goesI_seq (dt_idle _ _) ?_
  refine goesI_block (dt_idle _ _) ?_
  refine goesI_seq (dt_idle _ _) ?_
  refine goesI_seq (dt_idle _ _) ?_
  refine goesI_region (dt_idle _ _) ?_
  simp only [List.size_toArray, List.length_cons, List.length_nil, Nat.reduceAdd, Nat.zero_add, List.range, List.range.loop]
  iterate 3
    (refine goesI_oper rfl rfl (by decide) (fun d K hK => ?_)
     go_simp
     refine hK _ _ ⟨dt_reads (fun e he => ?_), GoesI.at ?_ d⟩
     · have hm := mem_listed he
       simp [go_sem, *] at hm
       try exact ⟨_, _, hm⟩
     clear hK K)
  refine goesI_regionEnd (dt_idle _ _) ?_
  refine goesI_cond (dt_idle _ _) (t := false) (by simp [Act.eval]; try omega) ?_
  simp only [if_true, if_false, Bool.false_eq_true]
  refine goesI_skip (dt_idle _ _) ?_
  refine goesI_seq (dt_idle _ _) ?_
  refine goesI_region (dt_idle _ _) ?_
  simp only [List.size_toArray, List.length_cons, List.length_nil, Nat.reduceAdd, Nat.zero_add, List.range, List.range.loop]
  iterate 8
    (refine goesI_oper rfl rfl (by decide) (fun d K hK => ?_)
     go_simp
     refine hK _ _ ⟨dt_reads (fun e he => ?_), GoesI.at ?_ d⟩
     · have hm := mem_listed he
       simp [go_sem, *] at hm
       try exact ⟨_, _, hm⟩
     clear hK K)
  refine goesI_into (f := 30) (fn := Try.f30) (args := #[Pt cb 0, Pt tb 0]) (dt_idle _ _) rfl rfl (by decide) rfl (by simp [Act.eval]) Try.func30 (by decide) rfl ?_
  exact free17 y _ rfl hvw hn HM.out (fun v' w' r nn f => hk _ v' w' ⟨rfl, rfl, by
    intro p hp
    simp only [List.mem_cons, List.not_mem_nil, or_false] at hp
    rcases hp with rfl | rfl | rfl | rfl | rfl | rfl <;> rfl⟩ r nn f) _ rfl
end Go.Proofs.Ytmmfjanbjheekaa.Gen

/- chain.New (12) of no world, main alone. -/
set_option linter.unusedSimpArgs false
set_option linter.unusedVariables false
namespace Go.Proofs.Ytmmfjanbjheekaa.Gen
open Go Go.Lift Go.Conc Go.RowKit

def kbN (N k : Nat) : List (Nat × Int) := (List.range k).map fun j => (N + 2 + j, 0)
theorem kbN_len (N k : Nat) : (kbN N k).length = k := by simp [kbN]
theorem kbN_succ (N k : Nat) : kbN N (k + 1) = kbN N k ++ [(N + 2 + k, 0)] := by simp [kbN, List.range_succ]
/-- Behind k cells. -/
structure NwC (v : World) (s N k : Nat) (u : World) : Prop where
  row : u.heap[N]? = some (objP s (kbN N k))
  ctr : u.heap[N + 1]? = some (.cells #[.slice (some ⟨N, 0, none⟩) s s] 62 (0, 0))
  cel : ∀ j, j < k → u.heap[N + 2 + j]? = some (.cells #[I 0, I 0] 78 (0, 0))
  size : u.heap.size = N + 2 + k
  old : ∀ b, b < N → u.heap[b]? = v.heap[b]?
  os : u.os = v.os
  out : u.output = v.output
theorem NwC.same {v u u' : World} {s N k : Nat} (h : NwC v s N k u) (e1 : u'.heap = u.heap) (e2 : u'.os = u.os) (e3 : u'.output = u.output) : NwC v s N k u' :=
  ⟨by rw [e1]; exact h.row, by rw [e1]; exact h.ctr, fun j hj => by rw [e1]; exact h.cel j hj, by rw [e1]; exact h.size, fun b hb => by rw [e1]; exact h.old b hb, e2.trans h.os, e3.trans h.out⟩
theorem NwC.next {v u u' : World} {s N k : Nat} (h : NwC v s N k u) (hk : k < s) (e1 : u'.heap = u.heap.push (.cells #[I 0, I 0] 78 (0, 0))) (e2 : u'.os = u.os) (e3 : u'.output = u.output) : NwC v s N (k + 1) (u'.setCell ⟨N, k, none⟩ (Pt u.heap.size 0)) := by
  have oth : ∀ b, b ≠ N → (u'.setCell ⟨N, k, none⟩ (Pt u.heap.size 0)).heap[b]? = u'.heap[b]? := fun b hb => Below.heap_setCell _ _ _ _ hb
  have at_ : ∀ b, b < u.heap.size → u'.heap[b]? = u.heap[b]? := fun b hb => by rw [e1, Array.getElem?_push, if_neg (by omega)]
  have hs := h.size
  refine ⟨?_, ?_, fun j hj => ?_, ?_, fun b hb => ?_, ?_, ?_⟩
  · have h0 : u'.heap[N]? = some (.cells (rowP s (kbN N k)).toArray 63 (0, 0)) := by rw [at_ N (by omega)]; exact h.row
    have := heap_setCell_same (o := k) h0 (Pt u.heap.size 0)
    rw [this]
    have h1 := rowP_next (s := s) (K := kbN N k) (N + 2 + k, 0) (by rw [kbN_len]; exact hk)
    rw [kbN_len] at h1
    rw [hs, h1, ← kbN_succ]
    rfl
  · rw [oth _ (by omega), at_ _ (by omega)]; exact h.ctr
  · rw [oth _ (by omega)]
    by_cases e : j = k
    · subst e
      rw [e1, ← hs, Array.getElem?_push_size]
    · rw [at_ _ (by omega)]; exact h.cel j (by omega)
  · have : (u'.setCell ⟨N, k, none⟩ (Pt u.heap.size 0)).heap.size = u'.heap.size := by simp [World.setCell]
    rw [this, e1, Array.size_push]; omega
  · rw [oth _ (by omega), at_ _ (by omega)]; exact h.old b hb
  · exact e2.trans h.os
  · exact e3.trans h.out
set_option maxHeartbeats 4000000 in
set_option maxRecDepth 100000 in
theorem body12n (v : World) (s : Nat) (h1 : s ≤ 100) : Body Try.f12 #[.pointer none, I (s : Nat)] v (fun r v' => r = Pt (v.heap.size + 1) 0 ∧ NwC v s v.heap.size s v') := by
  intro code hb
  obtain rfl := Option.some.inj hb
  clear hb
  have hmx : (Builtin.max_ #[3, 3] 3 #[I s, I 0]) = pure (I s) := by
    show (pure (Value.int .i64 (if (0 : Int) > s then 0 else s)) : Sem Value) = _
    rw [if_neg (by omega)]
  have hmn : (Builtin.min_ #[3, 3] 3 #[I s, I 100]) = pure (I s) := by
    show (pure (Value.int .i64 (if (100 : Int) < s then 100 else s)) : Sem Value) = _
    rw [if_neg (by omega)]
  have hmk := make_ptrs s (by omega)
  rw [made_rowP] at hmk
  simp only [Try.ntmps12, List.size_toArray, List.length_cons, List.length_nil, Nat.reduceAdd, Nat.reduceSub, Array.replicate_succ, Array.replicate_zero, List.push_toArray, List.append_toArray, List.nil_append, List.cons_append]
  go_wp2_with fail
  go_loopw [18] (fun i u => ∃ (k : Nat), k ≤ s ∧ i = .int .i64 k ∧ NwC v s v.heap.size k u) (fun i _ => s - (intOf i).toNat)
  case atStart =>
    refine ⟨0, Nat.zero_le _, rfl, ?_, ?_, fun j hj => by omega, ?_, fun b hb => ?_, rfl, rfl⟩
    · show ((v.heap.push (objP s [])).push _)[v.heap.size]? = _
      rw [Array.getElem?_push, if_neg (by simp), Array.getElem?_push_size]
      rfl
    · show ((v.heap.push (objP s [])).push _)[v.heap.size + 1]? = _
      rw [show v.heap.size + 1 = (v.heap.push (objP s [])).size by simp, Array.getElem?_push_size]
    · show ((v.heap.push (objP s [])).push _).size = _
      simp
    · show ((v.heap.push (objP s [])).push _)[b]? = _
      rw [Array.getElem?_push, if_neg (by simp; omega), Array.getElem?_push, if_neg (by omega)]
  case round =>
    obtain ⟨k, hk, rfl, hO⟩ := hrel
    have HOB : Hid (NwC v s v.heap.size k wr) := ⟨hO⟩
    by_cases hlt : k < s
    · have c1 : wr.cell? ⟨v.heap.size + 1, 0, none⟩ = some (.slice (some ⟨v.heap.size, 0, none⟩) s s) := cell_of hO.ctr rfl
      have hks : (k : Int) < (s : Int) := by omega
      clear hO
      generalize hNN : v.heap.size = N at HOB c1
      go_wp2_with fail
      go_region_held3 (fun u => u.cell? ⟨N + 1, 0, none⟩ = some (.slice (some ⟨N, 0, none⟩) s s))
        (first | assumption | (simp [go_sem, *]; done))
        (first
          | (go_at_call 17; refine ((body10n wr.drew 0).calls Try.func17 rfl).mono ?_; rintro e w1 ⟨_, rfl, rfl, q1, q2, q3⟩
             have HO2 : Hid (w1.heap = wr.heap.push (.cells #[I 0, I 0] 78) ∧ w1.os = wr.os ∧ w1.output = wr.output) := ⟨q1, q2, q3⟩
             have hN : w1.heap[N]? = some (objP s (kbN N k)) := by rw [HO2.out.1, Array.getElem?_push, if_neg (by have := HOB.out.size; omega)]; exact HOB.out.row
             have hN1 : w1.heap[N + 1]? = some (.cells #[.slice (some ⟨N, 0, none⟩) s s] 62 (0, 0)) := by rw [HO2.out.1, Array.getElem?_push, if_neg (by have := HOB.out.size; omega)]; exact HOB.out.ctr
             have c2 : w1.cell? ⟨N + 1, 0, none⟩ = some (.slice (some ⟨N, 0, none⟩) s s) := cell_of hN1 rfl
             obtain ⟨c3, c4⟩ := objP_at hN (kbN_len N k) hlt
             clear q1 q2 q3 hN hN1))
      go_wp2_with fail
      go_roundw
      case rel =>
        refine ⟨k + 1, by omega, by go_num, ?_⟩
        exact HOB.out.next hlt HO2.out.1 HO2.out.2.1 HO2.out.2.2
      case measure => simp [intOf]; omega
    · have : k = s := by omega
      subst this
      go_wp2_with fail
      go_ret
      exact ⟨_, rfl, rfl, HOB.out⟩
end Go.Proofs.Ytmmfjanbjheekaa.Gen
