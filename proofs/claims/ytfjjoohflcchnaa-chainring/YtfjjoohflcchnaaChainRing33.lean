/- ChainRing: of a ring the last who writes down is told, under every schedule. Part 33 of 37. (Joined, by program, of: ChY, GPts, ChAw1, GFree.) -/
import Derived.Test.YtfjjoohflcchnaaChainRing08
import Derived.Test.YtfjjoohflcchnaaChainRing18
import Derived.Test.YtfjjoohflcchnaaChainRing24
import Derived.Test.YtfjjoohflcchnaaChainRing32
import Derived.KernelRfl
set_option linter.unusedSimpArgs false
set_option linter.unusedVariables false
namespace Go.Proofs.Ytfjjoohflcchnaa.Gen
open Go Go.Lift Go.Conc Go.RowKit

noncomputable def B8c : Code := Try.f52.body.getD .skip
noncomputable def k8c0 : Code := seq1 B8c
noncomputable def k8c1 : Code := seq1 (seq2 B8c)
noncomputable def k8c2 : Code := seq1 (seq2 (seq2 B8c))
noncomputable def R8c : Code := seq2 (seq2 (seq2 B8c))
theorem eB8c : B8c = .seq k8c0 (.seq k8c1 (.seq k8c2 R8c)) := by kernel_rfl
theorem fine_k8c0 : fineCode Try.prog true LV k8c0 := fineCode_askS callV extT (by kernel_rfl)
theorem fine_k8c1 : fineCode Try.prog true LV k8c1 := fineCode_askS callV extT (by kernel_rfl)
theorem fine_k8c2 : fineCode Try.prog true LV k8c2 := fineCode_askS callV extT (by kernel_rfl)

section
variable {S : TS} {v : World} {a : Act} {n cap : Nat} {p : Option Addr} {m : Int}
set_option maxHeartbeats 2000000 in
set_option maxRecDepth 100000 in
theorem k8c0_wp (hA : Fl 28 [(0, Pt S.wb 0), (1, I m), (2, .slice p n cap)] a) : k8c0.wp Try.prog (fun e a w' => e = .normal ∧ Fl 28 [(0, Pt S.wb 0), (1, I m), (2, .slice p n cap), (6, .slice none 0 0), (7, I 0)] a ∧ w'.heap = v.heap ∧ w'.os = v.os ∧ w'.output = v.output) a v := by
  obtain ⟨hsz, hd, hpp⟩ := hA
  obtain ⟨u, rfl, hg⟩ := litN hsz hd
  have u0 := (hg 0).symm.trans (hpp (0, Pt S.wb 0) (by simp))
  have u1 := (hg 1).symm.trans (hpp (1, I m) (by simp))
  have u2 := (hg 2).symm.trans (hpp (2, .slice p n cap) (by simp))
  clear hg hpp hsz hd
  unfold k8c0 B8c Try.f52 seq1
  simp only [Option.getD_some, lits, Nat.reduceAdd, u0, u1, u2]
  clear u0 u1 u2
  go_wp2_with fail
  first
    | exact ⟨rfl, ⟨rfl, rfl, by
        intro p hp
        simp only [List.mem_cons, List.not_mem_nil, or_false] at hp
        rcases hp with rfl | rfl | rfl | rfl | rfl <;> rfl⟩, rfl, rfl, rfl⟩
    | exact ⟨⟨rfl, rfl, by
        intro p hp
        simp only [List.mem_cons, List.not_mem_nil, or_false] at hp
        rcases hp with rfl | rfl | rfl | rfl | rfl <;> rfl⟩, rfl, rfl, rfl⟩
    | exact ⟨rfl, rfl, by
        intro p hp
        simp only [List.mem_cons, List.not_mem_nil, or_false] at hp
        rcases hp with rfl | rfl | rfl | rfl | rfl <;> rfl⟩

set_option maxHeartbeats 2000000 in
set_option maxRecDepth 100000 in
theorem k8c1_yes (h : Rep zn S v) (pc : Nat → Option Addr) (ln cp : Nat → Nat) (hs : ∀ k, k < n → ∃ sb so, p = some ⟨sb, so, none⟩ ∧ v.cell? ⟨sb, so + k, none⟩ = some (.slice (pc k) (ln k) (cp k))) (hln : ∀ k, k < n → ln k ≤ 64) (hn : 0 < n ∧ n ≤ 8) (hr : S.ran = false) (hA : Fl 28 [(0, Pt S.wb 0), (1, I m), (2, .slice p n cap), (6, .slice none 0 0), (7, I 0)] a) :
    k8c1.wp Try.prog (fun e a w' => e = .normal ∧ Fl 28 [(0, Pt S.wb 0), (1, I m), (2, .slice p n cap), (6, .slice none 0 0), (7, I 0)] a ∧ w'.heap = v.heap ∧ w'.os = v.os ∧ w'.output = v.output) a v := by
  have h19 := (body19 h p n cap (by omega) pc ln cp hs).calls Try.func53 rfl
  have he : checkE n S.ran = 0 := by unfold checkE; rw [if_neg (by rw [hr]; rintro (h | h | h) <;> first | omega | cases h)]
  have H19 : Hid (Calls Try.prog 53 #[Pt S.wb 0, .slice p n cap] v (fun e w' => e = .returned (I 0) ∧ w' = v)) := ⟨h19.mono (by
    rintro e w' ⟨r, rfl, rfl, ⟨⟨k, hk, h1⟩, _⟩ | ⟨_, rfl⟩⟩
    · exact absurd (hln k hk) (by omega)
    · rw [he]; exact ⟨rfl, rfl⟩)⟩
  clear h19 h hs hln hn hr he
  obtain ⟨hsz, hd, hpp⟩ := hA
  obtain ⟨u, rfl, hg⟩ := litN hsz hd
  have u0 := (hg 0).symm.trans (hpp (0, Pt S.wb 0) (by simp))
  have u1 := (hg 1).symm.trans (hpp (1, I m) (by simp))
  have u2 := (hg 2).symm.trans (hpp (2, .slice p n cap) (by simp))
  have u6 := (hg 6).symm.trans (hpp (6, .slice none 0 0) (by simp))
  have u7 := (hg 7).symm.trans (hpp (7, I 0) (by simp))
  clear hg hpp hsz hd
  unfold k8c1 B8c Try.f52 seq1 seq2
  simp only [Option.getD_some, lits, Nat.reduceAdd, u0, u1, u2, u6, u7]
  clear u0 u1 u2 u6 u7
  go_wp2_with (first
    | (go_at_call 53; refine H19.out.mono ?_; rintro e w1 ⟨rfl, rfl⟩))
  first
    | exact ⟨rfl, ⟨rfl, rfl, by
        intro p hp
        simp only [List.mem_cons, List.not_mem_nil, or_false] at hp
        rcases hp with rfl | rfl | rfl | rfl | rfl <;> rfl⟩, rfl, rfl, rfl⟩
    | exact ⟨⟨rfl, rfl, by
        intro p hp
        simp only [List.mem_cons, List.not_mem_nil, or_false] at hp
        rcases hp with rfl | rfl | rfl | rfl | rfl <;> rfl⟩, rfl, rfl, rfl⟩
    | exact ⟨rfl, rfl, by
        intro p hp
        simp only [List.mem_cons, List.not_mem_nil, or_false] at hp
        rcases hp with rfl | rfl | rfl | rfl | rfl <;> rfl⟩

set_option maxHeartbeats 2000000 in
set_option maxRecDepth 100000 in
theorem k8c2_yes (h1 : 1 ≤ m) (h2 : m ≤ 100) (hA : Fl 28 [(0, Pt S.wb 0), (1, I m), (2, .slice p n cap), (6, .slice none 0 0), (7, I 0)] a) : k8c2.wp Try.prog (fun e a w' => e = .normal ∧ Fl 28 [(0, Pt S.wb 0), (1, I m), (2, .slice p n cap), (6, .slice none 0 0), (7, I 0)] a ∧ w'.heap = v.heap ∧ w'.os = v.os ∧ w'.output = v.output) a v := by
  have g1 : decide (m < 1) = false := decide_eq_false (by omega)
  have g2 : decide (m > 100) = false := decide_eq_false (by omega)
  have g3 : ¬ m < 1 := by omega
  have g4 : ¬ m > 100 := by omega
  obtain ⟨hsz, hd, hpp⟩ := hA
  obtain ⟨u, rfl, hg⟩ := litN hsz hd
  have u0 := (hg 0).symm.trans (hpp (0, Pt S.wb 0) (by simp))
  have u1 := (hg 1).symm.trans (hpp (1, I m) (by simp))
  have u2 := (hg 2).symm.trans (hpp (2, .slice p n cap) (by simp))
  have u6 := (hg 6).symm.trans (hpp (6, .slice none 0 0) (by simp))
  have u7 := (hg 7).symm.trans (hpp (7, I 0) (by simp))
  clear hg hpp hsz hd
  unfold k8c2 B8c Try.f52 seq1 seq2
  simp only [Option.getD_some, lits, Nat.reduceAdd, u0, u1, u2, u6, u7]
  clear u0 u1 u2 u6 u7
  go_wp2_with fail
  first
    | exact ⟨rfl, ⟨rfl, rfl, by
        intro p hp
        simp only [List.mem_cons, List.not_mem_nil, or_false] at hp
        rcases hp with rfl | rfl | rfl | rfl | rfl <;> rfl⟩, rfl, rfl, rfl⟩
    | exact ⟨⟨rfl, rfl, by
        intro p hp
        simp only [List.mem_cons, List.not_mem_nil, or_false] at hp
        rcases hp with rfl | rfl | rfl | rfl | rfl <;> rfl⟩, rfl, rfl, rfl⟩
    | exact ⟨rfl, rfl, by
        intro p hp
        simp only [List.mem_cons, List.not_mem_nil, or_false] at hp
        rcases hp with rfl | rfl | rfl | rfl | rfl <;> rfl⟩

end

/-- What a chain's threads read. -/
def QH (s : Nat) (caps : Array Value) (pk : Nat → Option Obj) (K : List (Nat × Int)) : Prop :=
  0 < s ∧ s ≤ 100 ∧ ∃ pk0 N, caps = #[Pt (N + 1) 0] ∧ pk = pkN pk0 s N K ∧ K.length = s ∧ K.map (·.2) = List.replicate s 0
theorem mineH (s : Nat) (caps : Array Value) (pk : Nat → Option Obj) (K : List (Nat × Int)) (h : QH s caps pk K) (X : Fix (mcH s)) (hf : X.fid = 81) (hc : X.caps = caps) (hp : X.pk = pk) (hk : X.kb = K.map (·.1)) : (pkgH s).Mine X := by
  obtain ⟨h0, h1, pk0, N, rfl, rfl, hK, _⟩ := h
  refine ⟨N + 1, N, hc, fun v hv => ?_⟩
  rw [hp] at hv
  have e0 := hv (N + 1) (.cells #[.slice (some ⟨N, 0, none⟩) s s] 144 (0, 0)) (by unfold pkN; rw [padd_ne (by omega), padd_at])
  have e1 := hv N (objP s K) (by unfold pkN; rw [padd_at])
  refine ⟨cell_of e0 rfl, fun j hj => ?_, h0, h1⟩
  obtain ⟨c, hcj⟩ : ∃ c, K[j]? = some c := ⟨_, List.getElem?_eq_getElem (by omega)⟩
  refine ⟨c.1, by rw [hk, List.getElem?_map, hcj]; rfl, cell_of e1 ?_⟩
  unfold rowP
  simp [hj, hcj]
theorem kokH (s : Nat) (caps : Array Value) (pk : Nat → Option Obj) (K : List (Nat × Int)) (h : QH s caps pk K) : KOk (mcH s) K := by
  obtain ⟨h0, h1, pk0, N, rfl, rfl, hK, hv⟩ := h
  intro j p hp _
  have : (K.map (·.2))[j]? = some p.2 := by rw [List.getElem?_map, hp]; rfl
  rw [hv, List.getElem?_replicate] at this
  split at this
  · have := Option.some.inj this
    omega
  · cases this

set_option maxHeartbeats 2000000 in
set_option maxRecDepth 100000 in
theorem cplay_in {Ch : Nat → Prop} {Stop : Goroutine → World → Prop} {main : Bool} {S : TS} {v w : World} (s : Nat) (h0 : 0 < s) (h1 : s ≤ 100) {pk0 : Nat → Option Obj} (hO : Objs v S [] pk0 S [] v) (hlt : ∀ b, pk0 b ≠ none → b < v.heap.size) (p : Option Addr) (n cap : Nat) (hn8 : 0 < n ∧ n ≤ 8) (hran : S.ran = false) (pc : Nat → Option Addr) (ln cp : Nat → Nat) (hs : ∀ k, k < n → ∃ sb so, p = some ⟨sb, so, none⟩ ∧ v.cell? ⟨sb, so + k, none⟩ = some (.slice (pc k) (ln k) (cp k))) (hln : ∀ k, k < n → ln k ≤ 64)
    (cs : List Frame) {bc : Frame} {ac : Act} {ops : Array Oper} {q : Nat} {rest : List Nat} {oc : Oper} {k : List Item} (hoc : ops[q]? = some oc)
    (hvw : Rel zn v w) (hn : NoRow Ch v)
    (hk : ∀ v' w' (bd : Frame) (ad : Act) (od : Array Oper) (qd : Nat) (rd : List Nat) (oe : Oper) (kd : List Item) (caps : Array Value) (pk : Nat → Option Obj) (S1 : TS) (K : List (Nat × Int)), Rel zn v' w' → NoRow Ch v' → Objs v S (List.replicate s 0) pk S1 K v' → QH s caps pk K → od[qd]? = some oe →
      (∀ (Ch : Nat → Prop) (Stop : Goroutine → World → Prop) (w : World) (x : Value), (∀ d, GoesI Try.prog main (DT (ScZ zn) Ch) Stop (G (bc.at (ac.put oc.dst (.tuple #[x, I 0])) (.inRegion ops rest :: k)) cs) (w.at d)) → GoesI Try.prog main (DT (ScZ zn) Ch) Stop (G (bd.at (ad.put oe.dst x) (.inRegion od rd :: kd)) (bc.at ac (.inRegion ops (q :: rest) :: k) :: cs)) w) →
      GoesI Try.prog main (DT (ScZ zn) Ch) Stop (G ((base 54).at { tmps := #[Pt S.wb 0, .slice p n cap, .func (.func 81) ((mcH s).bn caps) ((mcH s).fr caps)] ++ Array.replicate 36 undef, defers := [] } [.code B20]) (bd.at ad (.inRegion od (qd :: rd) :: kd) :: bc.at ac (.inRegion ops (q :: rest) :: k) :: cs)) w') :
    GoesI Try.prog main (DT (ScZ zn) Ch) Stop (G ((base 52).at { tmps := #[Pt S.wb 0, I s, .slice p n cap] ++ Array.replicate 25 undef, defers := [] } [.code B8c]) (bc.at ac (.inRegion ops (q :: rest) :: k) :: cs)) w := by
  rw [eB8c]
  have hA0 : Fl 28 [(0, Pt S.wb 0), (1, I s), (2, .slice p n cap)] { tmps := #[Pt S.wb 0, I s, .slice p n cap] ++ Array.replicate 25 undef, defers := [] } := by
    simp only [Array.replicate_succ, Array.replicate_zero, List.push_toArray, List.append_toArray, List.nil_append, List.cons_append]
    exact ⟨rfl, rfl, by
      intro p hp
      simp only [List.mem_cons, List.not_mem_nil, or_false] at hp
      rcases hp with rfl | rfl | rfl <;> rfl⟩
  refine goesI_seq (dt_idle _ _) ?_
  refine goesI_plain (z := zn) (wr := true) (L := LV) (I := NoRow Ch) hE fineV noRow_keeps (fun v v' w w' es hi hr ho he => dt_of_z v v' w w' es hi hr ho he) hvw fine_k8c0 hA0.2.1 (by simp [base]) hn (Q := fun a w' => Fl 28 [(0, Pt S.wb 0), (1, I s), (2, .slice p n cap), (6, .slice none 0 0), (7, I 0)] a ∧ w'.heap = v.heap ∧ w'.os = v.os ∧ w'.output = v.output) (fun τ => k8c0_wp (v := onTape v τ 0) hA0) ?_
  rintro a0 v0 w0 ⟨hB0, e0, o0, u0⟩ hr0 hn0 -
  have m0 : Mem zn S [] v0 := (hO.cel.mem.grows (v' := v0) ⟨by rw [e0]; exact Nat.le_refl _, fun b _ => by rw [e0], o0, u0⟩).mem
  have hs0 : ∀ τ, ∀ k, k < n → ∃ sb so, p = some ⟨sb, so, none⟩ ∧ (onTape v0 τ 0).cell? ⟨sb, so + k, none⟩ = some (.slice (pc k) (ln k) (cp k)) := fun τ k hk => by
    obtain ⟨sb, so, h1, h2⟩ := hs k hk
    exact ⟨sb, so, h1, by rw [World.cell?_of_block (w := v) (w' := onTape v0 τ 0) (by show v0.heap[_]? = _; rw [e0])]; exact h2⟩
  refine goesI_seq (dt_idle _ _) ?_
  refine goesI_plain (z := zn) (wr := true) (L := LV) (I := NoRow Ch) hE fineV noRow_keeps (fun v v' w w' es hi hr ho he => dt_of_z v v' w w' es hi hr ho he) hr0 fine_k8c1 hB0.2.1 (by simp [base]) hn0 (Q := fun a w' => Fl 28 [(0, Pt S.wb 0), (1, I s), (2, .slice p n cap), (6, .slice none 0 0), (7, I 0)] a ∧ w'.heap = v0.heap ∧ w'.os = v0.os ∧ w'.output = v0.output) (fun τ => k8c1_yes (v := onTape v0 τ 0) (m0.grows (v' := onTape v0 τ 0) ⟨Nat.le_refl _, fun _ _ => rfl, rfl, rfl⟩).mem.rep pc ln cp (hs0 τ) hln hn8 hran hB0) ?_
  rintro a1 v1 w1 ⟨hB1, e1, o1, u1⟩ hr1 hn1 -
  refine goesI_seq (dt_idle _ _) ?_
  refine goesI_plain (z := zn) (wr := true) (L := LV) (I := NoRow Ch) hE fineV noRow_keeps (fun v v' w w' es hi hr ho he => dt_of_z v v' w w' es hi hr ho he) hr1 fine_k8c2 hB1.2.1 (by simp [base]) hn1 (Q := fun a w' => Fl 28 [(0, Pt S.wb 0), (1, I s), (2, .slice p n cap), (6, .slice none 0 0), (7, I 0)] a ∧ w'.heap = v1.heap ∧ w'.os = v1.os ∧ w'.output = v1.output) (fun τ => k8c2_yes (v := onTape v1 τ 0) (by omega) (by omega) hB1) ?_
  rintro a2 v2 w2 ⟨hB2, e2, o2, u2⟩ hr2 hn2 -
  have e20 : v2.heap = v.heap := e2.trans (e1.trans e0)
  have O2 : Objs v2 S [] pk0 S [] v2 := ⟨Cel.refl (hO.cel.mem.grows (v' := v2) ⟨by rw [e20]; exact Nat.le_refl _, fun b _ => by rw [e20], o2.trans (o1.trans o0), u2.trans (u1.trans u0)⟩).mem, rfl, hO.st, fun b o hb => by rw [e20]; exact hO.has b o hb, fun b hb => by have := hO.new b hb; rw [e20]; exact this, hO.row⟩
  have hlt2 : ∀ b, pk0 b ≠ none → b < v2.heap.size := fun b hb => by rw [e20]; exact hlt b hb
  obtain ⟨hsz, hd, hpp⟩ := hB2
  obtain ⟨u, rfl, hg⟩ := litN hsz hd
  have u0 := (hg 0).symm.trans (hpp (0, Pt S.wb 0) (by simp))
  have u1 := (hg 1).symm.trans (hpp (1, I s) (by simp))
  have u2 := (hg 2).symm.trans (hpp (2, .slice p n cap) (by simp))
  have u6 := (hg 6).symm.trans (hpp (6, .slice none 0 0) (by simp))
  have u7 := (hg 7).symm.trans (hpp (7, I 0) (by simp))
  clear hg hpp hsz hd
  unfold R8c B8c Try.f52 seq2
  simp only [Option.getD_some, lits, Nat.reduceAdd, u0, u1, u2, u6, u7]
  clear u0 u1 u2 u6 u7
  refine goesI_seq (dt_idle _ _) ?_
  refine goesI_region (dt_idle _ _) ?_
  simp only [List.size_toArray, List.length_cons, List.length_nil, Nat.reduceAdd, Nat.zero_add, List.range, List.range.loop]
  iterate 4
    (refine goesI_oper rfl rfl (by decide) (fun d K hK => ?_)
     go_simp
     refine hK _ _ ⟨dt_reads (fun e he => ?_), GoesI.at ?_ d⟩
     · have hm := mem_listed he
       simp [go_sem, *] at hm
       try exact ⟨_, _, hm⟩
     clear hK K)
  refine goesI_call (L := LV) (f := 79) (fn := Try.f79) (args := #[Pt S.wb 0, I s]) hE fineV rfl rfl (by decide) rfl (by simp [Act.eval]) Try.func79 (by kernel_rfl) rfl (fineFn_body fineV (by simp [LV, plainV]) Try.func79 rfl) (fun tmps => ⟨_, fun w => results_tmp rfl _ _ _, fun w => by simp [results, go_sem, Try.f79]⟩) hr2 hn2
    (R := fun r v4 => r = Pt (v2.heap.size + 1) 0 ∧ ∃ S1 K, K.length = s ∧ Objs v2 S (List.replicate s 0) (pkN pk0 s v2.heap.size K) S1 K v4) (fun τ => ?_) (fun r v4 w4 hR hr4 hn4 => ?_)
  · have Oτ : Objs (onTape v2 τ 0) S [] pk0 S [] (onTape v2 τ 0) := ⟨Cel.refl (O2.cel.mem.grows (v' := onTape v2 τ 0) ⟨Nat.le_refl _, fun _ _ => rfl, rfl, rfl⟩).mem, rfl, O2.st, O2.has, O2.new, O2.row⟩
    refine wp_mono (body12 Oτ hlt2 s h0 h1 _ rfl) (bp_mono fun r u hq => ⟨hq.1, ?_⟩)
    obtain ⟨_, S1, K, h2, o⟩ := hq
    exact ⟨S1, K, h2, ⟨o.cel.from rfl rfl rfl, o.vals, o.st, o.has, o.new, o.row⟩⟩
  obtain ⟨rfl, S1, K, hKl, ob4⟩ := hR
  have hset : Objs v S (List.replicate s 0) (pkN pk0 s v2.heap.size K) S1 K v4 :=
    ⟨ob4.cel.from e20 (o2.trans (o1.trans o0)) (u2.trans (u1.trans u0)), ob4.vals, ob4.st, ob4.has, fun b hb => by rw [← e20]; exact ob4.new b hb, ob4.row⟩
  have hql : QH s #[Pt (v2.heap.size + 1) 0] (pkN pk0 s v2.heap.size K) K := ⟨h0, h1, pk0, v2.heap.size, rfl, rfl, hKl, ob4.vals⟩
  clear ob4 hr0 hr1 hr2 hn0 hn1 hn2 e0 e1 e2 e20 o0 o1 o2 u0 u1 u2 hvw hn hs hs0 hln m0 O2 hlt2 hO hlt
  walk_nrm
  iterate 1
    (refine goesI_oper rfl rfl (by decide) (fun d K hK => ?_)
     go_simp
     refine hK _ _ ⟨dt_reads (fun e he => ?_), GoesI.at ?_ d⟩
     · have hm := mem_listed he
       simp [go_sem, *] at hm
       try exact ⟨_, _, hm⟩
     clear hK K)
  refine goesI_into (f := 54) (fn := Try.f54) (args := #[Pt S.wb 0, .slice p n cap, .func (.func 81) #[Pt (v2.heap.size + 1) 0] #[]]) (dt_idle _ _) rfl rfl (by decide) rfl (by simp [Act.eval]) Try.func54 (by decide) rfl ?_
  refine hk v4 w4 _ _ _ _ _ _ _ _ _ _ _ hr4 hn4 hset hql rfl (fun Ch Stop w x hg => ?_)
  clear hk hset hr4 hn4 hql
  iterate 2
    (refine goesI_oper rfl rfl (by decide) (fun d K hK => ?_)
     go_simp
     refine hK _ _ ⟨dt_reads (fun e he => ?_), GoesI.at ?_ d⟩
     · have hm := mem_listed he
       simp [go_sem, *] at hm
       try exact ⟨_, _, hm⟩
     clear hK K)
  refine goesI_regionEnd (dt_idle _ _) ?_
  refine GoesI.ctl rfl (fun _ => stepG_ret') (dt_idle _ _) ?_
  refine goesI_leave (b := base 52) (fn := Try.f52) (v := .tuple #[x, I 0]) rfl rfl Try.func52 (fun w => ?_) (fun w => by simp [results, go_sem, Try.f52]) hoc (dt_idle _ _) ?_
  · rw [results_tmp2 (t := 6) (u := 7) rfl]
    simp
  · have := hg w.drawn
    exact this

section
variable {S : TS} {n sb so cap : Nat} {pc : Nat → Option Addr} {ln cp rb : Nat → Nat} {cl : Nat → List Cl}
/-- chain.Play, whole, by the machine. -/
theorem cplay_all (s : Nat) (h0 : 0 < s) (h1 : s ≤ 100) {cs : List Frame} {bc : Frame} {ac : Act} {ops : Array Oper} {q0 : Nat} {rest : List Nat} {oc : Oper} {k0 : List Item} (hoc : ops[q0]? = some oc) {w : World} {T : Trace} {gs : Array Goroutine} {q : Nat → Nat} (sl : Option (Nat × Nat)) (NT : Nat) (A : Alone gs w T q)
    (hg : gs[0]? = some (G ((base 52).at { tmps := #[Pt S.wb 0, I s, .slice (some ⟨sb, so, none⟩) n cap] ++ Array.replicate 25 undef, defers := [] } [.code B8c]) (bc.at ac (.inRegion ops (q0 :: rest) :: k0) :: cs)))
    (hm : Mem zn S [] w) (hthr : S.thr = []) (hran : S.ran = false) (hch : S.chg = []) (hbk : Open w S.bk) (t : Asked w S n sb so pc ln cp rb cl) (hn8 : 0 < n ∧ n ≤ 8)
    (hlen : ∀ caps pk N K, S.n + 2 * lens (scrs (mcH s) 81 caps pk N n K pc ln cp rb cl) ≤ 1000000) (hsl : S.sched.length ≤ 4611686018427387904) (hsc : ∀ x ∈ S.sched, -9223372036854775808 ≤ x ∧ x < 9223372036854775808) (l0 : Nat → Ph)
    (hturn : ∀ (caps : Array Value) (pk : Nat → Option Obj) (N : Nat) (cv : Value) (K : List (Nat × Int)), K.map (·.2) = List.replicate s 0 → ∀ S1 l1, Hires (mcH s) 0 (scrs (mcH s) 81 caps pk N n K pc ln cp rb cl) (nv { cellsS S cv (List.replicate s (0 : Int)).length with ran := true }) l0 S1 l1 → ∃ m p', m ≤ NT ∧ Turns (mcH s) m ⟨S1, K, l1⟩ p' ∧ p'.S.n * 40 ≤ 140737488355328) :
    ∃ (N' : Nat) (gs' : Array Goroutine) (w' : World) (sl' : Option (Nat × Nat)) (T' : Trace) (q' : Nat → Nat) (caps : Array Value) (pk : Nat → Option Obj) (N : Nat) (cv : Value) (K : List (Nat × Int)) (S' : TS) (S1 : TS) (l1 : Nat → Ph) (m : Nat) (p' : PSt),
      runNT Try.prog N' (crowd gs w sl) T = (.next (crowd gs' w' sl'), T') ∧ gs'.size = gs.size + n ∧ gs'[0]? = some (G (bc.at (ac.put oc.dst (.tuple #[.slice (some ⟨N + 1, 0, none⟩) n n, I 0])) (.inRegion ops rest :: k0)) cs) ∧
      Alone gs' w' T' q' ∧ K.map (·.2) = List.replicate s 0 ∧ nv S' = p'.S ∧ Hires (mcH s) 0 (scrs (mcH s) 81 caps pk N n K pc ln cp rb cl) (nv { cellsS S cv (List.replicate s (0 : Int)).length with ran := true }) l0 S1 l1 ∧ Turns (mcH s) m ⟨S1, K, l1⟩ p' ∧ GOut w S n ln N S' p'.K p'.l w' := by
  refine gplay_all (xs := List.replicate s 0) (cap := cap) (q0 := q0) (pkgH s) (mineH s) (kokH s) sl NT A hg ?_ hm hthr hran hbk t hn8 hlen hsl hsc l0 hturn
  exact cplay_in s h0 h1 (Objs.startG (pk := fun _ => none) hm hch (fun _ _ h => by cases h) (fun _ h => absurd rfl h) (fun _ _ h => by cases h)) (fun b hb => absurd rfl hb) (some ⟨sb, so, none⟩) n cap hn8 hran pc ln cp (fun k hk => ⟨sb, so, rfl, t.row k hk⟩) (fun k hk => (t.len k hk).2) cs hoc (Rel.refl w) (fun c hc => hc.elim)
    (fun v' w' bd ad od qd rd oe kd caps pk S1 K hr hn ho hq hoe hback => GoesI.stop fun d => ⟨bd, ad, od, qd, rd, oe, kd, caps, pk, S1, K, ho.same hr.eq hr.os hr.output, hq, hoe, hback, rfl⟩)
end
end Go.Proofs.Ytfjjoohflcchnaa.Gen

namespace Go.Proofs.Ytfjjoohflcchnaa.Gen
open Go Go.Lift Go.Conc Go.RowKit
variable {mc : Mc}

theorem turns_det : ∀ {m m' : Nat} {p p1 p2 : PSt}, Turns mc m p p1 → Turns mc m' p p2 → p1 = p2
  | _, _, _, _, _, .stop h, .stop h' => rfl
  | _, _, _, _, _, .stop h, .step h' _ => by rw [h] at h'; cases h'
  | _, _, _, _, _, .step h _, .stop h' => by rw [h] at h'; cases h'
  | _, _, _, _, _, .step h t, .step h' t' => by
    rw [h] at h'
    cases h'
    exact turns_det t t'
def pt (mc : Mc) (p : PSt) : PSt := (pturn mc p).getD p
def pts (mc : Mc) : Nat → PSt → PSt
  | 0, p => p
  | n + 1, p => pts mc n (pt mc p)
def runs (mc : Mc) : Nat → PSt → Bool
  | 0, p => (pturn mc p).isNone
  | n + 1, p => (pturn mc p).isSome && runs mc n (pt mc p)
theorem turns_of : ∀ (n : Nat) (p : PSt), runs mc n p = true → Turns mc n p (pts mc n p)
  | 0, p, h => by
    refine .stop ?_
    cases hp : pturn mc p with
    | none => rfl
    | some x => unfold runs at h; rw [hp] at h; cases h
  | n + 1, p, h => by
    unfold runs at h
    rw [Bool.and_eq_true] at h
    refine .step ?_ (turns_of n (pt mc p) h.2)
    unfold pt
    cases hp : pturn mc p with
    | none => rw [hp] at h; cases h.1
    | some x => rfl
end Go.Proofs.Ytfjjoohflcchnaa.Gen

namespace Go.Proofs.Ytfjjoohflcchnaa.Gen
open Go Go.Lift Go.Conc Go.RowKit
open Go.ConcN (upd upd_same upd_ne)

def clsH : List Cl := [⟨1, 0, 1, 0⟩, ⟨1, 1, 2, 0⟩, ⟨1, 2, 0, 0⟩]
/-- The world ahead of the hiring. -/
def awSH (wb bk base : Nat) (sc cv : Value) (k : Nat) : TS := nv { cellsS (newS wb bk base sc []) cv k with ran := true }
def awPH (wb bk base : Nat) (sc cv : Value) (tv0 : Value) (tb0 gc0 : Nat) (c0 c1 c2 : Nat) (l0 : Nat → Ph) : PSt :=
  ⟨(flow 0 (mcH 3) clsH 0 false [(0, 0), (0, 0), (0, 0)] (hiredS (awSH wb bk base sc cv 3) tv0 tb0 gc0)).1, [(c0, 0), (c1, 0), (c2, 0)], upd l0 0 (flow 0 (mcH 3) clsH 0 false [(0, 0), (0, 0), (0, 0)] (hiredS (awSH wb bk base sc cv 3) tv0 tb0 gc0)).2⟩
section
variable (wb bk base : Nat) (sc cv : Value) (tv0 : Value) (tb0 gc0 : Nat) (c0 c1 c2 : Nat) (l0 : Nat → Ph)
set_option maxRecDepth 100000
theorem awh_runs : runs (mcH 3) 7 (awPH wb bk base sc cv tv0 tb0 gc0 c0 c1 c2 l0) = true := by kernel_rfl
theorem awh_n : (pts (mcH 3) 7 (awPH wb bk base sc cv tv0 tb0 gc0 c0 c1 c2 l0)).S.n = 13 := by kernel_rfl
theorem awh_ans : ((pts (mcH 3) 7 (awPH wb bk base sc cv tv0 tb0 gc0 c0 c1 c2 l0)).l 0).ans = [(0, 0), (0, 0), (0, 1)] := by kernel_rfl
end
end Go.Proofs.Ytfjjoohflcchnaa.Gen

namespace Go.Proofs.Ytfjjoohflcchnaa.Gen
open Go Go.Lift Go.Conc Go.RowKit


/-- A free thread, and a cell of no world. -/
structure Fm (tb cb : Nat) (x : Int) (v : World) : Prop where
  thr : v.cell? ⟨tb, 0, none⟩ = some (.pointer none)
  ne : tb ≠ cb
  cel : v.heap[cb]? = some (.cells #[I 0, I x] 94 (0, 0))
structure Fto (tb cb : Nat) (x : Int) (v v' : World) : Prop where
  fm : Fm tb cb x v'
  old : ∀ b, b ≠ cb → v'.heap[b]? = v.heap[b]?
  size : v'.heap.size = v.heap.size
  os : v'.os = v.os
  out : v'.output = v.output
section
variable {tb cb : Nat} {x y : Int} {v v' v'' : World}
theorem Fm.cells (h : Fm tb cb x v) : v.cell? ⟨tb, 0, none⟩ = some (.pointer none) ∧ v.cell? ⟨cb, 0, none⟩ = some (I 0) ∧ v.cell? ⟨cb, 1, none⟩ = some (I x) ∧ v.frozen? ⟨cb, 1, none⟩ = false := by
  refine ⟨h.thr, ?_, ?_, ?_⟩
  · unfold World.cell?; rw [show v.heap[cb]? = _ from h.cel]; rfl
  · unfold World.cell?; rw [show v.heap[cb]? = _ from h.cel]; rfl
  · unfold World.frozen?; rw [show v.heap[cb]? = _ from h.cel]; rfl
theorem Fm.same (h : Fm tb cb x v) (e : v'.heap = v.heap) : Fm tb cb x v' := ⟨by rw [World.cell?_of_block (w := v) (by rw [e])]; exact h.thr, h.ne, by rw [e]; exact h.cel⟩
theorem Fto.refl (h : Fm tb cb x v) : Fto tb cb x v v := ⟨h, fun _ _ => rfl, rfl, rfl, rfl⟩
theorem Fto.same (h : Fto tb cb x v v') (e1 : v''.heap = v'.heap) (e2 : v''.os = v'.os) (e3 : v''.output = v'.output) : Fto tb cb x v v'' :=
  ⟨h.fm.same e1, fun b hb => by rw [e1]; exact h.old b hb, by rw [e1]; exact h.size, e2.trans h.os, e3.trans h.out⟩
theorem Fto.set (h : Fm tb cb x v) (y : Int) : Fto tb cb y v (v.setCell ⟨cb, 1, none⟩ (I y)) :=
  ⟨⟨by rw [World.cell?_of_block (Below.heap_setCell _ _ _ _ h.ne)]; exact h.thr, h.ne, heap_setCell_same h.cel _⟩, fun b hb => Below.heap_setCell _ _ _ _ hb, by simp [World.setCell], rfl, rfl⟩
theorem Fto.base (h : Fto tb cb x v v') (e1 : v.heap = v''.heap) (e2 : v.os = v''.os) (e3 : v.output = v''.output) : Fto tb cb x v'' v' :=
  ⟨h.fm, fun b hb => by rw [← e1]; exact h.old b hb, by rw [← e1]; exact h.size, h.os.trans e2, h.out.trans e3⟩

theorem body27f (tb : Nat) (b a : Int) (v : World) (h : v.cell? ⟨tb, 0, none⟩ = some (.pointer none)) : Body Try.f61 #[Pt tb 0, I b, I a] v (fun r v' => r = .tuple #[] ∧ v' = v) := by
  intro code hb
  obtain rfl := Option.some.inj hb
  clear hb
  simp only [Try.ntmps61, List.size_toArray, List.length_cons, List.length_nil, Nat.reduceAdd, Nat.reduceSub, Array.replicate_succ, Array.replicate_zero, List.push_toArray, List.append_toArray, List.nil_append, List.cons_append]
  go_wp2_with fail
  exact ⟨rfl, _, results_none rfl _ _ _, _, rfl, rfl, rfl⟩
end

set_option maxHeartbeats 1000000 in
set_option maxRecDepth 100000 in
theorem free26 {Ch : Nat → Prop} {Stop : Goroutine → World → Prop} {main : Bool} {v w : World} (tb : Nat) (c o : Int) (ht : v.cell? ⟨tb, 0, none⟩ = some (.pointer none)) (cs : List Frame) {bc : Frame} {ac : Act} {ops : Array Oper} {q : Nat} {rest : List Nat} {oc : Oper} {k : List Item} (hoc : ops[q]? = some oc) (hvw : Rel zn v w) (hn : NoRow Ch v)
    (hk : ∀ w', Rel zn v w' → GoesI Try.prog main (DT (ScZ zn) Ch) Stop (G (bc.at (ac.put oc.dst (.tuple #[])) (.inRegion ops rest :: k)) cs) w') (code : Code) (hc : Try.f60.body = some code) :
    GoesI Try.prog main (DT (ScZ zn) Ch) Stop (G ((base 60).at { tmps := #[Pt tb 0, I c, I o] ++ Array.replicate 12 undef, defers := [] } [.code code]) (bc.at ac (.inRegion ops (q :: rest) :: k) :: cs)) w := by
  obtain rfl := Option.some.inj hc
  clear hc
  have e0 : w.cell? ⟨tb, 0, none⟩ = some (.pointer none) := by rw [hvw.cell?]; exact ht
  simp only [Array.replicate_succ, Array.replicate_zero, List.push_toArray, List.append_toArray, List.nil_append, List.cons_append]
  refine goesI_seq (dt_idle _ _) ?_
  refine goesI_region (dt_idle _ _) ?_
  simp only [List.size_toArray, List.length_cons, List.length_nil, Nat.reduceAdd, Nat.zero_add, List.range, List.range.loop]
  iterate 4
    (refine goesI_oper rfl rfl (by decide) (fun d K hK => ?_)
     go_simp
     refine hK _ _ ⟨dt_reads (fun e he => ?_), GoesI.at ?_ d⟩
     · have hm := mem_listed he
       simp [go_sem, *] at hm
       try exact ⟨_, _, hm⟩
     clear hK K)
  refine goesI_opZ (L := LT) rfl rfl (by decide) (fineOp_ask callT extT (by kernel_rfl)) hvw hn (v' := v) (x := .bool false) (by go_simp) rfl (fun w2 hr2 hn2 => ?_)
  refine goesI_regionEnd (dt_idle _ _) ?_
  refine goesI_cond (dt_idle _ _) (t := false) rfl ?_
  refine goesI_skip (dt_idle _ _) ?_
  refine goesI_end (dt_idle _ _) ?_
  exact goesI_leave (b := base 60) (fn := Try.f60) rfl rfl Try.func60 (res26 _) (ev26 _) hoc (dt_idle _ _) (hk w2 hr2)
set_option maxHeartbeats 1000000 in
set_option maxRecDepth 100000 in
theorem tailF17 {v : World} {tb cb : Nat} {x : Int} (hm : Fm tb cb x v) (a6 a7 a8 a9 a10 a11 : Value) :
    rest17.wp Try.prog (bodyPost Try.prog Try.f28 (fun e w' => ∃ r, e = .returned r ∧ (r = (effLoad x).2.2 ∧ Fto tb cb (effLoad x).2.1 v w')))
      { tmps := #[Pt cb 0, Pt tb 0, undef, undef, I 0, undef, a6, a7, a8, a9, a10, a11, undef, undef, undef, undef, undef, undef, undef, undef, undef], defers := [] } v := by
  obtain ⟨c0, _, c1, f1⟩ := hm.cells
  have HM : Hid (Fm tb cb x v) := ⟨hm⟩
  have HT : Hid (v.cell? ⟨tb, 0, none⟩ = some (.pointer none)) := ⟨by exact c0⟩
  clear hm
  show Code.wp Try.prog (seq2 (seq2 (Try.f28.body.getD .skip))) _ _ _
  unfold Try.f28 seq2
  simp only [Option.getD_some]
  go_wp2_with (first
    | (go_at_call 63; refine ((body29 cb x _ c1).calls Try.func63 rfl).mono ?_; rintro e w1 ⟨_, rfl, rfl, rfl⟩)
    | (go_at_call 61; refine ((body27f tb x x _ HT.out).calls Try.func61 rfl).mono ?_; rintro e w2 ⟨_, rfl, rfl, rfl⟩))
  go_ret
  exact ⟨_, rfl, rfl, Fto.refl HM.out⟩

set_option maxHeartbeats 1000000 in
set_option maxRecDepth 100000 in
theorem free17 {Ch : Nat → Prop} {Stop : Goroutine → World → Prop} {main : Bool} {v w : World} {tb cb : Nat} (x : Int) (cs : List Frame) {bc : Frame} {ac : Act} {ops : Array Oper} {q : Nat} {rest : List Nat} {oc : Oper} {k : List Item} (hoc : ops[q]? = some oc)
    (hvw : Rel zn v w) (hn : NoRow Ch v) (hm : Fm tb cb x v)
    (hk : ∀ v' w', Rel zn v' w' → NoRow Ch v' → Fto tb cb (effLoad x).2.1 v v' → GoesI Try.prog main (DT (ScZ zn) Ch) Stop (G (bc.at (ac.put oc.dst (effLoad x).2.2) (.inRegion ops rest :: k)) cs) w') (code : Code) (hc : Try.f28.body = some code) :
    GoesI Try.prog main (DT (ScZ zn) Ch) Stop (G ((base 28).at { tmps := #[Pt cb 0, Pt tb 0] ++ Array.replicate 19 undef, defers := [] } [.code code]) (bc.at ac (.inRegion ops (q :: rest) :: k) :: cs)) w := by
  obtain rfl := Option.some.inj hc
  clear hc
  have e0 : w.cell? ⟨cb, 0, none⟩ = some (I 0) := by rw [hvw.cell?]; exact hm.cells.2.1
  simp only [Array.replicate_succ, Array.replicate_zero, List.push_toArray, List.append_toArray, List.nil_append, List.cons_append]
  have HM : Hid (Fm tb cb x v) := ⟨hm⟩
  clear hm
  refine goesI_seq (dt_idle _ _) ?_
  refine goesI_region (dt_idle _ _) ?_
  simp only [List.size_toArray, List.length_cons, List.length_nil, Nat.reduceAdd, Nat.zero_add, List.range, List.range.loop]
  (refine goesI_oper rfl rfl (by decide) (fun d K hK => ?_)
   go_simp
   refine hK _ _ ⟨dt_reads (fun e he => ?_), GoesI.at ?_ d⟩
   · have hm := mem_listed he
     simp [go_sem, *] at hm
   clear hK K)
  refine goesI_regionEnd (dt_idle _ _) ?_
  refine goesI_seq (dt_idle _ _) ?_
  refine goesI_region (dt_idle _ _) ?_
  simp only [List.size_toArray, List.length_cons, List.length_nil, Nat.reduceAdd, Nat.zero_add, List.range, List.range.loop]
  iterate 5
    (refine goesI_oper rfl rfl (by decide) (fun d K hK => ?_)
     go_simp
     refine hK _ _ ⟨dt_reads (fun e he => ?_), GoesI.at ?_ d⟩
     · have hm := mem_listed he
       simp [go_sem, *] at hm
       try exact ⟨_, _, hm⟩
     clear hK K)
  refine goesI_into (f := 60) (fn := Try.f60) (args := #[Pt tb 0, I 0, I 1]) (dt_idle _ _) rfl rfl (by decide) rfl (by simp [Act.eval]) Try.func60 (by decide) rfl ?_
  refine free26 tb 0 1 HM.out.cells.1 _ rfl hvw hn (fun w1 hr1 => ?_) _ rfl
  clear e0 hvw
  refine goesI_regionEnd (dt_idle _ _) ?_
  refine goesI_rest (f := 28) (fn := Try.f28) (c := rest17) hE fineT hr1 hn Try.func28 fine17 rfl hoc res17 (fun τ => ?_) (fun r v' w' hR hr' hn' => ?_) (R := fun r w' => r = (effLoad x).2.2 ∧ Fto tb cb (effLoad x).2.1 v w')
  · exact wp_mono (tailF17 (HM.out.same (v' := onTape v τ 0) rfl) _ _ _ _ _ _) (bp_mono fun r u hq => ⟨hq.1, hq.2.base rfl rfl rfl⟩)
  · obtain ⟨rfl, he⟩ := hR
    exact hk v' w' hr' hn' he

theorem body24n (v : World) : Body Try.f58 #[.pointer none] v (fun r v' => r = I 0 ∧ v' = v) := by
  intro code hb
  obtain rfl := Option.some.inj hb
  clear hb
  simp only [Try.ntmps58, List.size_toArray, List.length_cons, List.length_nil, Nat.reduceAdd, Nat.reduceSub, Array.replicate_succ, Array.replicate_zero, List.push_toArray, List.append_toArray, List.nil_append, List.cons_append]
  go_wp2_with fail
  go_ret
  exact ⟨_, rfl, rfl, rfl⟩
set_option maxHeartbeats 2000000 in
set_option maxRecDepth 100000 in
theorem body10n (v : World) (x : Int) : Body Try.f21 #[.pointer none, I x] v (fun r v' => r = Pt v.heap.size 0 ∧ v'.heap = v.heap.push (.cells #[I 0, I x] 94) ∧ v'.os = v.os ∧ v'.output = v.output) := by
  intro code hb
  obtain rfl := Option.some.inj hb
  clear hb
  simp only [Try.ntmps21, List.size_toArray, List.length_cons, List.length_nil, Nat.reduceAdd, Nat.reduceSub, Array.replicate_succ, Array.replicate_zero, List.push_toArray, List.append_toArray, List.nil_append, List.cons_append]
  go_wp2_with (first
    | (go_at_call 58; refine ((body24n v).calls Try.func58 rfl).mono ?_; rintro e w1 ⟨r1, rfl, rfl, rfl⟩)
    | (go_at_call 59
       have hb : (w1.alloc (.cells #[I 0, I 0] 94)).heap[w1.heap.size]? = some (.cells #[I 0, I 0] 94) := Array.getElem?_push_size
       refine ((body25 w1.heap.size 0 x _ (by unfold World.cell?; rw [hb]; rfl) (by unfold World.frozen?; rw [hb]; rfl)).calls Try.func59 rfl).mono ?_; rintro e w2 ⟨r2, rfl, rfl, rfl⟩))
  go_ret
  exact ⟨_, rfl, rfl, rfl, rfl, rfl⟩
set_option maxHeartbeats 2000000 in
set_option maxRecDepth 100000 in
theorem body11 (v : World) (i : Int) : Body Try.f22 #[I i] v (fun r v' => r = Pt v.heap.size 0 ∧ v'.heap = v.heap.push (.cells #[.pointer none, I i, .chan none, I 0, I 0, I 0, I 0] 97) ∧ v'.os = v.os ∧ v'.output = v.output) := by
  intro code hb
  obtain rfl := Option.some.inj hb
  clear hb
  simp only [Try.ntmps22, List.size_toArray, List.length_cons, List.length_nil, Nat.reduceAdd, Nat.reduceSub, Array.replicate_succ, Array.replicate_zero, List.push_toArray, List.append_toArray, List.nil_append, List.cons_append]
  go_wp2_with fail
  go_ret
  exact ⟨_, rfl, rfl, rfl, rfl, rfl⟩
section
variable {tb c c' : Nat} {x y : Int} {v v' v'' : World}
theorem Fto.stay (h : Fto tb c x v v') (m : Fm tb c x v) : v'.heap = v.heap := by
  apply Array.ext_getElem?
  intro b
  by_cases e : b = c
  · rw [e, h.fm.cel, m.cel]
  · exact h.old b e
theorem Fto.other (h : Fto tb c x v v') (m : Fm tb c' y v) (hne : c' ≠ c) : Fm tb c' y v' := ⟨h.fm.thr, m.ne, by rw [h.old c' hne]; exact m.cel⟩
theorem Fto.cell (h : Fto tb c x v v') {b j : Nat} {u : Value} (hb : b ≠ c) (hc : v.cell? ⟨b, j, none⟩ = some u) : v'.cell? ⟨b, j, none⟩ = some u := by
  rw [World.cell?_of_block (w := v) (w' := v') (h.old b hb)]; exact hc
theorem Fto.then (h : Fto tb c x v v') (k : Fto tb c' y v' v'') (m : Fm tb c' y v') : Fto tb c x v v'' := h.same (k.stay m) k.os k.out
end
end Go.Proofs.Ytfjjoohflcchnaa.Gen
