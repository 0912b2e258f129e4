/- ChainTrue: who is told of a ring lies on one; no call takes longer than it may; whatever the schedule, the number of keys and the scripts. Part 32 of 36. (Joined, by program, of: ChN, ChY, GPts, ChAw1.) -/
import Derived.Test.YtfjjoohflcchnaaChainTrue18
import Derived.Test.YtfjjoohflcchnaaChainTrue24
import Derived.Test.YtfjjoohflcchnaaChainTrue26
import Derived.Test.YtfjjoohflcchnaaChainTrue31
import Derived.KernelRfl
set_option linter.unusedSimpArgs false
set_option linter.unusedVariables false
namespace Go.Proofs.Ytfjjoohflcchnaa.Gen
open Go Go.Lift Go.Conc Go.RowKit

section
variable {v u u' : World} {S S1 : TS} {K : List (Nat × Int)} {xs : List Int} {pk : Nat → Option Obj}
/-- A row of the objects' own is written. -/
theorem Objs.set (h : Objs v S xs pk S1 K u) {b : Nat} {o o' : Obj} (hb : pk b = some o) (hvb : v.heap.size ≤ b) (hw : ∀ x, x ≠ b → u'.heap[x]? = u.heap[x]?) (hn : u'.heap[b]? = some o') (hs : u'.heap.size = u.heap.size) (e1 : u'.os = u.os) (e2 : u'.output = u.output) (hr : ∃ c e f, o' = .cells c e f) : Objs v S xs (padd pk b o') S1 K u' := by
  have ho := (h.new b (by rw [hb]; simp)).2
  have em := h.cel.mem.other (v' := u') ho hw hs e1 e2
  refine ⟨⟨em.mem, ⟨e1.trans h.cel.fr.os, e2.trans h.cel.fr.output, by rw [hs]; exact h.cel.fr.size, fun x hx hn => by rw [hw x (by omega)]; exact h.cel.fr.block x hx hn⟩, h.cel.own⟩, h.vals, h.st, fun x y hx => ?_, fun x hx => ?_, fun x y hx => ?_⟩
  · by_cases e : x = b
    · subst e; rw [padd_at] at hx; cases hx; exact hn
    · rw [padd_ne e] at hx; rw [hw x e]; exact h.has x y hx
  · by_cases e : x = b
    · subst e; exact h.new x (by rw [hb]; simp)
    · rw [padd_ne e] at hx; exact h.new x hx
  · by_cases e : x = b
    · subst e; rw [padd_at] at hx; cases hx; exact hr
    · rw [padd_ne e] at hx; exact h.row x y hx
end
theorem padd_padd (pk : Nat → Option Obj) (b : Nat) (o o' : Obj) : padd (padd pk b o) b o' = padd pk b o' := by
  funext x; unfold padd; split <;> rfl
theorem padd_comm {pk : Nat → Option Obj} {b c : Nat} (h : b ≠ c) (o o' : Obj) : padd (padd pk b o) c o' = padd (padd pk c o') b o := by
  funext x
  unfold padd
  by_cases h1 : x = c
  · subst h1
    rw [if_pos rfl, if_neg (fun e => h e.symm), if_pos rfl]
  · by_cases h2 : x = b
    · subst h2
      rw [if_neg h1, if_pos rfl, if_pos rfl]
    · rw [if_neg h1, if_neg h2, if_neg h2, if_neg h1]

theorem info63 : (Try.prog.info? 44).map (fun i => (i.zero, i.size, i.bytes)) = some (some (.pointer none), 1, 8) := by kernel_rfl
theorem make_ptrs (n : Nat) (hn : n ≤ 1048576) (w : World) :
    (Instr.makeSlice 85 (.int .i64 (n : Int)) (.int .i64 (n : Int))).run Try.prog w = .ok (.slice (some ⟨w.heap.size, 0, none⟩) n n) (w.alloc (.cells (madeCells #[.pointer none] n) 44)) := by
  cases hq : Try.prog.info? 44 with
  | none => have := info63; rw [hq] at this; cases this
  | some i =>
    have hi := info63
    rw [hq] at hi
    simp only [Option.map_some, Option.some.injEq, Prod.mk.injEq] at hi
    obtain ⟨hz, hs, hb⟩ := hi
    have := run_make (P := Try.prog) w 85 44 i _ Try.underlying85 hq hz .i64 .i64 (n : Int) (n : Int) (by omega) (by omega) (by rw [hb]; omega) (by omega)
    rw [hs] at this
    rw [this]
    simp [Value.cells]
/-- The row of shards, of which the first are there. -/
def rowP (s : Nat) (K : List (Nat × Int)) : List Value := (List.range s).map fun j => match K[j]? with | some c => Pt c.1 0 | none => .pointer none
def objP (s : Nat) (K : List (Nat × Int)) : Obj := .cells (rowP s K).toArray 44 (0, 0)
theorem made_rowP (s : Nat) : (.cells (madeCells #[.pointer none] s) 44 : Obj) = objP s [] := by
  unfold objP rowP
  congr 1
  apply Array.ext_getElem?
  intro i
  by_cases h : i < s
  · simp [madeCells, h, Nat.mod_one]
  · simp [madeCells, h]
theorem rowP_next {s : Nat} {K : List (Nat × Int)} (c : Nat × Int) (hK : K.length < s) : (rowP s K).toArray.setIfInBounds K.length (Pt c.1 0) = (rowP s (K ++ [c])).toArray := by
  apply Array.ext_getElem?
  intro i
  unfold rowP
  rw [Array.getElem?_setIfInBounds]
  by_cases h : K.length = i
  · subst h
    simp [hK]
  · rw [if_neg h]
    by_cases hi : i < s
    · by_cases hlt : i < K.length
      · have e2 : (K ++ [c])[i]? = K[i]? := List.getElem?_append_left hlt
        simp [hi, e2]
      · have h1 : K[i]? = none := List.getElem?_eq_none (by omega)
        have h2 : (K ++ [c])[i]? = none := List.getElem?_eq_none (by simp; omega)
        simp [hi, h1, h2]
    · simp [hi]
theorem objP_at {s k : Nat} {K : List (Nat × Int)} {w : World} {N : Nat} (h : w.heap[N]? = some (objP s K)) (hK : K.length = k) (hk : k < s) : w.cell? ⟨N, k, none⟩ = some (.pointer none) ∧ w.frozen? ⟨N, k, none⟩ = false := by
  constructor
  · refine cell_of h ?_
    unfold rowP
    have : K[k]? = none := List.getElem?_eq_none (by omega)
    simp [hk, this]
  · simp only [World.frozen?, h, objP]
    simp
/-- What a chain's threads read. -/
noncomputable def pkN (pk0 : Nat → Option Obj) (s N : Nat) (K : List (Nat × Int)) : Nat → Option Obj := padd (padd pk0 (N + 1) (.cells #[.slice (some ⟨N, 0, none⟩) s s] 144 (0, 0))) N (objP s K)

set_option maxHeartbeats 4000000 in
set_option maxRecDepth 100000 in
theorem body12 {v : World} {S : TS} {pk0 : Nat → Option Obj} (hO : Objs v S [] pk0 S [] v) (hlt : ∀ b, pk0 b ≠ none → b < v.heap.size) (s : Nat) (h0 : 0 < s) (h1 : s ≤ 100) : Body Try.f79 #[Pt S.wb 0, I s] v (fun r v' => r = Pt (v.heap.size + 1) 0 ∧ ∃ S1 K, K.length = s ∧ Objs v S (List.replicate s 0) (pkN pk0 s v.heap.size K) S1 K v') := by
  intro code hb
  obtain rfl := Option.some.inj hb
  clear hb
  have hmk := make_ptrs s (by omega)
  rw [made_rowP] at hmk
  have hmx : (Builtin.max_ #[3, 3] 3 #[I s, I 0]) = pure (I s) := by
    show (pure (Value.int .i64 (if (0 : Int) > s then 0 else s)) : Sem Value) = _
    rw [if_neg (by omega)]
  have hmn : (Builtin.min_ #[3, 3] 3 #[I s, I 100]) = pure (I s) := by
    show (pure (Value.int .i64 (if (100 : Int) < s then 100 else s)) : Sem Value) = _
    rw [if_neg (by omega)]
  have HO : Hid (Objs v S [] pk0 S [] v) := ⟨hO⟩
  have HL : Hid (∀ b, pk0 b ≠ none → b < v.heap.size) := ⟨hlt⟩
  clear hO hlt
  simp only [Try.ntmps79, List.size_toArray, List.length_cons, List.length_nil, Nat.reduceAdd, Nat.reduceSub, Array.replicate_succ, Array.replicate_zero, List.push_toArray, List.append_toArray, List.nil_append, List.cons_append]
  go_wp2_with fail
  go_loopw [18] (fun i u => ∃ (k : Nat) (K : List (Nat × Int)) (S1 : TS), k ≤ s ∧ i = .int .i64 k ∧ K.length = k ∧ Objs v S (List.replicate k 0) (pkN pk0 s v.heap.size K) S1 K u) (fun i _ => s - (intOf i).toNat)
  case atStart =>
    refine ⟨0, [], S, Nat.zero_le _, rfl, rfl, ?_⟩
    have o1 := HO.out.push (u' := v.alloc (objP s [])) (c := (rowP s []).toArray) (t := 44) rfl rfl rfl
    have o2 := o1.push (u' := (v.alloc (objP s [])).alloc (.cells #[.slice (some ⟨v.heap.size, 0, none⟩) s s] 144)) (c := #[.slice (some ⟨v.heap.size, 0, none⟩) s s]) (t := 144) rfl rfl rfl
    have hsz : (v.alloc (objP s [])).heap.size = v.heap.size + 1 := by simp
    rw [hsz, padd_comm (by omega)] at o2
    exact o2
  case round =>
    obtain ⟨k, K, S1, hk, rfl, hK, hO⟩ := hrel
    have HOB : Hid (Objs v S (List.replicate k 0) (pkN pk0 s v.heap.size K) S1 K wr) := ⟨hO⟩
    by_cases hlt : k < s
    · have hN := hO.has v.heap.size (objP s K) (by unfold pkN; rw [padd_at])
      have hN1 := hO.has (v.heap.size + 1) (.cells #[.slice (some ⟨v.heap.size, 0, none⟩) s s] 144 (0, 0)) (by unfold pkN; rw [padd_ne (by omega), padd_at])
      have c1 : wr.cell? ⟨v.heap.size + 1, 0, none⟩ = some (.slice (some ⟨v.heap.size, 0, none⟩) s s) := cell_of hN1 rfl
      have hks : (k : Int) < (s : Int) := by omega
      clear hO hN hN1
      generalize hNN : v.heap.size = N at HOB c1
      go_wp2_with fail
      go_region_held3 (fun u => u.cell? ⟨N + 1, 0, none⟩ = some (.slice (some ⟨N, 0, none⟩) s s))
        (first | assumption | (simp [go_sem, *]; done))
        (first
          | (go_at_call 21; refine ((HOB.out.same (u' := wr.drew) rfl rfl rfl).cell 0 (by rw [List.length_replicate]; omega)).mono ?_; rintro e w1 ⟨cb, rfl, hs1, S2, o2⟩
             have HO2 : Hid (Objs v S (List.replicate k 0 ++ [0]) (pkN pk0 s N K) S2 (K ++ [(cb, 0)]) w1) := ⟨o2⟩
             have hN := o2.has N (objP s K) (by unfold pkN; rw [padd_at])
             have hN1 := o2.has (N + 1) (.cells #[.slice (some ⟨N, 0, none⟩) s s] 144 (0, 0)) (by unfold pkN; rw [padd_ne (by omega), padd_at])
             have c2 : w1.cell? ⟨N + 1, 0, none⟩ = some (.slice (some ⟨N, 0, none⟩) s s) := cell_of hN1 rfl
             obtain ⟨c3, c4⟩ := objP_at hN hK hlt
             have HN : Hid (w1.heap[N]? = some (objP s K)) := ⟨hN⟩
             clear o2 hN hN1))
      go_wp2_with fail
      go_roundw
      case rel =>
        refine ⟨k + 1, K ++ [(cb, 0)], S2, by omega, by go_num, by rw [List.length_append, hK]; rfl, ?_⟩
        have oth : ∀ b, b ≠ N → (w1.setCell ⟨N, k, none⟩ (.pointer (some ⟨cb, 0, none⟩))).heap[b]? = w1.heap[b]? := fun b hb => Below.heap_setCell _ _ _ _ hb
        have hrow : (w1.setCell ⟨N, k, none⟩ (.pointer (some ⟨cb, 0, none⟩))).heap[N]? = some (objP s (K ++ [(cb, 0)])) := by
          have := heap_setCell_same (o := k) (show w1.heap[N]? = some (.cells (rowP s K).toArray 44 (0, 0)) from HN.out) (Pt cb 0)
          rw [← hK, rowP_next (cb, 0) (by omega)] at this
          rw [← hK]
          exact this
        have o3 := HO2.out.set (b := N) (o := objP s K) (o' := objP s (K ++ [(cb, 0)])) (by unfold pkN; rw [padd_at]) (by omega) oth hrow (by simp [World.setCell]) rfl rfl ⟨_, _, _, rfl⟩
        rw [List.replicate_succ']
        unfold pkN at o3 ⊢
        rw [padd_padd] at o3
        exact o3
      case measure => simp [intOf]; omega
    · have : k = s := by omega
      subst this
      go_wp2_with fail
      go_ret
      exact ⟨_, rfl, rfl, S1, K, hK, HOB.out⟩
end Go.Proofs.Ytfjjoohflcchnaa.Gen

namespace Go.Proofs.Ytfjjoohflcchnaa.Gen
open Go Go.Lift Go.Conc Go.RowKit

noncomputable def B8c : Code := Try.f52.body.getD .skip
noncomputable def k8c0 : Code := seq1 B8c
noncomputable def k8c1 : Code := seq1 (seq2 B8c)
noncomputable def k8c2 : Code := seq1 (seq2 (seq2 B8c))
noncomputable def R8c : Code := seq2 (seq2 (seq2 B8c))
theorem eB8c : B8c = .seq k8c0 (.seq k8c1 (.seq k8c2 R8c)) := by kernel_rfl
theorem fine_k8c0 : fineCode Try.prog true LV k8c0 := fineCode_askS callV extT (by kernel_rfl)
theorem fine_k8c1 : fineCode Try.prog true LV k8c1 := fineCode_askS callV extT (by kernel_rfl)
theorem fine_k8c2 : fineCode Try.prog true LV k8c2 := fineCode_askS callV extT (by kernel_rfl)

section
variable {S : TS} {v : World} {a : Act} {n cap : Nat} {p : Option Addr} {m : Int}
set_option maxHeartbeats 2000000 in
set_option maxRecDepth 100000 in
theorem k8c0_wp (hA : Fl 28 [(0, Pt S.wb 0), (1, I m), (2, .slice p n cap)] a) : k8c0.wp Try.prog (fun e a w' => e = .normal ∧ Fl 28 [(0, Pt S.wb 0), (1, I m), (2, .slice p n cap), (6, .slice none 0 0), (7, I 0)] a ∧ w'.heap = v.heap ∧ w'.os = v.os ∧ w'.output = v.output) a v := by
  obtain ⟨hsz, hd, hpp⟩ := hA
  obtain ⟨u, rfl, hg⟩ := litN hsz hd
  have u0 := (hg 0).symm.trans (hpp (0, Pt S.wb 0) (by simp))
  have u1 := (hg 1).symm.trans (hpp (1, I m) (by simp))
  have u2 := (hg 2).symm.trans (hpp (2, .slice p n cap) (by simp))
  clear hg hpp hsz hd
  unfold k8c0 B8c Try.f52 seq1
  simp only [Option.getD_some, lits, Nat.reduceAdd, u0, u1, u2]
  clear u0 u1 u2
  go_wp2_with fail
  first
    | exact ⟨rfl, ⟨rfl, rfl, by
        intro p hp
        simp only [List.mem_cons, List.not_mem_nil, or_false] at hp
        rcases hp with rfl | rfl | rfl | rfl | rfl <;> rfl⟩, rfl, rfl, rfl⟩
    | exact ⟨⟨rfl, rfl, by
        intro p hp
        simp only [List.mem_cons, List.not_mem_nil, or_false] at hp
        rcases hp with rfl | rfl | rfl | rfl | rfl <;> rfl⟩, rfl, rfl, rfl⟩
    | exact ⟨rfl, rfl, by
        intro p hp
        simp only [List.mem_cons, List.not_mem_nil, or_false] at hp
        rcases hp with rfl | rfl | rfl | rfl | rfl <;> rfl⟩

set_option maxHeartbeats 2000000 in
set_option maxRecDepth 100000 in
theorem k8c1_no (h : Rep zn S v) (pc : Nat → Option Addr) (ln cp : Nat → Nat) (hs : ∀ k, k < n → ∃ sb so, p = some ⟨sb, so, none⟩ ∧ v.cell? ⟨sb, so + k, none⟩ = some (.slice (pc k) (ln k) (cp k))) (hn : n ≤ 17592186043904) (hr : S.ran = false) {E : Int} (hE : Refused n ln E) (hA : Fl 28 [(0, Pt S.wb 0), (1, I m), (2, .slice p n cap), (6, .slice none 0 0), (7, I 0)] a) :
    k8c1.wp Try.prog (fun e a w' => e = .ret ∧ ∃ x, (results Try.f52 a.tmps).run Try.prog w' = .ok x w' ∧ x = .tuple #[.slice none 0 0, I E] ∧ w'.heap = v.heap ∧ w'.os = v.os ∧ w'.output = v.output) a v := by
  have h19 := (body19 h p n cap hn pc ln cp hs).calls Try.func53 rfl
  have H19 : Hid (Calls Try.prog 53 #[Pt S.wb 0, .slice p n cap] v (fun e w' => e = .returned (I E) ∧ w' = v)) := ⟨h19.mono (by
    rintro e w' ⟨r, rfl, rfl, ⟨hk, rfl⟩ | ⟨hk, rfl⟩⟩
    · rcases hE with ⟨_, rfl⟩ | ⟨h1, _⟩
      · exact ⟨rfl, rfl⟩
      · obtain ⟨k, k1, k2⟩ := hk
        exact absurd (h1 k k1) (by omega)
    · rcases hE with ⟨⟨k, k1, k2⟩, _⟩ | ⟨_, h1, rfl⟩
      · exact absurd (hk k k1) (by omega)
      · refine ⟨?_, rfl⟩
        unfold checkE
        rw [if_pos (h1.imp_right .inl)])⟩
  have hE0 : ¬ E = 0 := by rcases hE with ⟨_, rfl⟩ | ⟨_, _, rfl⟩ <;> decide
  clear h19 h hs hn hr hE
  obtain ⟨hsz, hd, hpp⟩ := hA
  obtain ⟨u, rfl, hg⟩ := litN hsz hd
  have u0 := (hg 0).symm.trans (hpp (0, Pt S.wb 0) (by simp))
  have u1 := (hg 1).symm.trans (hpp (1, I m) (by simp))
  have u2 := (hg 2).symm.trans (hpp (2, .slice p n cap) (by simp))
  have u6 := (hg 6).symm.trans (hpp (6, .slice none 0 0) (by simp))
  have u7 := (hg 7).symm.trans (hpp (7, I 0) (by simp))
  clear hg hpp hsz hd
  unfold k8c1 B8c Try.f52 seq1 seq2
  simp only [Option.getD_some, lits, Nat.reduceAdd, u0, u1, u2, u6, u7]
  clear u0 u1 u2 u6 u7
  go_wp2_with (first
    | (go_at_call 53; refine H19.out.mono ?_; rintro e w1 ⟨rfl, rfl⟩))
  exact results_tmp2 (t := 6) (u := 7) rfl _ _ _
set_option maxHeartbeats 2000000 in
set_option maxRecDepth 100000 in
theorem k8c1_yes (h : Rep zn S v) (pc : Nat → Option Addr) (ln cp : Nat → Nat) (hs : ∀ k, k < n → ∃ sb so, p = some ⟨sb, so, none⟩ ∧ v.cell? ⟨sb, so + k, none⟩ = some (.slice (pc k) (ln k) (cp k))) (hln : ∀ k, k < n → ln k ≤ 64) (hn : 0 < n ∧ n ≤ 8) (hr : S.ran = false) (hA : Fl 28 [(0, Pt S.wb 0), (1, I m), (2, .slice p n cap), (6, .slice none 0 0), (7, I 0)] a) :
    k8c1.wp Try.prog (fun e a w' => e = .normal ∧ Fl 28 [(0, Pt S.wb 0), (1, I m), (2, .slice p n cap), (6, .slice none 0 0), (7, I 0)] a ∧ w'.heap = v.heap ∧ w'.os = v.os ∧ w'.output = v.output) a v := by
  have h19 := (body19 h p n cap (by omega) pc ln cp hs).calls Try.func53 rfl
  have he : checkE n S.ran = 0 := by unfold checkE; rw [if_neg (by rw [hr]; rintro (h | h | h) <;> first | omega | cases h)]
  have H19 : Hid (Calls Try.prog 53 #[Pt S.wb 0, .slice p n cap] v (fun e w' => e = .returned (I 0) ∧ w' = v)) := ⟨h19.mono (by
    rintro e w' ⟨r, rfl, rfl, ⟨⟨k, hk, h1⟩, _⟩ | ⟨_, rfl⟩⟩
    · exact absurd (hln k hk) (by omega)
    · rw [he]; exact ⟨rfl, rfl⟩)⟩
  clear h19 h hs hln hn hr he
  obtain ⟨hsz, hd, hpp⟩ := hA
  obtain ⟨u, rfl, hg⟩ := litN hsz hd
  have u0 := (hg 0).symm.trans (hpp (0, Pt S.wb 0) (by simp))
  have u1 := (hg 1).symm.trans (hpp (1, I m) (by simp))
  have u2 := (hg 2).symm.trans (hpp (2, .slice p n cap) (by simp))
  have u6 := (hg 6).symm.trans (hpp (6, .slice none 0 0) (by simp))
  have u7 := (hg 7).symm.trans (hpp (7, I 0) (by simp))
  clear hg hpp hsz hd
  unfold k8c1 B8c Try.f52 seq1 seq2
  simp only [Option.getD_some, lits, Nat.reduceAdd, u0, u1, u2, u6, u7]
  clear u0 u1 u2 u6 u7
  go_wp2_with (first
    | (go_at_call 53; refine H19.out.mono ?_; rintro e w1 ⟨rfl, rfl⟩))
  first
    | exact ⟨rfl, ⟨rfl, rfl, by
        intro p hp
        simp only [List.mem_cons, List.not_mem_nil, or_false] at hp
        rcases hp with rfl | rfl | rfl | rfl | rfl <;> rfl⟩, rfl, rfl, rfl⟩
    | exact ⟨⟨rfl, rfl, by
        intro p hp
        simp only [List.mem_cons, List.not_mem_nil, or_false] at hp
        rcases hp with rfl | rfl | rfl | rfl | rfl <;> rfl⟩, rfl, rfl, rfl⟩
    | exact ⟨rfl, rfl, by
        intro p hp
        simp only [List.mem_cons, List.not_mem_nil, or_false] at hp
        rcases hp with rfl | rfl | rfl | rfl | rfl <;> rfl⟩

set_option maxHeartbeats 2000000 in
set_option maxRecDepth 100000 in
theorem k8c2_yes (h1 : 1 ≤ m) (h2 : m ≤ 100) (hA : Fl 28 [(0, Pt S.wb 0), (1, I m), (2, .slice p n cap), (6, .slice none 0 0), (7, I 0)] a) : k8c2.wp Try.prog (fun e a w' => e = .normal ∧ Fl 28 [(0, Pt S.wb 0), (1, I m), (2, .slice p n cap), (6, .slice none 0 0), (7, I 0)] a ∧ w'.heap = v.heap ∧ w'.os = v.os ∧ w'.output = v.output) a v := by
  have g1 : decide (m < 1) = false := decide_eq_false (by omega)
  have g2 : decide (m > 100) = false := decide_eq_false (by omega)
  have g3 : ¬ m < 1 := by omega
  have g4 : ¬ m > 100 := by omega
  obtain ⟨hsz, hd, hpp⟩ := hA
  obtain ⟨u, rfl, hg⟩ := litN hsz hd
  have u0 := (hg 0).symm.trans (hpp (0, Pt S.wb 0) (by simp))
  have u1 := (hg 1).symm.trans (hpp (1, I m) (by simp))
  have u2 := (hg 2).symm.trans (hpp (2, .slice p n cap) (by simp))
  have u6 := (hg 6).symm.trans (hpp (6, .slice none 0 0) (by simp))
  have u7 := (hg 7).symm.trans (hpp (7, I 0) (by simp))
  clear hg hpp hsz hd
  unfold k8c2 B8c Try.f52 seq1 seq2
  simp only [Option.getD_some, lits, Nat.reduceAdd, u0, u1, u2, u6, u7]
  clear u0 u1 u2 u6 u7
  go_wp2_with fail
  first
    | exact ⟨rfl, ⟨rfl, rfl, by
        intro p hp
        simp only [List.mem_cons, List.not_mem_nil, or_false] at hp
        rcases hp with rfl | rfl | rfl | rfl | rfl <;> rfl⟩, rfl, rfl, rfl⟩
    | exact ⟨⟨rfl, rfl, by
        intro p hp
        simp only [List.mem_cons, List.not_mem_nil, or_false] at hp
        rcases hp with rfl | rfl | rfl | rfl | rfl <;> rfl⟩, rfl, rfl, rfl⟩
    | exact ⟨rfl, rfl, by
        intro p hp
        simp only [List.mem_cons, List.not_mem_nil, or_false] at hp
        rcases hp with rfl | rfl | rfl | rfl | rfl <;> rfl⟩

set_option maxHeartbeats 2000000 in
set_option maxRecDepth 100000 in
theorem k8c2_no1 (h1 : m < 1) (hA : Fl 28 [(0, Pt S.wb 0), (1, I m), (2, .slice p n cap), (6, .slice none 0 0), (7, I 0)] a) : k8c2.wp Try.prog (fun e a w' => e = .ret ∧ ∃ x, (results Try.f52 a.tmps).run Try.prog w' = .ok x w' ∧ x = .tuple #[.slice none 0 0, I 1] ∧ w'.heap = v.heap ∧ w'.os = v.os ∧ w'.output = v.output) a v := by
  have g1 : decide (m < 1) = true := decide_eq_true h1
  obtain ⟨hsz, hd, hpp⟩ := hA
  obtain ⟨u, rfl, hg⟩ := litN hsz hd
  have u0 := (hg 0).symm.trans (hpp (0, Pt S.wb 0) (by simp))
  have u1 := (hg 1).symm.trans (hpp (1, I m) (by simp))
  have u2 := (hg 2).symm.trans (hpp (2, .slice p n cap) (by simp))
  have u6 := (hg 6).symm.trans (hpp (6, .slice none 0 0) (by simp))
  have u7 := (hg 7).symm.trans (hpp (7, I 0) (by simp))
  clear hg hpp hsz hd
  unfold k8c2 B8c Try.f52 seq1 seq2
  simp only [Option.getD_some, lits, Nat.reduceAdd, u0, u1, u2, u6, u7]
  clear u0 u1 u2 u6 u7
  go_wp2_with fail
  exact results_tmp2 (t := 6) (u := 7) rfl _ _ _
set_option maxHeartbeats 2000000 in
set_option maxRecDepth 100000 in
theorem k8c2_no2 (h1 : 100 < m) (hA : Fl 28 [(0, Pt S.wb 0), (1, I m), (2, .slice p n cap), (6, .slice none 0 0), (7, I 0)] a) : k8c2.wp Try.prog (fun e a w' => e = .ret ∧ ∃ x, (results Try.f52 a.tmps).run Try.prog w' = .ok x w' ∧ x = .tuple #[.slice none 0 0, I 1] ∧ w'.heap = v.heap ∧ w'.os = v.os ∧ w'.output = v.output) a v := by
  have g1 : decide (m < 1) = false := decide_eq_false (by omega)
  have g2 : decide (m > 100) = true := decide_eq_true h1
  have g3 : ¬ m < 1 := by omega
  obtain ⟨hsz, hd, hpp⟩ := hA
  obtain ⟨u, rfl, hg⟩ := litN hsz hd
  have u0 := (hg 0).symm.trans (hpp (0, Pt S.wb 0) (by simp))
  have u1 := (hg 1).symm.trans (hpp (1, I m) (by simp))
  have u2 := (hg 2).symm.trans (hpp (2, .slice p n cap) (by simp))
  have u6 := (hg 6).symm.trans (hpp (6, .slice none 0 0) (by simp))
  have u7 := (hg 7).symm.trans (hpp (7, I 0) (by simp))
  clear hg hpp hsz hd
  unfold k8c2 B8c Try.f52 seq1 seq2
  simp only [Option.getD_some, lits, Nat.reduceAdd, u0, u1, u2, u6, u7]
  clear u0 u1 u2 u6 u7
  go_wp2_with fail
  exact results_tmp2 (t := 6) (u := 7) rfl _ _ _
end

/-- What a chain's threads read. -/
def QH (s : Nat) (caps : Array Value) (pk : Nat → Option Obj) (K : List (Nat × Int)) : Prop :=
  0 < s ∧ s ≤ 100 ∧ ∃ pk0 N, caps = #[Pt (N + 1) 0] ∧ pk = pkN pk0 s N K ∧ K.length = s ∧ K.map (·.2) = List.replicate s 0
theorem mineH (s : Nat) (caps : Array Value) (pk : Nat → Option Obj) (K : List (Nat × Int)) (h : QH s caps pk K) (X : Fix (mcH s)) (hf : X.fid = 81) (hc : X.caps = caps) (hp : X.pk = pk) (hk : X.kb = K.map (·.1)) : (pkgH s).Mine X := by
  obtain ⟨h0, h1, pk0, N, rfl, rfl, hK, _⟩ := h
  refine ⟨N + 1, N, hc, fun v hv => ?_⟩
  rw [hp] at hv
  have e0 := hv (N + 1) (.cells #[.slice (some ⟨N, 0, none⟩) s s] 144 (0, 0)) (by unfold pkN; rw [padd_ne (by omega), padd_at])
  have e1 := hv N (objP s K) (by unfold pkN; rw [padd_at])
  refine ⟨cell_of e0 rfl, fun j hj => ?_, h0, h1⟩
  obtain ⟨c, hcj⟩ : ∃ c, K[j]? = some c := ⟨_, List.getElem?_eq_getElem (by omega)⟩
  refine ⟨c.1, by rw [hk, List.getElem?_map, hcj]; rfl, cell_of e1 ?_⟩
  unfold rowP
  simp [hj, hcj]
theorem kokH (s : Nat) (caps : Array Value) (pk : Nat → Option Obj) (K : List (Nat × Int)) (h : QH s caps pk K) : KOk (mcH s) K := by
  obtain ⟨h0, h1, pk0, N, rfl, rfl, hK, hv⟩ := h
  intro j p hp _
  have : (K.map (·.2))[j]? = some p.2 := by rw [List.getElem?_map, hp]; rfl
  rw [hv, List.getElem?_replicate] at this
  split at this
  · have := Option.some.inj this
    omega
  · cases this

set_option maxHeartbeats 2000000 in
set_option maxRecDepth 100000 in
theorem cplay_in {Ch : Nat → Prop} {Stop : Goroutine → World → Prop} {main : Bool} {S : TS} {v w : World} (s : Nat) (h0 : 0 < s) (h1 : s ≤ 100) {pk0 : Nat → Option Obj} (hO : Objs v S [] pk0 S [] v) (hlt : ∀ b, pk0 b ≠ none → b < v.heap.size) (p : Option Addr) (n cap : Nat) (hn8 : 0 < n ∧ n ≤ 8) (hran : S.ran = false) (pc : Nat → Option Addr) (ln cp : Nat → Nat) (hs : ∀ k, k < n → ∃ sb so, p = some ⟨sb, so, none⟩ ∧ v.cell? ⟨sb, so + k, none⟩ = some (.slice (pc k) (ln k) (cp k))) (hln : ∀ k, k < n → ln k ≤ 64)
    (cs : List Frame) {bc : Frame} {ac : Act} {ops : Array Oper} {q : Nat} {rest : List Nat} {oc : Oper} {k : List Item} (hoc : ops[q]? = some oc)
    (hvw : Rel zn v w) (hn : NoRow Ch v)
    (hk : ∀ v' w' (bd : Frame) (ad : Act) (od : Array Oper) (qd : Nat) (rd : List Nat) (oe : Oper) (kd : List Item) (caps : Array Value) (pk : Nat → Option Obj) (S1 : TS) (K : List (Nat × Int)), Rel zn v' w' → NoRow Ch v' → Objs v S (List.replicate s 0) pk S1 K v' → QH s caps pk K → od[qd]? = some oe →
      (∀ (Ch : Nat → Prop) (Stop : Goroutine → World → Prop) (w : World) (x : Value), (∀ d, GoesI Try.prog main (DT (ScZ zn) Ch) Stop (G (bc.at (ac.put oc.dst (.tuple #[x, I 0])) (.inRegion ops rest :: k)) cs) (w.at d)) → GoesI Try.prog main (DT (ScZ zn) Ch) Stop (G (bd.at (ad.put oe.dst x) (.inRegion od rd :: kd)) (bc.at ac (.inRegion ops (q :: rest) :: k) :: cs)) w) →
      GoesI Try.prog main (DT (ScZ zn) Ch) Stop (G ((base 54).at { tmps := #[Pt S.wb 0, .slice p n cap, .func (.func 81) ((mcH s).bn caps) ((mcH s).fr caps)] ++ Array.replicate 36 undef, defers := [] } [.code B20]) (bd.at ad (.inRegion od (qd :: rd) :: kd) :: bc.at ac (.inRegion ops (q :: rest) :: k) :: cs)) w') :
    GoesI Try.prog main (DT (ScZ zn) Ch) Stop (G ((base 52).at { tmps := #[Pt S.wb 0, I s, .slice p n cap] ++ Array.replicate 25 undef, defers := [] } [.code B8c]) (bc.at ac (.inRegion ops (q :: rest) :: k) :: cs)) w := by
  rw [eB8c]
  have hA0 : Fl 28 [(0, Pt S.wb 0), (1, I s), (2, .slice p n cap)] { tmps := #[Pt S.wb 0, I s, .slice p n cap] ++ Array.replicate 25 undef, defers := [] } := by
    simp only [Array.replicate_succ, Array.replicate_zero, List.push_toArray, List.append_toArray, List.nil_append, List.cons_append]
    exact ⟨rfl, rfl, by
      intro p hp
      simp only [List.mem_cons, List.not_mem_nil, or_false] at hp
      rcases hp with rfl | rfl | rfl <;> rfl⟩
  refine goesI_seq (dt_idle _ _) ?_
  refine goesI_plain (z := zn) (wr := true) (L := LV) (I := NoRow Ch) hE fineV noRow_keeps (fun v v' w w' es hi hr ho he => dt_of_z v v' w w' es hi hr ho he) hvw fine_k8c0 hA0.2.1 (by simp [base]) hn (Q := fun a w' => Fl 28 [(0, Pt S.wb 0), (1, I s), (2, .slice p n cap), (6, .slice none 0 0), (7, I 0)] a ∧ w'.heap = v.heap ∧ w'.os = v.os ∧ w'.output = v.output) (fun τ => k8c0_wp (v := onTape v τ 0) hA0) ?_
  rintro a0 v0 w0 ⟨hB0, e0, o0, u0⟩ hr0 hn0 -
  have m0 : Mem zn S [] v0 := (hO.cel.mem.grows (v' := v0) ⟨by rw [e0]; exact Nat.le_refl _, fun b _ => by rw [e0], o0, u0⟩).mem
  have hs0 : ∀ τ, ∀ k, k < n → ∃ sb so, p = some ⟨sb, so, none⟩ ∧ (onTape v0 τ 0).cell? ⟨sb, so + k, none⟩ = some (.slice (pc k) (ln k) (cp k)) := fun τ k hk => by
    obtain ⟨sb, so, h1, h2⟩ := hs k hk
    exact ⟨sb, so, h1, by rw [World.cell?_of_block (w := v) (w' := onTape v0 τ 0) (by show v0.heap[_]? = _; rw [e0])]; exact h2⟩
  refine goesI_seq (dt_idle _ _) ?_
  refine goesI_plain (z := zn) (wr := true) (L := LV) (I := NoRow Ch) hE fineV noRow_keeps (fun v v' w w' es hi hr ho he => dt_of_z v v' w w' es hi hr ho he) hr0 fine_k8c1 hB0.2.1 (by simp [base]) hn0 (Q := fun a w' => Fl 28 [(0, Pt S.wb 0), (1, I s), (2, .slice p n cap), (6, .slice none 0 0), (7, I 0)] a ∧ w'.heap = v0.heap ∧ w'.os = v0.os ∧ w'.output = v0.output) (fun τ => k8c1_yes (v := onTape v0 τ 0) (m0.grows (v' := onTape v0 τ 0) ⟨Nat.le_refl _, fun _ _ => rfl, rfl, rfl⟩).mem.rep pc ln cp (hs0 τ) hln hn8 hran hB0) ?_
  rintro a1 v1 w1 ⟨hB1, e1, o1, u1⟩ hr1 hn1 -
  refine goesI_seq (dt_idle _ _) ?_
  refine goesI_plain (z := zn) (wr := true) (L := LV) (I := NoRow Ch) hE fineV noRow_keeps (fun v v' w w' es hi hr ho he => dt_of_z v v' w w' es hi hr ho he) hr1 fine_k8c2 hB1.2.1 (by simp [base]) hn1 (Q := fun a w' => Fl 28 [(0, Pt S.wb 0), (1, I s), (2, .slice p n cap), (6, .slice none 0 0), (7, I 0)] a ∧ w'.heap = v1.heap ∧ w'.os = v1.os ∧ w'.output = v1.output) (fun τ => k8c2_yes (v := onTape v1 τ 0) (by omega) (by omega) hB1) ?_
  rintro a2 v2 w2 ⟨hB2, e2, o2, u2⟩ hr2 hn2 -
  have e20 : v2.heap = v.heap := e2.trans (e1.trans e0)
  have O2 : Objs v2 S [] pk0 S [] v2 := ⟨Cel.refl (hO.cel.mem.grows (v' := v2) ⟨by rw [e20]; exact Nat.le_refl _, fun b _ => by rw [e20], o2.trans (o1.trans o0), u2.trans (u1.trans u0)⟩).mem, rfl, hO.st, fun b o hb => by rw [e20]; exact hO.has b o hb, fun b hb => by have := hO.new b hb; rw [e20]; exact this, hO.row⟩
  have hlt2 : ∀ b, pk0 b ≠ none → b < v2.heap.size := fun b hb => by rw [e20]; exact hlt b hb
  obtain ⟨hsz, hd, hpp⟩ := hB2
  obtain ⟨u, rfl, hg⟩ := litN hsz hd
  have u0 := (hg 0).symm.trans (hpp (0, Pt S.wb 0) (by simp))
  have u1 := (hg 1).symm.trans (hpp (1, I s) (by simp))
  have u2 := (hg 2).symm.trans (hpp (2, .slice p n cap) (by simp))
  have u6 := (hg 6).symm.trans (hpp (6, .slice none 0 0) (by simp))
  have u7 := (hg 7).symm.trans (hpp (7, I 0) (by simp))
  clear hg hpp hsz hd
  unfold R8c B8c Try.f52 seq2
  simp only [Option.getD_some, lits, Nat.reduceAdd, u0, u1, u2, u6, u7]
  clear u0 u1 u2 u6 u7
  refine goesI_seq (dt_idle _ _) ?_
  refine goesI_region (dt_idle _ _) ?_
  simp only [List.size_toArray, List.length_cons, List.length_nil, Nat.reduceAdd, Nat.zero_add, List.range, List.range.loop]
  iterate 4
    (refine goesI_oper rfl rfl (by decide) (fun d K hK => ?_)
     go_simp
     refine hK _ _ ⟨dt_reads (fun e he => ?_), GoesI.at ?_ d⟩
     · have hm := mem_listed he
       simp [go_sem, *] at hm
       try exact ⟨_, _, hm⟩
     clear hK K)
  refine goesI_call (L := LV) (f := 79) (fn := Try.f79) (args := #[Pt S.wb 0, I s]) hE fineV rfl rfl (by decide) rfl (by simp [Act.eval]) Try.func79 (by kernel_rfl) rfl (fineFn_body fineV (by simp [LV, plainV]) Try.func79 rfl) (fun tmps => ⟨_, fun w => results_tmp rfl _ _ _, fun w => by simp [results, go_sem, Try.f79]⟩) hr2 hn2
    (R := fun r v4 => r = Pt (v2.heap.size + 1) 0 ∧ ∃ S1 K, K.length = s ∧ Objs v2 S (List.replicate s 0) (pkN pk0 s v2.heap.size K) S1 K v4) (fun τ => ?_) (fun r v4 w4 hR hr4 hn4 => ?_)
  · have Oτ : Objs (onTape v2 τ 0) S [] pk0 S [] (onTape v2 τ 0) := ⟨Cel.refl (O2.cel.mem.grows (v' := onTape v2 τ 0) ⟨Nat.le_refl _, fun _ _ => rfl, rfl, rfl⟩).mem, rfl, O2.st, O2.has, O2.new, O2.row⟩
    refine wp_mono (body12 Oτ hlt2 s h0 h1 _ rfl) (bp_mono fun r u hq => ⟨hq.1, ?_⟩)
    obtain ⟨_, S1, K, h2, o⟩ := hq
    exact ⟨S1, K, h2, ⟨o.cel.from rfl rfl rfl, o.vals, o.st, o.has, o.new, o.row⟩⟩
  obtain ⟨rfl, S1, K, hKl, ob4⟩ := hR
  have hset : Objs v S (List.replicate s 0) (pkN pk0 s v2.heap.size K) S1 K v4 :=
    ⟨ob4.cel.from e20 (o2.trans (o1.trans o0)) (u2.trans (u1.trans u0)), ob4.vals, ob4.st, ob4.has, fun b hb => by rw [← e20]; exact ob4.new b hb, ob4.row⟩
  have hql : QH s #[Pt (v2.heap.size + 1) 0] (pkN pk0 s v2.heap.size K) K := ⟨h0, h1, pk0, v2.heap.size, rfl, rfl, hKl, ob4.vals⟩
  clear ob4 hr0 hr1 hr2 hn0 hn1 hn2 e0 e1 e2 e20 o0 o1 o2 u0 u1 u2 hvw hn hs hs0 hln m0 O2 hlt2 hO hlt
  walk_nrm
  iterate 1
    (refine goesI_oper rfl rfl (by decide) (fun d K hK => ?_)
     go_simp
     refine hK _ _ ⟨dt_reads (fun e he => ?_), GoesI.at ?_ d⟩
     · have hm := mem_listed he
       simp [go_sem, *] at hm
       try exact ⟨_, _, hm⟩
     clear hK K)
  refine goesI_into (f := 54) (fn := Try.f54) (args := #[Pt S.wb 0, .slice p n cap, .func (.func 81) #[Pt (v2.heap.size + 1) 0] #[]]) (dt_idle _ _) rfl rfl (by decide) rfl (by simp [Act.eval]) Try.func54 (by decide) rfl ?_
  refine hk v4 w4 _ _ _ _ _ _ _ _ _ _ _ hr4 hn4 hset hql rfl (fun Ch Stop w x hg => ?_)
  clear hk hset hr4 hn4 hql
  iterate 2
    (refine goesI_oper rfl rfl (by decide) (fun d K hK => ?_)
     go_simp
     refine hK _ _ ⟨dt_reads (fun e he => ?_), GoesI.at ?_ d⟩
     · have hm := mem_listed he
       simp [go_sem, *] at hm
       try exact ⟨_, _, hm⟩
     clear hK K)
  refine goesI_regionEnd (dt_idle _ _) ?_
  refine GoesI.ctl rfl (fun _ => stepG_ret') (dt_idle _ _) ?_
  refine goesI_leave (b := base 52) (fn := Try.f52) (v := .tuple #[x, I 0]) rfl rfl Try.func52 (fun w => ?_) (fun w => by simp [results, go_sem, Try.f52]) hoc (dt_idle _ _) ?_
  · rw [results_tmp2 (t := 6) (u := 7) rfl]
    simp
  · have := hg w.drawn
    exact this

set_option maxHeartbeats 2000000 in
set_option maxRecDepth 100000 in
/-- Play refuses: scripts that it does not take, shards that there cannot be. -/
theorem cplay_no {Ch : Nat → Prop} {Stop : Goroutine → World → Prop} {main : Bool} {S : TS} {v w : World} (m : Int) (p : Option Addr) (n cap : Nat) (pc : Nat → Option Addr) (ln cp : Nat → Nat) (hs : ∀ k, k < n → ∃ sb so, p = some ⟨sb, so, none⟩ ∧ v.cell? ⟨sb, so + k, none⟩ = some (.slice (pc k) (ln k) (cp k))) (hn1 : n ≤ 17592186043904) (hran : S.ran = false) (hm : Mem zn S [] v)
    {E : Int} (hRe : Refused n ln E ∨ ((∀ k, k < n → ln k ≤ 64) ∧ (0 < n ∧ n ≤ 8) ∧ (m < 1 ∨ 100 < m) ∧ E = 1)) (cs : List Frame) {bc : Frame} {ac : Act} {ops : Array Oper} {q : Nat} {rest : List Nat} {oc : Oper} {k : List Item} (hoc : ops[q]? = some oc)
    (hvw : Rel zn v w) (hn : NoRow Ch v)
    (hk : ∀ v' w', Rel zn v' w' → NoRow Ch v' → v'.heap = v.heap → v'.os = v.os → v'.output = v.output → GoesI Try.prog main (DT (ScZ zn) Ch) Stop (G (bc.at (ac.put oc.dst (.tuple #[.slice none 0 0, I E])) (.inRegion ops rest :: k)) cs) w') :
    GoesI Try.prog main (DT (ScZ zn) Ch) Stop (G ((base 52).at { tmps := #[Pt S.wb 0, I m, .slice p n cap] ++ Array.replicate 25 undef, defers := [] } [.code B8c]) (bc.at ac (.inRegion ops (q :: rest) :: k) :: cs)) w := by
  rw [eB8c]
  have hA0 : Fl 28 [(0, Pt S.wb 0), (1, I m), (2, .slice p n cap)] { tmps := #[Pt S.wb 0, I m, .slice p n cap] ++ Array.replicate 25 undef, defers := [] } := by
    simp only [Array.replicate_succ, Array.replicate_zero, List.push_toArray, List.append_toArray, List.nil_append, List.cons_append]
    exact ⟨rfl, rfl, by
      intro p hp
      simp only [List.mem_cons, List.not_mem_nil, or_false] at hp
      rcases hp with rfl | rfl | rfl <;> rfl⟩
  refine goesI_seq (dt_idle _ _) ?_
  refine goesI_plain (z := zn) (wr := true) (L := LV) (I := NoRow Ch) hE fineV noRow_keeps (fun v v' w w' es hi hr ho he => dt_of_z v v' w w' es hi hr ho he) hvw fine_k8c0 hA0.2.1 (by simp [base]) hn (Q := fun a w' => Fl 28 [(0, Pt S.wb 0), (1, I m), (2, .slice p n cap), (6, .slice none 0 0), (7, I 0)] a ∧ w'.heap = v.heap ∧ w'.os = v.os ∧ w'.output = v.output) (fun τ => k8c0_wp (v := onTape v τ 0) hA0) ?_
  rintro a0 v0 w0 ⟨hB0, e0, o0, u0⟩ hr0 hn0 -
  have m0 : Mem zn S [] v0 := (hm.grows (v' := v0) ⟨by rw [e0]; exact Nat.le_refl _, fun b _ => by rw [e0], o0, u0⟩).mem
  have hs0 : ∀ τ, ∀ k, k < n → ∃ sb so, p = some ⟨sb, so, none⟩ ∧ (onTape v0 τ 0).cell? ⟨sb, so + k, none⟩ = some (.slice (pc k) (ln k) (cp k)) := fun τ k hk => by
    obtain ⟨sb, so, h1, h2⟩ := hs k hk
    exact ⟨sb, so, h1, by rw [World.cell?_of_block (w := v) (w' := onTape v0 τ 0) (by show v0.heap[_]? = _; rw [e0])]; exact h2⟩
  refine goesI_seq (dt_idle _ _) ?_
  rcases hRe with hRe | ⟨hE1, hE2, hE3, rfl⟩
  · refine goesI_outZ (c := k8c1) (f := 52) (fn := Try.f52) (L := LV) hE fineV hr0 hn0 Try.func52 fine_k8c1 hB0.2.1 hoc (R := fun r w' => r = .tuple #[.slice none 0 0, I E] ∧ w'.heap = v0.heap ∧ w'.os = v0.os ∧ w'.output = v0.output) (fun τ => k8c1_no (v := onTape v0 τ 0) (m0.grows (v' := onTape v0 τ 0) ⟨Nat.le_refl _, fun _ _ => rfl, rfl, rfl⟩).mem.rep pc ln cp (hs0 τ) hn1 hran hRe hB0) (fun r v' w' hR hr' hn' => ?_)
    obtain ⟨rfl, h1, h2, h3⟩ := hR
    exact hk v' w' hr' hn' (h1.trans e0) (h2.trans o0) (h3.trans u0)
  · refine goesI_plain (z := zn) (wr := true) (L := LV) (I := NoRow Ch) hE fineV noRow_keeps (fun v v' w w' es hi hr ho he => dt_of_z v v' w w' es hi hr ho he) hr0 fine_k8c1 hB0.2.1 (by simp [base]) hn0 (Q := fun a w' => Fl 28 [(0, Pt S.wb 0), (1, I m), (2, .slice p n cap), (6, .slice none 0 0), (7, I 0)] a ∧ w'.heap = v0.heap ∧ w'.os = v0.os ∧ w'.output = v0.output) (fun τ => k8c1_yes (v := onTape v0 τ 0) (m0.grows (v' := onTape v0 τ 0) ⟨Nat.le_refl _, fun _ _ => rfl, rfl, rfl⟩).mem.rep pc ln cp (hs0 τ) hE1 hE2 hran hB0) ?_
    rintro a1 v1 w1 ⟨hB1, e1, o1, u1⟩ hr1 hn1 -
    refine goesI_seq (dt_idle _ _) ?_
    refine goesI_outZ (c := k8c2) (f := 52) (fn := Try.f52) (L := LV) hE fineV hr1 hn1 Try.func52 fine_k8c2 hB1.2.1 hoc (R := fun r w' => r = .tuple #[.slice none 0 0, I 1] ∧ w'.heap = v1.heap ∧ w'.os = v1.os ∧ w'.output = v1.output) (fun τ => hE3.elim (fun h => k8c2_no1 (v := onTape v1 τ 0) h hB1) (fun h => k8c2_no2 (v := onTape v1 τ 0) h hB1)) (fun r v' w' hR hr' hn' => ?_)
    obtain ⟨rfl, h1, h2, h3⟩ := hR
    exact hk v' w' hr' hn' (h1.trans (e1.trans e0)) (h2.trans (o1.trans o0)) (h3.trans (u1.trans u0))

section
variable {S : TS} {n sb so cap : Nat} {pc : Nat → Option Addr} {ln cp rb : Nat → Nat} {cl : Nat → List Cl}
/-- chain.Play, whole, by the machine. -/
theorem cplay_all (s : Nat) (h0 : 0 < s) (h1 : s ≤ 100) {cs : List Frame} {bc : Frame} {ac : Act} {ops : Array Oper} {q0 : Nat} {rest : List Nat} {oc : Oper} {k0 : List Item} (hoc : ops[q0]? = some oc) {w : World} {T : Trace} {gs : Array Goroutine} {q : Nat → Nat} (sl : Option (Nat × Nat)) (NT : Nat) (A : Alone gs w T q)
    (hg : gs[0]? = some (G ((base 52).at { tmps := #[Pt S.wb 0, I s, .slice (some ⟨sb, so, none⟩) n cap] ++ Array.replicate 25 undef, defers := [] } [.code B8c]) (bc.at ac (.inRegion ops (q0 :: rest) :: k0) :: cs)))
    (hm : Mem zn S [] w) (hthr : S.thr = []) (hran : S.ran = false) (hch : S.chg = []) (hbk : Open w S.bk) (t : Asked w S n sb so pc ln cp rb cl) (hn8 : 0 < n ∧ n ≤ 8)
    (hlen : ∀ caps pk N K, S.n + 2 * lens (scrs (mcH s) 81 caps pk N n K pc ln cp rb cl) ≤ 1000000) (hsl : S.sched.length ≤ 4611686018427387904) (hsc : ∀ x ∈ S.sched, -9223372036854775808 ≤ x ∧ x < 9223372036854775808) (l0 : Nat → Ph)
    (hturn : ∀ (caps : Array Value) (pk : Nat → Option Obj) (N : Nat) (cv : Value) (K : List (Nat × Int)), K.map (·.2) = List.replicate s 0 → ∀ S1 l1, Hires (mcH s) 0 (scrs (mcH s) 81 caps pk N n K pc ln cp rb cl) (nv { cellsS S cv (List.replicate s (0 : Int)).length with ran := true }) l0 S1 l1 → ∃ m p', m ≤ NT ∧ Turns (mcH s) m ⟨S1, K, l1⟩ p' ∧ p'.S.n * 40 ≤ 140737488355328) :
    ∃ (N' : Nat) (gs' : Array Goroutine) (w' : World) (sl' : Option (Nat × Nat)) (T' : Trace) (q' : Nat → Nat) (caps : Array Value) (pk : Nat → Option Obj) (N : Nat) (cv : Value) (K : List (Nat × Int)) (S' : TS) (S1 : TS) (l1 : Nat → Ph) (m : Nat) (p' : PSt),
      runNT Try.prog N' (crowd gs w sl) T = (.next (crowd gs' w' sl'), T') ∧ gs'.size = gs.size + n ∧ gs'[0]? = some (G (bc.at (ac.put oc.dst (.tuple #[.slice (some ⟨N + 1, 0, none⟩) n n, I 0])) (.inRegion ops rest :: k0)) cs) ∧
      Alone gs' w' T' q' ∧ K.map (·.2) = List.replicate s 0 ∧ nv S' = p'.S ∧ Hires (mcH s) 0 (scrs (mcH s) 81 caps pk N n K pc ln cp rb cl) (nv { cellsS S cv (List.replicate s (0 : Int)).length with ran := true }) l0 S1 l1 ∧ Turns (mcH s) m ⟨S1, K, l1⟩ p' ∧ GOut w S n ln N S' p'.K p'.l w' := by
  refine gplay_all (xs := List.replicate s 0) (cap := cap) (q0 := q0) (pkgH s) (mineH s) (kokH s) sl NT A hg ?_ hm hthr hran hbk t hn8 hlen hsl hsc l0 hturn
  exact cplay_in s h0 h1 (Objs.startG (pk := fun _ => none) hm hch (fun _ _ h => by cases h) (fun _ h => absurd rfl h) (fun _ _ h => by cases h)) (fun b hb => absurd rfl hb) (some ⟨sb, so, none⟩) n cap hn8 hran pc ln cp (fun k hk => ⟨sb, so, rfl, t.row k hk⟩) (fun k hk => (t.len k hk).2) cs hoc (Rel.refl w) (fun c hc => hc.elim)
    (fun v' w' bd ad od qd rd oe kd caps pk S1 K hr hn ho hq hoe hback => GoesI.stop fun d => ⟨bd, ad, od, qd, rd, oe, kd, caps, pk, S1, K, ho.same hr.eq hr.os hr.output, hq, hoe, hback, rfl⟩)
end
end Go.Proofs.Ytfjjoohflcchnaa.Gen

namespace Go.Proofs.Ytfjjoohflcchnaa.Gen
open Go Go.Lift Go.Conc Go.RowKit
variable {mc : Mc}

theorem turns_det : ∀ {m m' : Nat} {p p1 p2 : PSt}, Turns mc m p p1 → Turns mc m' p p2 → p1 = p2
  | _, _, _, _, _, .stop h, .stop h' => rfl
  | _, _, _, _, _, .stop h, .step h' _ => by rw [h] at h'; cases h'
  | _, _, _, _, _, .step h _, .stop h' => by rw [h] at h'; cases h'
  | _, _, _, _, _, .step h t, .step h' t' => by
    rw [h] at h'
    cases h'
    exact turns_det t t'
def pt (mc : Mc) (p : PSt) : PSt := (pturn mc p).getD p
def pts (mc : Mc) : Nat → PSt → PSt
  | 0, p => p
  | n + 1, p => pts mc n (pt mc p)
def runs (mc : Mc) : Nat → PSt → Bool
  | 0, p => (pturn mc p).isNone
  | n + 1, p => (pturn mc p).isSome && runs mc n (pt mc p)
theorem turns_of : ∀ (n : Nat) (p : PSt), runs mc n p = true → Turns mc n p (pts mc n p)
  | 0, p, h => by
    refine .stop ?_
    cases hp : pturn mc p with
    | none => rfl
    | some x => unfold runs at h; rw [hp] at h; cases h
  | n + 1, p, h => by
    unfold runs at h
    rw [Bool.and_eq_true] at h
    refine .step ?_ (turns_of n (pt mc p) h.2)
    unfold pt
    cases hp : pturn mc p with
    | none => rw [hp] at h; cases h.1
    | some x => rfl
end Go.Proofs.Ytfjjoohflcchnaa.Gen

namespace Go.Proofs.Ytfjjoohflcchnaa.Gen
open Go Go.Lift Go.Conc Go.RowKit
open Go.ConcN (upd upd_same upd_ne)

def clsH : List Cl := [⟨1, 0, 1, 0⟩, ⟨1, 1, 2, 0⟩, ⟨1, 2, 0, 0⟩]
/-- The world ahead of the hiring. -/
def awSH (wb bk base : Nat) (sc cv : Value) (k : Nat) : TS := nv { cellsS (newS wb bk base sc []) cv k with ran := true }
def awPH (wb bk base : Nat) (sc cv : Value) (tv0 : Value) (tb0 gc0 : Nat) (c0 c1 c2 : Nat) (l0 : Nat → Ph) : PSt :=
  ⟨(flow 0 (mcH 3) clsH 0 false [(0, 0), (0, 0), (0, 0)] (hiredS (awSH wb bk base sc cv 3) tv0 tb0 gc0)).1, [(c0, 0), (c1, 0), (c2, 0)], upd l0 0 (flow 0 (mcH 3) clsH 0 false [(0, 0), (0, 0), (0, 0)] (hiredS (awSH wb bk base sc cv 3) tv0 tb0 gc0)).2⟩
section
variable (wb bk base : Nat) (sc cv : Value) (tv0 : Value) (tb0 gc0 : Nat) (c0 c1 c2 : Nat) (l0 : Nat → Ph)
set_option maxRecDepth 100000
theorem awh_runs : runs (mcH 3) 7 (awPH wb bk base sc cv tv0 tb0 gc0 c0 c1 c2 l0) = true := by kernel_rfl
theorem awh_n : (pts (mcH 3) 7 (awPH wb bk base sc cv tv0 tb0 gc0 c0 c1 c2 l0)).S.n = 13 := by kernel_rfl
theorem awh_ans : ((pts (mcH 3) 7 (awPH wb bk base sc cv tv0 tb0 gc0 c0 c1 c2 l0)).l 0).ans = [(0, 0), (0, 0), (0, 1)] := by kernel_rfl
end
end Go.Proofs.Ytfjjoohflcchnaa.Gen
