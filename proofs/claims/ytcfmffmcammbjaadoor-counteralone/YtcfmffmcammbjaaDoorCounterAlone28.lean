/- CounterAlone, whatever the shards, the numbers and the ids: a counter of no world, added to by free threads; behind each Add its Sum is the sum of the shards' amounts, each within 32 bits with a sign; the law answers true and its input reads as it did. Part 28 of 34. (Joined, by program, of: CtN, CtH, CtM, GEnd.) -/
import Derived.Test.YtcfmffmcammbjaaDoorCounterAlone22
import Derived.Test.YtcfmffmcammbjaaDoorCounterAlone24
import Derived.Test.YtcfmffmcammbjaaDoorCounterAlone26
import Derived.Test.YtcfmffmcammbjaaDoorCounterAlone27

/- counter.New (54), main alone: the cells of a counter, one by one, and the row that names them. -/
set_option linter.unusedSimpArgs false
set_option linter.unusedVariables false
namespace Go.Proofs.YtcfmffmcammbjaaDoor.Gen
open Go Go.Lift Go.Conc Go.RowKit

section
variable {v u u' : World} {S S1 : TS} {K : List (Nat × Int)} {xs : List Int} {pk : Nat → Option Obj}
/-- A row of the objects' own is written. -/
theorem Objs.set (h : Objs v S xs pk S1 K u) {b : Nat} {o o' : Obj} (hb : pk b = some o) (hvb : v.heap.size ≤ b) (hw : ∀ x, x ≠ b → u'.heap[x]? = u.heap[x]?) (hn : u'.heap[b]? = some o') (hs : u'.heap.size = u.heap.size) (e1 : u'.os = u.os) (e2 : u'.output = u.output) (hr : ∃ c e f, o' = .cells c e f) : Objs v S xs (padd pk b o') S1 K u' := by
  have ho := (h.new b (by rw [hb]; simp)).2
  have em := h.cel.mem.other (v' := u') ho hw hs e1 e2
  refine ⟨⟨em.mem, ⟨e1.trans h.cel.fr.os, e2.trans h.cel.fr.output, by rw [hs]; exact h.cel.fr.size, fun x hx hn => by rw [hw x (by omega)]; exact h.cel.fr.block x hx hn⟩, h.cel.own⟩, h.vals, h.st, fun x y hx => ?_, fun x hx => ?_, fun x y hx => ?_⟩
  · by_cases e : x = b
    · subst e; rw [padd_at] at hx; cases hx; exact hn
    · rw [padd_ne e] at hx; rw [hw x e]; exact h.has x y hx
  · by_cases e : x = b
    · subst e; exact h.new x (by rw [hb]; simp)
    · rw [padd_ne e] at hx; exact h.new x hx
  · by_cases e : x = b
    · subst e; rw [padd_at] at hx; cases hx; exact hr
    · rw [padd_ne e] at hx; exact h.row x y hx
end
theorem padd_padd (pk : Nat → Option Obj) (b : Nat) (o o' : Obj) : padd (padd pk b o) b o' = padd pk b o' := by
  funext x; unfold padd; split <;> rfl
theorem padd_comm {pk : Nat → Option Obj} {b c : Nat} (h : b ≠ c) (o o' : Obj) : padd (padd pk b o) c o' = padd (padd pk c o') b o := by
  funext x
  unfold padd
  by_cases h1 : x = c
  · subst h1
    rw [if_pos rfl, if_neg (fun e => h e.symm), if_pos rfl]
  · by_cases h2 : x = b
    · subst h2
      rw [if_neg h1, if_pos rfl, if_pos rfl]
    · rw [if_neg h1, if_neg h2, if_neg h2, if_neg h1]

theorem info102 : (Tryd.prog.info? 102).map (fun i => (i.zero, i.size, i.bytes)) = some (some (.pointer none), 1, 8) := by kernel_rfl
theorem make_ptrs (n : Nat) (hn : n ≤ 1048576) (w : World) :
    (Instr.makeSlice 134 (.int .i64 (n : Int)) (.int .i64 (n : Int))).run Tryd.prog w = .ok (.slice (some ⟨w.heap.size, 0, none⟩) n n) (w.alloc (.cells (madeCells #[.pointer none] n) 102)) := by
  cases hq : Tryd.prog.info? 102 with
  | none => have := info102; rw [hq] at this; cases this
  | some i =>
    have hi := info102
    rw [hq] at hi
    simp only [Option.map_some, Option.some.injEq, Prod.mk.injEq] at hi
    obtain ⟨hz, hs, hb⟩ := hi
    have := run_make (P := Tryd.prog) w 134 102 i _ Tryd.underlying134 hq hz .i64 .i64 (n : Int) (n : Int) (by omega) (by omega) (by rw [hb]; omega) (by omega)
    rw [hs] at this
    rw [this]
    simp [Value.cells]
/-- The row of shards, of which the first are there. -/
def rowP (s : Nat) (K : List (Nat × Int)) : List Value := (List.range s).map fun j => match K[j]? with | some c => Pt c.1 0 | none => .pointer none
def objP (s : Nat) (K : List (Nat × Int)) : Obj := .cells (rowP s K).toArray 102 (0, 0)
theorem made_rowP (s : Nat) : (.cells (madeCells #[.pointer none] s) 102 : Obj) = objP s [] := by
  unfold objP rowP
  congr 1
  apply Array.ext_getElem?
  intro i
  by_cases h : i < s
  · simp [madeCells, h, Nat.mod_one]
  · simp [madeCells, h]
theorem rowP_next {s : Nat} {K : List (Nat × Int)} (c : Nat × Int) (hK : K.length < s) : (rowP s K).toArray.setIfInBounds K.length (Pt c.1 0) = (rowP s (K ++ [c])).toArray := by
  apply Array.ext_getElem?
  intro i
  unfold rowP
  rw [Array.getElem?_setIfInBounds]
  by_cases h : K.length = i
  · subst h
    simp [hK]
  · rw [if_neg h]
    by_cases hi : i < s
    · by_cases hlt : i < K.length
      · have e2 : (K ++ [c])[i]? = K[i]? := List.getElem?_append_left hlt
        simp [hi, e2]
      · have h1 : K[i]? = none := List.getElem?_eq_none (by omega)
        have h2 : (K ++ [c])[i]? = none := List.getElem?_eq_none (by simp; omega)
        simp [hi, h1, h2]
    · simp [hi]
theorem objP_at {s k : Nat} {K : List (Nat × Int)} {w : World} {N : Nat} (h : w.heap[N]? = some (objP s K)) (hK : K.length = k) (hk : k < s) : w.cell? ⟨N, k, none⟩ = some (.pointer none) ∧ w.frozen? ⟨N, k, none⟩ = false := by
  constructor
  · refine cell_of h ?_
    unfold rowP
    have : K[k]? = none := List.getElem?_eq_none (by omega)
    simp [hk, this]
  · simp only [World.frozen?, h, objP]
    simp
/-- What a counter's threads read. -/
noncomputable def pkN (pk0 : Nat → Option Obj) (s N : Nat) (K : List (Nat × Int)) : Nat → Option Obj := padd (padd pk0 (N + 1) (.cells #[.slice (some ⟨N, 0, none⟩) s s] 136 (0, 0))) N (objP s K)

set_option maxHeartbeats 4000000 in
set_option maxRecDepth 100000 in
theorem body54 {v : World} {S : TS} {pk0 : Nat → Option Obj} (hO : Objs v S [] pk0 S [] v) (hlt : ∀ b, pk0 b ≠ none → b < v.heap.size) (s : Nat) (h0 : 0 < s) (h1 : s ≤ 16) : Body Tryd.f54 #[Pt S.wb 0, I s] v (fun r v' => r = Pt (v.heap.size + 1) 0 ∧ ∃ S1 K, K.length = s ∧ Objs v S (List.replicate s 0) (pkN pk0 s v.heap.size K) S1 K v') := by
  intro code hb
  obtain rfl := Option.some.inj hb
  clear hb
  have hmk := make_ptrs s (by omega)
  rw [made_rowP] at hmk
  have hmx : (Builtin.max_ #[3, 3] 3 #[I s, I 1]) = pure (I s) := by
    show (pure (Value.int .i64 (if (1 : Int) > s then 1 else s)) : Sem Value) = _
    rw [if_neg (by omega)]
  have hmn : (Builtin.min_ #[3, 3] 3 #[I s, I 16]) = pure (I s) := by
    show (pure (Value.int .i64 (if (16 : Int) < s then 16 else s)) : Sem Value) = _
    rw [if_neg (by omega)]
  have HO : Hid (Objs v S [] pk0 S [] v) := ⟨hO⟩
  have HL : Hid (∀ b, pk0 b ≠ none → b < v.heap.size) := ⟨hlt⟩
  clear hO hlt
  simp only [Tryd.ntmps54, List.size_toArray, List.length_cons, List.length_nil, Nat.reduceAdd, Nat.reduceSub, Array.replicate_succ, Array.replicate_zero, List.push_toArray, List.append_toArray, List.nil_append, List.cons_append]
  go_wp2_with fail
  go_loopw [18] (fun i u => ∃ (k : Nat) (K : List (Nat × Int)) (S1 : TS), k ≤ s ∧ i = .int .i64 k ∧ K.length = k ∧ Objs v S (List.replicate k 0) (pkN pk0 s v.heap.size K) S1 K u) (fun i _ => s - (intOf i).toNat)
  case atStart =>
    refine ⟨0, [], S, Nat.zero_le _, rfl, rfl, ?_⟩
    have o1 := HO.out.push (u' := v.alloc (objP s [])) (c := (rowP s []).toArray) (t := 102) rfl rfl rfl
    have o2 := o1.push (u' := (v.alloc (objP s [])).alloc (.cells #[.slice (some ⟨v.heap.size, 0, none⟩) s s] 136)) (c := #[.slice (some ⟨v.heap.size, 0, none⟩) s s]) (t := 136) rfl rfl rfl
    have hsz : (v.alloc (objP s [])).heap.size = v.heap.size + 1 := by simp
    rw [hsz, padd_comm (by omega)] at o2
    exact o2
  case round =>
    obtain ⟨k, K, S1, hk, rfl, hK, hO⟩ := hrel
    have HOB : Hid (Objs v S (List.replicate k 0) (pkN pk0 s v.heap.size K) S1 K wr) := ⟨hO⟩
    by_cases hlt : k < s
    · have hN := hO.has v.heap.size (objP s K) (by unfold pkN; rw [padd_at])
      have hN1 := hO.has (v.heap.size + 1) (.cells #[.slice (some ⟨v.heap.size, 0, none⟩) s s] 136 (0, 0)) (by unfold pkN; rw [padd_ne (by omega), padd_at])
      have c1 : wr.cell? ⟨v.heap.size + 1, 0, none⟩ = some (.slice (some ⟨v.heap.size, 0, none⟩) s s) := cell_of hN1 rfl
      have hks : (k : Int) < (s : Int) := by omega
      clear hO hN hN1
      generalize hNN : v.heap.size = N at HOB c1
      go_wp2_with fail
      go_region_held3 (fun u => u.cell? ⟨N + 1, 0, none⟩ = some (.slice (some ⟨N, 0, none⟩) s s))
        (first | assumption | (simp [go_sem, *]; done))
        (first
          | (go_at_call 63; refine ((HOB.out.same (u' := wr.drew) rfl rfl rfl).cell 0 (by rw [List.length_replicate]; omega)).mono ?_; rintro e w1 ⟨cb, rfl, hs1, S2, o2⟩
             have HO2 : Hid (Objs v S (List.replicate k 0 ++ [0]) (pkN pk0 s N K) S2 (K ++ [(cb, 0)]) w1) := ⟨o2⟩
             have hN := o2.has N (objP s K) (by unfold pkN; rw [padd_at])
             have hN1 := o2.has (N + 1) (.cells #[.slice (some ⟨N, 0, none⟩) s s] 136 (0, 0)) (by unfold pkN; rw [padd_ne (by omega), padd_at])
             have c2 : w1.cell? ⟨N + 1, 0, none⟩ = some (.slice (some ⟨N, 0, none⟩) s s) := cell_of hN1 rfl
             obtain ⟨c3, c4⟩ := objP_at hN hK hlt
             have HN : Hid (w1.heap[N]? = some (objP s K)) := ⟨hN⟩
             clear o2 hN hN1))
      go_wp2_with fail
      go_roundw
      case rel =>
        refine ⟨k + 1, K ++ [(cb, 0)], S2, by omega, by go_num, by rw [List.length_append, hK]; rfl, ?_⟩
        have oth : ∀ b, b ≠ N → (w1.setCell ⟨N, k, none⟩ (.pointer (some ⟨cb, 0, none⟩))).heap[b]? = w1.heap[b]? := fun b hb => Below.heap_setCell _ _ _ _ hb
        have hrow : (w1.setCell ⟨N, k, none⟩ (.pointer (some ⟨cb, 0, none⟩))).heap[N]? = some (objP s (K ++ [(cb, 0)])) := by
          have := heap_setCell_same (o := k) (show w1.heap[N]? = some (.cells (rowP s K).toArray 102 (0, 0)) from HN.out) (Pt cb 0)
          rw [← hK, rowP_next (cb, 0) (by omega)] at this
          rw [← hK]
          exact this
        have o3 := HO2.out.set (b := N) (o := objP s K) (o' := objP s (K ++ [(cb, 0)])) (by unfold pkN; rw [padd_at]) (by omega) oth hrow (by simp [World.setCell]) rfl rfl ⟨_, _, _, rfl⟩
        rw [List.replicate_succ']
        unfold pkN at o3 ⊢
        rw [padd_padd] at o3
        exact o3
      case measure => simp [intOf]; omega
    · have : k = s := by omega
      subst this
      go_wp2_with fail
      go_ret
      exact ⟨_, rfl, rfl, S1, K, hK, HOB.out⟩
end Go.Proofs.YtcfmffmcammbjaaDoor.Gen

/- counter.New (54) of no world, main alone. -/
set_option linter.unusedSimpArgs false
set_option linter.unusedVariables false
namespace Go.Proofs.YtcfmffmcammbjaaDoor.Gen
open Go Go.Lift Go.Conc Go.RowKit

/-- How many shards. -/
def shN (n : Int) : Nat := if n < 1 then 1 else if 16 < n then 16 else n.toNat
theorem shN_pos (n : Int) : 0 < shN n ∧ shN n ≤ 16 := by unfold shN; split; omega; split <;> omega
theorem shN_max (n : Int) : (Builtin.max_ #[3, 3] 3 #[I n, I 1]) = pure (I (if (1 : Int) > n then 1 else n)) := rfl
theorem shN_min (n : Int) : (Builtin.min_ #[3, 3] 3 #[I (if (1 : Int) > n then 1 else n), I 16]) = pure (I (shN n)) := by
  show (pure (Value.int .i64 (if (16 : Int) < (if (1 : Int) > n then 1 else n) then 16 else (if (1 : Int) > n then 1 else n))) : Sem Value) = _
  have : (if (16 : Int) < (if (1 : Int) > n then 1 else n) then 16 else (if (1 : Int) > n then 1 else n)) = (shN n : Int) := by
    unfold shN
    by_cases h1 : n < 1
    · simp [h1]
    · by_cases h2 : 16 < n
      · simp [h1, h2]
      · simp only [gt_iff_lt, h1, h2, if_false]; omega
  rw [this]
def kbN (N k : Nat) : List (Nat × Int) := (List.range k).map fun j => (N + 2 + j, 0)
theorem kbN_len (N k : Nat) : (kbN N k).length = k := by simp [kbN]
theorem kbN_succ (N k : Nat) : kbN N (k + 1) = kbN N k ++ [(N + 2 + k, 0)] := by simp [kbN, List.range_succ]
/-- Behind k shards. -/
structure NwC (v : World) (s N k : Nat) (u : World) : Prop where
  row : u.heap[N]? = some (objP s (kbN N k))
  ctr : u.heap[N + 1]? = some (.cells #[.slice (some ⟨N, 0, none⟩) s s] 136 (0, 0))
  cel : ∀ j, j < k → u.heap[N + 2 + j]? = some (.cells #[I 0, I 0] 149 (0, 0))
  size : u.heap.size = N + 2 + k
  old : ∀ b, b < N → u.heap[b]? = v.heap[b]?
  os : u.os = v.os
  out : u.output = v.output
theorem NwC.same {v u u' : World} {s N k : Nat} (h : NwC v s N k u) (e1 : u'.heap = u.heap) (e2 : u'.os = u.os) (e3 : u'.output = u.output) : NwC v s N k u' :=
  ⟨by rw [e1]; exact h.row, by rw [e1]; exact h.ctr, fun j hj => by rw [e1]; exact h.cel j hj, by rw [e1]; exact h.size, fun b hb => by rw [e1]; exact h.old b hb, e2.trans h.os, e3.trans h.out⟩
theorem NwC.next {v u u' : World} {s N k : Nat} (h : NwC v s N k u) (hk : k < s) (e1 : u'.heap = u.heap.push (.cells #[I 0, I 0] 149 (0, 0))) (e2 : u'.os = u.os) (e3 : u'.output = u.output) : NwC v s N (k + 1) (u'.setCell ⟨N, k, none⟩ (Pt u.heap.size 0)) := by
  have oth : ∀ b, b ≠ N → (u'.setCell ⟨N, k, none⟩ (Pt u.heap.size 0)).heap[b]? = u'.heap[b]? := fun b hb => Below.heap_setCell _ _ _ _ hb
  have at_ : ∀ b, b < u.heap.size → u'.heap[b]? = u.heap[b]? := fun b hb => by rw [e1, Array.getElem?_push, if_neg (by omega)]
  have hs := h.size
  refine ⟨?_, ?_, fun j hj => ?_, ?_, fun b hb => ?_, ?_, ?_⟩
  · have h0 : u'.heap[N]? = some (.cells (rowP s (kbN N k)).toArray 102 (0, 0)) := by rw [at_ N (by omega)]; exact h.row
    have := heap_setCell_same (o := k) h0 (Pt u.heap.size 0)
    rw [this]
    have h1 := rowP_next (s := s) (K := kbN N k) (N + 2 + k, 0) (by rw [kbN_len]; exact hk)
    rw [kbN_len] at h1
    rw [hs, h1, ← kbN_succ]
    rfl
  · rw [oth _ (by omega), at_ _ (by omega)]; exact h.ctr
  · rw [oth _ (by omega)]
    by_cases e : j = k
    · subst e
      rw [e1, ← hs, Array.getElem?_push_size]
    · rw [at_ _ (by omega)]; exact h.cel j (by omega)
  · have : (u'.setCell ⟨N, k, none⟩ (Pt u.heap.size 0)).heap.size = u'.heap.size := by simp [World.setCell]
    rw [this, e1, Array.size_push]; omega
  · rw [oth _ (by omega), at_ _ (by omega)]; exact h.old b hb
  · exact e2.trans h.os
  · exact e3.trans h.out
theorem NwC.fcs {v u : World} {s : Nat} (h : NwC v s v.heap.size s u) (h0 : 0 < s) (h1 : s ≤ 16) : Fcs u (v.heap.size + 1) v.heap.size s ((List.range s).map fun j => v.heap.size + 2 + j) (List.replicate s 0) := by
  refine ⟨⟨cell_of h.ctr rfl, fun j hj => ⟨v.heap.size + 2 + j, by simp [hj], cell_of h.row ?_⟩, h0, h1⟩, by simp, by simp, fun j cb x e1 e2 => ?_, ?_, by omega, fun cb hcb => ?_⟩
  · unfold rowP kbN
    simp [hj]
  · by_cases hj : j < s
    · simp [hj] at e1 e2
      rw [← e1, ← e2]; exact h.cel j hj
    · simp [hj] at e1
  · refine List.pairwise_map.2 (List.Pairwise.imp ?_ List.nodup_range)
    intro a b hab; omega
  · obtain ⟨j, _, rfl⟩ := List.mem_map.1 hcb
    omega

set_option maxHeartbeats 4000000 in
set_option maxRecDepth 100000 in
theorem body54n (v : World) (n : Int) : Body Tryd.f54 #[.pointer none, I n] v (fun r v' => r = Pt (v.heap.size + 1) 0 ∧ NwC v (shN n) v.heap.size (shN n) v') := by
  intro code hb
  obtain rfl := Option.some.inj hb
  clear hb
  have hmx := shN_max n
  have hmn := shN_min n
  obtain ⟨h0, h1⟩ := shN_pos n
  generalize (if (1 : Int) > n then 1 else n) = M at hmx hmn
  generalize shN n = s at hmn h0 h1 ⊢
  have hmk := make_ptrs s (by omega)
  rw [made_rowP] at hmk
  simp only [Tryd.ntmps54, List.size_toArray, List.length_cons, List.length_nil, Nat.reduceAdd, Nat.reduceSub, Array.replicate_succ, Array.replicate_zero, List.push_toArray, List.append_toArray, List.nil_append, List.cons_append]
  go_wp2_with fail
  go_loopw [18] (fun i u => ∃ (k : Nat), k ≤ s ∧ i = .int .i64 k ∧ NwC v s v.heap.size k u) (fun i _ => s - (intOf i).toNat)
  case atStart =>
    refine ⟨0, Nat.zero_le _, rfl, ?_, ?_, fun j hj => by omega, ?_, fun b hb => ?_, rfl, rfl⟩
    · show ((v.heap.push (objP s [])).push _)[v.heap.size]? = _
      rw [Array.getElem?_push, if_neg (by simp), Array.getElem?_push_size]
      rfl
    · show ((v.heap.push (objP s [])).push _)[v.heap.size + 1]? = _
      rw [show v.heap.size + 1 = (v.heap.push (objP s [])).size by simp, Array.getElem?_push_size]
    · show ((v.heap.push (objP s [])).push _).size = _
      simp
    · show ((v.heap.push (objP s [])).push _)[b]? = _
      rw [Array.getElem?_push, if_neg (by simp; omega), Array.getElem?_push, if_neg (by omega)]
  case round =>
    obtain ⟨k, hk, rfl, hO⟩ := hrel
    have HOB : Hid (NwC v s v.heap.size k wr) := ⟨hO⟩
    by_cases hlt : k < s
    · have c1 : wr.cell? ⟨v.heap.size + 1, 0, none⟩ = some (.slice (some ⟨v.heap.size, 0, none⟩) s s) := cell_of hO.ctr rfl
      have hks : (k : Int) < (s : Int) := by omega
      clear hO
      generalize hNN : v.heap.size = N at HOB c1
      go_wp2_with fail
      go_region_held3 (fun u => u.cell? ⟨N + 1, 0, none⟩ = some (.slice (some ⟨N, 0, none⟩) s s))
        (first | assumption | (simp [go_sem, *]; done))
        (first
          | (go_at_call 63; refine ((body10n wr.drew 0).calls Tryd.func63 rfl).mono ?_; rintro e w1 ⟨_, rfl, rfl, q1, q2, q3⟩
             have HO2 : Hid (w1.heap = wr.heap.push (.cells #[I 0, I 0] 149) ∧ w1.os = wr.os ∧ w1.output = wr.output) := ⟨q1, q2, q3⟩
             have hN : w1.heap[N]? = some (objP s (kbN N k)) := by rw [HO2.out.1, Array.getElem?_push, if_neg (by have := HOB.out.size; omega)]; exact HOB.out.row
             have hN1 : w1.heap[N + 1]? = some (.cells #[.slice (some ⟨N, 0, none⟩) s s] 136 (0, 0)) := by rw [HO2.out.1, Array.getElem?_push, if_neg (by have := HOB.out.size; omega)]; exact HOB.out.ctr
             have c2 : w1.cell? ⟨N + 1, 0, none⟩ = some (.slice (some ⟨N, 0, none⟩) s s) := cell_of hN1 rfl
             obtain ⟨c3, c4⟩ := objP_at hN (kbN_len N k) hlt
             clear q1 q2 q3 hN hN1))
      go_wp2_with fail
      go_roundw
      case rel =>
        refine ⟨k + 1, by omega, by go_num, ?_⟩
        exact HOB.out.next hlt HO2.out.1 HO2.out.2.1 HO2.out.2.2
      case measure => simp [intOf]; omega
    · have : k = s := by omega
      subst this
      go_wp2_with fail
      go_ret
      exact ⟨_, rfl, rfl, HOB.out⟩
end Go.Proofs.YtcfmffmcammbjaaDoor.Gen

/- What an Add does to an amount, plainly; the law's own arithmetic (wrapped, 56). -/
set_option linter.unusedSimpArgs false
set_option linter.unusedVariables false
namespace Go.Proofs.YtcfmffmcammbjaaDoor.R1
open Go Go.RowKit Go.Proofs.YtcfmffmcammbjaaDoor.Pl

theorem pow_mono2 {b i : Nat} (h : b ≤ i) : (2 : Int) ^ b ≤ 2 ^ i := by
  have : (2 : Nat) ^ b ≤ 2 ^ i := Nat.pow_le_pow_right (by decide) h
  have e1 : ((2 : Int) ^ b) = ((2 ^ b : Nat) : Int) := by simp
  have e2 : ((2 : Int) ^ i) = ((2 ^ i : Nat) : Int) := by simp
  rw [e1, e2]; omega
theorem tb_small {v : Int} {b i : Nat} (h0 : 0 ≤ v) (h1 : v < 2 ^ b) (hb : b ≤ i) (hi : i < 64) : tb v i = false := by
  rw [tb_eq v i hi, Int.ediv_eq_zero_of_lt h0 (Int.lt_of_lt_of_le h1 (pow_mono2 hb))]; decide
theorem small_fits {v : Int} {b : Nat} (h0 : 0 ≤ v) (h1 : v < 2 ^ b) (hb : b ≤ 62) : Fits v := by
  have := pow_le62 hb; unfold Fits; omega
theorem get_put (x v : Int) (a b : Nat) (hb : b ≤ 62) (hab : a + b ≤ 64) (h0 : 0 ≤ v) (h1 : v < 2 ^ b) : getI (putI x a b v) a b = v := by
  refine tb_ext (getI_fits _ _ _ hb) (small_fits h0 h1 hb) fun i hi => ?_
  rw [tb_getI _ _ _ _ hab hi]
  by_cases h : i < b
  · rw [tb_putI _ _ _ _ _ (by omega) (by omega), if_pos (by omega), show a + i - a = i by omega]; simp [h]
  · rw [tb_small h0 h1 (by omega) hi]; simp [h]
theorem get_apart (x v : Int) (a b c d : Nat) (hb : b ≤ 62) (hd : d ≤ 62) (hcd : c + d ≤ 64) (h : ∀ i, ¬ ((a ≤ i ∧ i < a + b) ∧ (c ≤ i ∧ i < c + d))) : getI (putI x a b v) c d = getI x c d := by
  refine tb_ext (getI_fits _ _ _ hd) (getI_fits _ _ _ hd) fun i hi => ?_
  rw [tb_getI _ _ _ _ hcd hi, tb_getI _ _ _ _ hcd hi]
  by_cases h1 : i < d
  · have := h (c + i)
    rw [tb_putI _ _ _ _ _ (by omega) (by omega), if_neg (by omega)]
  · simp [h1]
theorem amt_addI (x n : Int) : getI (addI x n) 0 32 = (getI x 0 32 + n) % 4294967296 := by
  unfold addI
  rw [get_apart _ _ 32 30 0 32 (by decide) (by decide) (by decide) (fun i => by omega)]
  unfold addA
  rw [get_put _ _ 0 32 (by decide) (by decide) (amtA_in x n).1 (amtA_in x n).2, amtA_eq]
/-- The law's own. -/
def wr56 (y : Int) : Int :=
  let a := y.tmod 4294967296
  let b := if a < 0 then wrap64 (a + 4294967296) else a
  if b ≥ 2147483648 then wrap64 (b - 4294967296) else b
theorem wr56_eq (y : Int) : wr56 y = wrap32 y := by
  have h : y.tmod 4294967296 = if 0 ≤ y then y % 4294967296 else -((-y) % 4294967296) := by
    by_cases h : 0 ≤ y
    · rw [if_pos h, Int.tmod_eq_emod_of_nonneg h]
    · rw [if_neg h, ← Int.tmod_eq_emod_of_nonneg (by omega : 0 ≤ -y), Int.neg_tmod, Int.neg_neg]
  unfold wr56 wrap32 wrap64
  simp only [h]
  split <;> split <;> split <;> omega
theorem amtS_eq (v : Int) : amtS v = wrap32 (getI v 0 32) := by unfold amtS wrap64 wrap32; omega
theorem amtS_add (x n : Int) : wr56 (wrap64 (amtS x + n.tmod 4294967296)) = amtS (addI x n) := by
  rw [wr56_eq, amtS_eq, amtS_eq, amt_addI]
  have h : n.tmod 4294967296 = if 0 ≤ n then n % 4294967296 else -((-n) % 4294967296) := by
    by_cases h : 0 ≤ n
    · rw [if_pos h, Int.tmod_eq_emod_of_nonneg h]
    · rw [if_neg h, ← Int.tmod_eq_emod_of_nonneg (by omega : 0 ≤ -n), Int.neg_tmod, Int.neg_neg]
  rw [h]
  unfold wrap32 wrap64
  split <;> omega
theorem amtS_zero : amtS 0 = 0 := by decide +kernel
theorem and255 (x : Int) : ∃ k : Nat, bits .and .i64 x 255 = (k : Int) := by
  refine ⟨(BitVec.ofInt 64 x &&& 255#64).toNat, ?_⟩
  rw [bits_and_eq, show BitVec.ofInt 64 255 = 255#64 from by decide]
  have : (BitVec.ofInt 64 x &&& 255#64).toNat ≤ 255 := by
    rw [BitVec.toNat_and]; exact Nat.and_le_right
  rw [BitVec.toInt_eq_toNat_of_lt (by omega)]

set_option maxHeartbeats 4000000 in
theorem body56 (y : Int) (w : World) : Calls Tryd.prog 56 #[I y] w fun e w' => e = .returned (I (wr56 y)) ∧ w' = w := by
  have HE : Hid (wr56 y = (if (if y.tmod 4294967296 < 0 then wrap64 (y.tmod 4294967296 + 4294967296) else y.tmod 4294967296) ≥ 2147483648 then wrap64 ((if y.tmod 4294967296 < 0 then wrap64 (y.tmod 4294967296 + 4294967296) else y.tmod 4294967296) - 4294967296) else (if y.tmod 4294967296 < 0 then wrap64 (y.tmod 4294967296 + 4294967296) else y.tmod 4294967296))) := ⟨rfl⟩
  go_enter Tryd.func56, Tryd.ntmps56
  by_cases h1 : y.tmod 4294967296 < 0
  · have H1 : Hid (y.tmod 4294967296 < 0) := ⟨h1⟩
    by_cases h2 : wrap64 (y.tmod 4294967296 + 4294967296) ≥ 2147483648
    · have H2 : Hid _ := ⟨h2⟩
      go_wp2_with fail
      go_ret
      rw [HE.out, if_pos H1.out, if_pos H2.out]; exact ⟨rfl, rfl⟩
    · have H2 : Hid _ := ⟨h2⟩
      go_wp2_with fail
      go_ret
      rw [HE.out, if_pos H1.out, if_neg (Int.not_le.2 H2.out)]; exact ⟨rfl, rfl⟩
  · have H1 : Hid (¬ y.tmod 4294967296 < 0) := ⟨h1⟩
    by_cases h2 : y.tmod 4294967296 ≥ 2147483648
    · have H2 : Hid _ := ⟨h2⟩
      go_wp2_with fail
      go_ret
      rw [HE.out, if_neg (Int.not_lt.2 H1.out), if_pos H2.out]; exact ⟨rfl, rfl⟩
    · have H2 : Hid _ := ⟨h2⟩
      go_wp2_with fail
      go_ret
      rw [HE.out, if_neg (Int.not_lt.2 H1.out), if_neg (Int.not_le.2 H2.out)]; exact ⟨rfl, rfl⟩
end Go.Proofs.YtcfmffmcammbjaaDoor.R1

/- A law's last stretch: a lone walk to its return; and its end. -/
set_option linter.unusedSimpArgs false
set_option linter.unusedVariables false
namespace Go.Proofs.YtcfmffmcammbjaaDoor.Gen
open Go Go.Lift Go.Conc Go.RowKit

/-- Code that returns, walked alone. -/
theorem goesI_retZ {Ch : Nat → Prop} {Stop : Goroutine → World → Prop} {main : Bool} {f : FuncId} {c : Code} {act : Act} {more : List Item} {cs : List Frame} {v w : World} {Q : Act → World → Prop} (hvw : Rel zn v w) (hn : NoRow Ch v) (hc : fineCode Tryd.prog true LV c) (ha : act.defers = [])
    (hwp : ∀ τ, c.wp Tryd.prog (fun e a w' => e = .ret ∧ Q a w') act (onTape v τ 0))
    (h : ∀ a' v' w' todo, Q a' v' → a'.defers = [] → Rel zn v' w' → NoRow Ch v' → GoesI Tryd.prog main (DT (ScZ zn) Ch) Stop (G { (base f).at a' todo with mode := .returning } cs) w') :
    GoesI Tryd.prog main (DT (ScZ zn) Ch) Stop (G ((base f).at act (.code c :: more)) cs) w := by
  have hfin := lift_code (P := Tryd.prog) (z := zn) (wr := true) (L := LV) (D := DT (ScZ zn) Ch) (I := NoRow Ch) (main := main) (b := base f) (k := more) (cs := cs) hE fineV noRow_keeps (fun v v' w w' es hi hr ho he => dt_of_z v v' w w' es hi hr ho he) hvw hc ha (by simp [base]) hn
    (Q := fun e a w' => e = .ret ∧ Q a w') hwp (fun e a w hq => .inr hq.1)
  refine hfin.then ?_
  rintro g w' ⟨a', v', hr, hiv, hd, ⟨⟨hq, _⟩, _⟩ | ⟨⟨_, hQ⟩, todo, rfl⟩⟩
  · cases hq
  · exact h a' v' w' todo hQ hd hr hiv

theorem _root_.Go.Proofs.YtcfmffmcammbjaaDoor.Grows.toAt {W v w : World} (h : Grows W v) (hr : Rel zn v w) (d : Nat) : Grows W (w.at d) := by
  have e : (w.at d).heap = v.heap := hr.eq
  exact ⟨by rw [e]; exact h.size, fun b hb => by rw [e]; exact h.old b hb, hr.os.trans h.os, hr.output.trans h.output⟩
theorem _root_.Go.Proofs.YtcfmffmcammbjaaDoor.Grows.andThen {W v w : World} (h : Grows W v) (k : Grows v w) : Grows W w := ⟨Nat.le_trans h.size k.size, fun b hb => by rw [k.old b (by have := h.size; omega), h.old b hb], k.os.trans h.os, k.output.trans h.output⟩
def PostT (W : World) (r : Value) (w' : World) : Prop := r = .bool true ∧ Grows W w'
end Go.Proofs.YtcfmffmcammbjaaDoor.Gen
