/- LockAlone: for every schedule and all scripts, what threads are told together under the lock is what one thread would be told that makes the calls in the order of the tickets; no conditions. Part 33 of 34. (Joined, by program, of: LokY, LokZ, GPts, LokAw1, LokAw2, LokAw3.) -/
import Derived.Test.YtfjjoohflcchnaaLockAlone20
import Derived.Test.YtfjjoohflcchnaaLockAlone22
import Derived.Test.YtfjjoohflcchnaaLockAlone28
import Derived.Test.YtfjjoohflcchnaaLockAlone32
import Derived.KernelRfl
set_option linter.unusedSimpArgs false
set_option linter.unusedVariables false
namespace Go.Proofs.Ytfjjoohflcchnaa.Gen
open Go Go.Lift Go.Conc Go.RowKit

set_option maxHeartbeats 2000000 in
set_option maxRecDepth 100000 in
theorem body35 {v : World} {S : TS} (hm : Mem zn S [] v) (hch : S.chg = []) : Body Try.f37 #[Pt S.wb 0] v (fun r v' => ∃ lb c0 c1, r = Pt lb 0 ∧ v'.heap.size = lb + 1 ∧ ∃ S1, Objs v S [0, 0] (padd (fun _ => none) lb (.cells #[Pt c0 0, Pt c1 0] 104)) S1 [(c0, 0), (c1, 0)] v') := by
  intro code hb
  obtain rfl := Option.some.inj hb
  clear hb
  have H1 : Hid (Calls Try.prog 21 #[Pt S.wb 0, I 0] v (fun e w1 => ∃ c0, e = .returned (Pt c0 0) ∧ Hid (Calls Try.prog 21 #[Pt S.wb 0, I 0] w1 (fun e w2 => ∃ c1, e = .returned (Pt c1 0) ∧ Hid (∀ u, u.heap = w2.heap.push (.cells #[Pt c0 0, Pt c1 0] 104) → u.os = w2.os → u.output = w2.output → ∃ S1, Objs v S [0, 0] (padd (fun _ => none) w2.heap.size (.cells #[Pt c0 0, Pt c1 0] 104)) S1 [(c0, 0), (c1, 0)] u))))) := ⟨((Objs.start hm hch).cell 0 (by decide)).mono (by
    rintro e w1 ⟨c0, rfl, hs, S1, o1⟩
    refine ⟨c0, rfl, ⟨(o1.cell 0 (by simp)).mono ?_⟩⟩
    rintro e w2 ⟨c1, rfl, hs2, S2, o2⟩
    exact ⟨c1, rfl, ⟨fun u e e1 e2 => ⟨S2, o2.push e e1 e2⟩⟩⟩)⟩
  clear hm hch
  simp only [Try.ntmps37, List.size_toArray, List.length_cons, List.length_nil, Nat.reduceAdd, Nat.reduceSub, Array.replicate_succ, Array.replicate_zero, List.push_toArray, List.append_toArray, List.nil_append, List.cons_append]
  go_wp2_with (first
    | (go_at_call 21; refine H1.out.mono ?_; rintro e w1 ⟨c0, rfl, H2⟩)
    | (go_at_call 21; refine H2.out.mono ?_; rintro e w2 ⟨c1, rfl, H3⟩))
  go_ret
  exact ⟨_, rfl, w2.heap.size, c0, c1, rfl, by show (w2.heap.push _).size = _; exact Array.size_push _, H3.out _ rfl rfl rfl⟩

noncomputable def B31 : Code := Try.f33.body.getD .skip
noncomputable def k310 : Code := seq1 B31
noncomputable def k311 : Code := seq1 (seq2 B31)
noncomputable def k312 : Code := seq1 (seq2 (seq2 B31))
noncomputable def k313 : Code := seq1 (seq2 (seq2 (seq2 B31)))
noncomputable def R31 : Code := seq2 (seq2 (seq2 (seq2 B31)))
theorem eB31 : B31 = .seq k310 (.seq k311 (.seq k312 (.seq k313 R31))) := by kernel_rfl
theorem fine310 : fineCode Try.prog true LV k310 := fineCode_askS callV extT (by kernel_rfl)
theorem fine311 : fineCode Try.prog true LV k311 := fineCode_askS callV extT (by kernel_rfl)
theorem fine312 : fineCode Try.prog true LV k312 := fineCode_askS callV extT (by kernel_rfl)
theorem fine313 : fineCode Try.prog true LV k313 := fineCode_askS callV extT (by kernel_rfl)

section
variable {S : TS} {v : World} {wb n cap : Nat} {p : Option Addr}
set_option maxHeartbeats 2000000 in
set_option maxRecDepth 100000 in
theorem k310_wp (x1 : Value) :
    k310.wp Try.prog (fun e a w' => e = .normal ∧ a = { tmps := #[Pt wb 0, x1, undef, undef, .slice none 0 0, I 0] ++ Array.replicate 17 undef, defers := [] } ∧ w'.heap = v.heap ∧ w'.os = v.os ∧ w'.output = v.output)
      { tmps := #[Pt wb 0, x1] ++ Array.replicate 21 undef, defers := [] } v := by
  show Code.wp Try.prog (seq1 (Try.f33.body.getD .skip)) _ _ _
  unfold Try.f33 seq1
  simp only [Option.getD_some, Array.replicate_succ, Array.replicate_zero, List.push_toArray, List.append_toArray, List.nil_append, List.cons_append]
  go_wp2_with fail
  try exact ⟨rfl, rfl, rfl⟩

set_option maxHeartbeats 2000000 in
set_option maxRecDepth 100000 in
theorem k311_yes (h : Rep zn S v) (pc : Nat → Option Addr) (ln cp : Nat → Nat) (hs : ∀ k, k < n → ∃ sb so, p = some ⟨sb, so, none⟩ ∧ v.cell? ⟨sb, so + k, none⟩ = some (.slice (pc k) (ln k) (cp k))) (hln : ∀ k, k < n → ln k ≤ 64) (hn : 0 < n ∧ n ≤ 8) (hr : S.ran = false) :
    k311.wp Try.prog (fun e a w' => e = .normal ∧ a = { tmps := #[Pt S.wb 0, .slice p n cap, undef, undef, .slice none 0 0, I 0, I 0, undef, undef, Pt S.wb 0, .slice p n cap, I 0, I 0, .bool false] ++ Array.replicate 9 undef, defers := [] } ∧ w'.heap = v.heap ∧ w'.os = v.os ∧ w'.output = v.output)
      { tmps := #[Pt S.wb 0, .slice p n cap, undef, undef, .slice none 0 0, I 0] ++ Array.replicate 17 undef, defers := [] } v := by
  have h19 := (body19 h p n cap (by omega) pc ln cp hs).calls Try.func53 rfl
  have he : checkE n S.ran = 0 := by unfold checkE; rw [if_neg (by rw [hr]; rintro (h | h | h) <;> first | omega | cases h)]
  have H19 : Hid (Calls Try.prog 53 #[Pt S.wb 0, .slice p n cap] v (fun e w' => e = .returned (I 0) ∧ w' = v)) := ⟨h19.mono (by
    rintro e w' ⟨r, rfl, rfl, ⟨⟨k, hk, h1⟩, _⟩ | ⟨_, rfl⟩⟩
    · exact absurd (hln k hk) (by omega)
    · rw [he]; exact ⟨rfl, rfl⟩)⟩
  clear h19 h hs hln hn hr he
  show Code.wp Try.prog (seq1 (seq2 (Try.f33.body.getD .skip))) _ _ _
  unfold Try.f33 seq1 seq2
  simp only [Option.getD_some, Array.replicate_succ, Array.replicate_zero, List.push_toArray, List.append_toArray, List.nil_append, List.cons_append]
  go_wp2_with (first
    | (go_at_call 53; refine H19.out.mono ?_; rintro e w1 ⟨rfl, rfl⟩))
  try exact ⟨rfl, rfl, rfl⟩

set_option maxHeartbeats 2000000 in
set_option maxRecDepth 100000 in
theorem k312_wp (hm : Mem zn S [] v) (hch : S.chg = []) (x1 : Value) :
    k312.wp Try.prog (fun e a w' => e = .normal ∧ ∃ lb c0 c1, a = { tmps := #[Pt S.wb 0, x1, undef, undef, .slice none 0 0, I 0, I 0, Pt (lb + 1) 0, undef, Pt S.wb 0, x1, I 0, I 0, .bool false, undef, Pt S.wb 0, Pt lb 0] ++ Array.replicate 6 undef, defers := [] } ∧ ∃ S1, Objs v S [0, 0] (padd (padd (fun _ => none) lb (.cells #[Pt c0 0, Pt c1 0] 104)) (lb + 1) (.cells #[Pt lb 0] 61)) S1 [(c0, 0), (c1, 0)] w')
      { tmps := #[Pt S.wb 0, x1, undef, undef, .slice none 0 0, I 0, I 0, undef, undef, Pt S.wb 0, x1, I 0, I 0, .bool false] ++ Array.replicate 9 undef, defers := [] } v := by
  have H1 : Hid (Calls Try.prog 37 #[Pt S.wb 0] v (fun e w' => ∃ lb c0 c1, e = .returned (Pt lb 0) ∧ w'.heap.size = lb + 1 ∧ Hid (∀ u, u.heap = w'.heap.push (.cells #[Pt lb 0] 61) → u.os = w'.os → u.output = w'.output → ∃ S1, Objs v S [0, 0] (padd (padd (fun _ => none) lb (.cells #[Pt c0 0, Pt c1 0] 104)) (lb + 1) (.cells #[Pt lb 0] 61)) S1 [(c0, 0), (c1, 0)] u))) := ⟨((body35 hm hch).calls Try.func37 rfl).mono (by
    rintro e w' ⟨r, rfl, lb, c0, c1, rfl, hs, S1, o⟩
    refine ⟨lb, c0, c1, rfl, hs, ⟨fun u e e1 e2 => ⟨S1, ?_⟩⟩⟩
    have := o.push e e1 e2
    rw [hs] at this
    exact this)⟩
  clear hm hch
  show Code.wp Try.prog (seq1 (seq2 (seq2 (Try.f33.body.getD .skip)))) _ _ _
  unfold Try.f33 seq1 seq2
  simp only [Option.getD_some, Array.replicate_succ, Array.replicate_zero, List.push_toArray, List.append_toArray, List.nil_append, List.cons_append]
  go_wp2_with (first
    | (go_at_call 37; refine H1.out.mono ?_; rintro e w1 ⟨lb, c0, c1, rfl, hs, H2⟩))
  exact ⟨c0, c1, H2.out _ rfl rfl rfl⟩

set_option maxHeartbeats 2000000 in
set_option maxRecDepth 100000 in
theorem k313_wp {v0 : World} {pk : Nat → Option Obj} {S1 : TS} {c0 c1 : Nat} (o : Objs v0 S [0, 0] pk S1 [(c0, 0), (c1, 0)] v) (x1 : Value) (lb : Nat) :
    k313.wp Try.prog (fun e a w' => e = .normal ∧ ∃ gb xx, a = { tmps := #[Pt S.wb 0, x1, undef, undef, .slice none 0 0, I 0, I 0, Pt (lb + 1) 0, Pt xx 0, Pt S.wb 0, x1, I 0, I 0, .bool false, undef, Pt S.wb 0, Pt lb 0, Pt S.wb 0, Pt gb 0] ++ Array.replicate 4 undef, defers := [] } ∧ v.heap.size ≤ xx ∧ ∃ S1, Objs v0 S [0, 0, 0] (padd pk xx (.cells #[Pt gb 0] 44)) S1 [(c0, 0), (c1, 0), (gb, 0)] w')
      { tmps := #[Pt S.wb 0, x1, undef, undef, .slice none 0 0, I 0, I 0, Pt (lb + 1) 0, undef, Pt S.wb 0, x1, I 0, I 0, .bool false, undef, Pt S.wb 0, Pt lb 0] ++ Array.replicate 6 undef, defers := [] } v := by
  have H1 : Hid (Calls Try.prog 21 #[Pt S.wb 0, I 0] v (fun e w' => ∃ gb, e = .returned (Pt gb 0) ∧ v.heap.size ≤ w'.heap.size ∧ Hid (∀ u, u.heap = w'.heap.push (.cells #[Pt gb 0] 44) → u.os = w'.os → u.output = w'.output → ∃ S1, Objs v0 S [0, 0, 0] (padd pk w'.heap.size (.cells #[Pt gb 0] 44)) S1 [(c0, 0), (c1, 0), (gb, 0)] u))) := ⟨(o.cell 0 (by decide)).mono (by
    rintro e w' ⟨gb, rfl, hs, S2, o2⟩
    exact ⟨gb, rfl, hs, ⟨fun u e e1 e2 => ⟨S2, o2.push e e1 e2⟩⟩⟩)⟩
  clear o
  show Code.wp Try.prog (seq1 (seq2 (seq2 (seq2 (Try.f33.body.getD .skip))))) _ _ _
  unfold Try.f33 seq1 seq2
  simp only [Option.getD_some, Array.replicate_succ, Array.replicate_zero, List.push_toArray, List.append_toArray, List.nil_append, List.cons_append]
  go_wp2_with (first
    | (go_at_call 21; refine H1.out.mono ?_; rintro e w1 ⟨gb, rfl, hs, H2⟩))
  exact ⟨gb, w1.heap.size, ⟨rfl, rfl⟩, hs, H2.out _ rfl rfl rfl⟩
end

/-- What the lock's threads read. -/
def QLock (caps : Array Value) (pk : Nat → Option Obj) (K : List (Nat × Int)) : Prop :=
  ∃ lb xx c0 c1 gb, caps = #[Pt (lb + 1) 0, Pt xx 0] ∧ lb + 1 < xx ∧ pk = padd (padd (padd (fun _ => none) lb (.cells #[Pt c0 0, Pt c1 0] 104)) (lb + 1) (.cells #[Pt lb 0] 61)) xx (.cells #[Pt gb 0] 44) ∧ K = [(c0, 0), (c1, 0), (gb, 0)]
theorem mineLock (caps : Array Value) (pk : Nat → Option Obj) (K : List (Nat × Int)) (h : QLock caps pk K) (X : Fix mcLock) (hf : X.fid = 66) (hc : X.caps = caps) (hp : X.pk = pk) (hk : X.kb = K.map (·.1)) : pkgLock.Mine X := by
  obtain ⟨lb, xx, c0, c1, gb, rfl, hlt, rfl, rfl⟩ := h
  refine ⟨lb + 1, xx, lb, gb, c0, c1, hc, fun v hv => ?_, by rw [hk]; rfl, by rw [hk]; rfl, by rw [hk]; rfl⟩
  rw [hp] at hv
  have h1 := hv xx _ (padd_at _ _ _)
  have h2 := hv (lb + 1) (.cells #[Pt lb 0] 61) (by rw [padd_ne (by omega), padd_at])
  have h3 := hv lb (.cells #[Pt c0 0, Pt c1 0] 104) (by rw [padd_ne (by omega), padd_ne (by omega), padd_at])
  exact ⟨cell_of h2 rfl, cell_of h1 rfl, cell_of h3 rfl, cell_of h3 rfl⟩

set_option maxHeartbeats 2000000 in
set_option maxRecDepth 100000 in
theorem lplay_in {Ch : Nat → Prop} {Stop : Goroutine → World → Prop} {main : Bool} {S : TS} {v w : World} (p : Option Addr) (n cap : Nat) (hn8 : 0 < n ∧ n ≤ 8) (hran : S.ran = false) (hch : S.chg = []) (pc : Nat → Option Addr) (ln cp : Nat → Nat) (hln : ∀ k, k < n → ln k ≤ 64) (hs : ∀ k, k < n → ∃ sb so, p = some ⟨sb, so, none⟩ ∧ v.cell? ⟨sb, so + k, none⟩ = some (.slice (pc k) (ln k) (cp k)))
    (hm : Mem zn S [] v) (cs : List Frame) {bc : Frame} {ac : Act} {ops : Array Oper} {q : Nat} {rest : List Nat} {oc : Oper} {k : List Item} (hoc : ops[q]? = some oc)
    (hvw : Rel zn v w) (hn : NoRow Ch v)
    (hk : ∀ v' w' (bd : Frame) (ad : Act) (od : Array Oper) (qd : Nat) (rd : List Nat) (oe : Oper) (kd : List Item) (caps : Array Value) (pk : Nat → Option Obj) (S1 : TS) (K : List (Nat × Int)), Rel zn v' w' → NoRow Ch v' → Objs v S [0, 0, 0] pk S1 K v' → QLock caps pk K → od[qd]? = some oe →
      (∀ (Ch : Nat → Prop) (Stop : Goroutine → World → Prop) (w : World) (x : Value), (∀ d, GoesI Try.prog main (DT (ScZ zn) Ch) Stop (G (bc.at (ac.put oc.dst (.tuple #[x, I 0])) (.inRegion ops rest :: k)) cs) (w.at d)) → GoesI Try.prog main (DT (ScZ zn) Ch) Stop (G (bd.at (ad.put oe.dst x) (.inRegion od rd :: kd)) (bc.at ac (.inRegion ops (q :: rest) :: k) :: cs)) w) →
      GoesI Try.prog main (DT (ScZ zn) Ch) Stop (G ((base 54).at { tmps := #[Pt S.wb 0, .slice p n cap, .func (.func 66) #[] caps] ++ Array.replicate 36 undef, defers := [] } [.code B20]) (bd.at ad (.inRegion od (qd :: rd) :: kd) :: bc.at ac (.inRegion ops (q :: rest) :: k) :: cs)) w') :
    GoesI Try.prog main (DT (ScZ zn) Ch) Stop (G ((base 33).at { tmps := #[Pt S.wb 0, .slice p n cap] ++ Array.replicate 21 undef, defers := [] } [.code B31]) (bc.at ac (.inRegion ops (q :: rest) :: k) :: cs)) w := by
  rw [eB31]
  refine goesI_seq (dt_idle _ _) ?_
  refine goesI_plain (z := zn) (wr := true) (L := LV) (I := NoRow Ch) hE fineV noRow_keeps (fun v v' w w' es hi hr ho he => dt_of_z v v' w w' es hi hr ho he) hvw fine310 rfl (by simp [base]) hn
    (Q := fun a w' => a = { tmps := #[Pt S.wb 0, .slice p n cap, undef, undef, .slice none 0 0, I 0] ++ Array.replicate 17 undef, defers := [] } ∧ w'.heap = v.heap ∧ w'.os = v.os ∧ w'.output = v.output) (fun τ => k310_wp (v := onTape v τ 0) _) ?_
  rintro a0 v0 w0 ⟨rfl, e0, o0, u0⟩ hr0 hn0 -
  have m0 : Mem zn S [] v0 := (hm.grows (v' := v0) ⟨by rw [e0]; exact Nat.le_refl _, fun b _ => by rw [e0], o0, u0⟩).mem
  refine goesI_seq (dt_idle _ _) ?_
  refine goesI_plain (z := zn) (wr := true) (L := LV) (I := NoRow Ch) hE fineV noRow_keeps (fun v v' w w' es hi hr ho he => dt_of_z v v' w w' es hi hr ho he) hr0 fine311 rfl (by simp [base]) hn0
    (Q := fun a w' => a = { tmps := #[Pt S.wb 0, .slice p n cap, undef, undef, .slice none 0 0, I 0, I 0, undef, undef, Pt S.wb 0, .slice p n cap, I 0, I 0, .bool false] ++ Array.replicate 9 undef, defers := [] } ∧ w'.heap = v0.heap ∧ w'.os = v0.os ∧ w'.output = v0.output)
    (fun τ => k311_yes (v := onTape v0 τ 0) (m0.grows (v' := onTape v0 τ 0) ⟨Nat.le_refl _, fun _ _ => rfl, rfl, rfl⟩).mem.rep pc ln cp (fun k hk => by
      obtain ⟨sb, so, h1, h2⟩ := hs k hk
      refine ⟨sb, so, h1, ?_⟩
      rw [World.cell?_of_block (w := v) (w' := onTape v0 τ 0) (by show v0.heap[_]? = _; rw [e0])]
      exact h2) hln hn8 hran) ?_
  rintro a1 v1 w1 ⟨rfl, e1, o1, u1⟩ hr1 hn1 -
  have m1 : Mem zn S [] v1 := (m0.grows (v' := v1) ⟨by rw [e1]; exact Nat.le_refl _, fun b _ => by rw [e1], o1, u1⟩).mem
  refine goesI_seq (dt_idle _ _) ?_
  refine goesI_plain (z := zn) (wr := true) (L := LV) (I := NoRow Ch) hE fineV noRow_keeps (fun v v' w w' es hi hr ho he => dt_of_z v v' w w' es hi hr ho he) hr1 fine312 rfl (by simp [base]) hn1
    (Q := fun a w' => ∃ lb c0 c1, a = { tmps := #[Pt S.wb 0, .slice p n cap, undef, undef, .slice none 0 0, I 0, I 0, Pt (lb + 1) 0, undef, Pt S.wb 0, .slice p n cap, I 0, I 0, .bool false, undef, Pt S.wb 0, Pt lb 0] ++ Array.replicate 6 undef, defers := [] } ∧ ∃ S1, Objs v1 S [0, 0] (padd (padd (fun _ => none) lb (.cells #[Pt c0 0, Pt c1 0] 104)) (lb + 1) (.cells #[Pt lb 0] 61)) S1 [(c0, 0), (c1, 0)] w') (fun τ => ?_) ?_
  · refine wp_mono (k312_wp (v := onTape v1 τ 0) (m1.grows (v' := onTape v1 τ 0) ⟨Nat.le_refl _, fun _ _ => rfl, rfl, rfl⟩).mem hch _) (fun e a w' hq => ⟨hq.1, ?_⟩)
    obtain ⟨_, lb, c0, c1, h1, S1, o⟩ := hq
    exact ⟨lb, c0, c1, h1, S1, ⟨o.cel.from rfl rfl rfl, o.vals, o.st, o.has, o.new, o.row⟩⟩
  rintro a2 v2 w2 ⟨lb, c0, c1, rfl, S2, ob2⟩ hr2 hn2 -
  have hlb : lb + 1 < v2.heap.size := (Array.getElem?_eq_some_iff.1 (ob2.has (lb + 1) _ (padd_at _ _ _))).1
  refine goesI_seq (dt_idle _ _) ?_
  refine goesI_plain (z := zn) (wr := true) (L := LV) (I := NoRow Ch) hE fineV noRow_keeps (fun v v' w w' es hi hr ho he => dt_of_z v v' w w' es hi hr ho he) hr2 fine313 rfl (by simp [base]) hn2
    (Q := fun a w' => ∃ gb xx, a = { tmps := #[Pt S.wb 0, .slice p n cap, undef, undef, .slice none 0 0, I 0, I 0, Pt (lb + 1) 0, Pt xx 0, Pt S.wb 0, .slice p n cap, I 0, I 0, .bool false, undef, Pt S.wb 0, Pt lb 0, Pt S.wb 0, Pt gb 0] ++ Array.replicate 4 undef, defers := [] } ∧ v2.heap.size ≤ xx ∧ ∃ S1, Objs v1 S [0, 0, 0] (padd (padd (padd (fun _ => none) lb (.cells #[Pt c0 0, Pt c1 0] 104)) (lb + 1) (.cells #[Pt lb 0] 61)) xx (.cells #[Pt gb 0] 44)) S1 [(c0, 0), (c1, 0), (gb, 0)] w')
    (fun τ => k313_wp (v := onTape v2 τ 0) (v0 := v1) (ob2.same rfl rfl rfl) _ lb) ?_
  rintro a3 v3 w3 ⟨gb, xx, rfl, hxx, S3, ob3⟩ hr3 hn3 -
  have hset : Objs v S [0, 0, 0] (padd (padd (padd (fun _ => none) lb (.cells #[Pt c0 0, Pt c1 0] 104)) (lb + 1) (.cells #[Pt lb 0] 61)) xx (.cells #[Pt gb 0] 44)) S3 [(c0, 0), (c1, 0), (gb, 0)] v3 :=
    ⟨ob3.cel.from (e1.trans e0) (o1.trans o0) (u1.trans u0), ob3.vals, ob3.st, ob3.has, fun b hb => by rw [← e0, ← e1]; exact ob3.new b hb, ob3.row⟩
  have hql : QLock #[Pt (lb + 1) 0, Pt xx 0] (padd (padd (padd (fun _ => none) lb (.cells #[Pt c0 0, Pt c1 0] 104)) (lb + 1) (.cells #[Pt lb 0] 61)) xx (.cells #[Pt gb 0] 44)) [(c0, 0), (c1, 0), (gb, 0)] := ⟨lb, xx, c0, c1, gb, rfl, by omega, rfl, rfl⟩
  clear ob2 ob3 hr0 hr1 hr2 hn0 hn1 hn2 e0 e1 o0 o1 u0 u1 hvw hn hs hln m0 m1 hm hlb hxx
  unfold R31 B31 Try.f33 seq2
  simp only [Option.getD_some]
  refine goesI_seq (dt_idle _ _) ?_
  refine goesI_region (dt_idle _ _) ?_
  simp only [List.size_toArray, List.length_cons, List.length_nil, Nat.reduceAdd, Nat.zero_add, List.range, List.range.loop]
  iterate 3
    (refine goesI_oper rfl rfl (by decide) (fun d K hK => ?_)
     go_simp
     refine hK _ _ ⟨dt_reads (fun e he => ?_), GoesI.at ?_ d⟩
     · have hm := mem_listed he
       simp [go_sem, *] at hm
       try exact ⟨_, _, hm⟩
     clear hK K)
  refine goesI_into (f := 54) (fn := Try.f54) (args := #[Pt S.wb 0, .slice p n cap, .func (.func 66) #[] #[Pt (lb + 1) 0, Pt xx 0]]) (dt_idle _ _) rfl rfl (by decide) rfl (by simp [Act.eval]) Try.func54 (by decide) rfl ?_
  refine hk v3 w3 _ _ _ _ _ _ _ _ _ _ _ hr3 hn3 hset hql rfl (fun Ch Stop w x hg => ?_)
  clear hk hset hr3 hn3 hql
  iterate 2
    (refine goesI_oper rfl rfl (by decide) (fun d K hK => ?_)
     go_simp
     refine hK _ _ ⟨dt_reads (fun e he => ?_), GoesI.at ?_ d⟩
     · have hm := mem_listed he
       simp [go_sem, *] at hm
       try exact ⟨_, _, hm⟩
     clear hK K)
  refine goesI_regionEnd (dt_idle _ _) ?_
  refine GoesI.ctl rfl (fun _ => stepG_ret') (dt_idle _ _) ?_
  refine goesI_leave (b := base 33) (fn := Try.f33) (v := .tuple #[x, I 0]) rfl rfl Try.func33 (fun w => ?_) (fun w => by simp [results, go_sem, Try.f33]) hoc (dt_idle _ _) ?_
  · rw [results_tmp2 (t := 4) (u := 5) rfl]
    simp
  · have := hg w.drawn
    exact this

end Go.Proofs.Ytfjjoohflcchnaa.Gen

namespace Go.Proofs.Ytfjjoohflcchnaa.Gen
open Go Go.Lift Go.Conc Go.RowKit

section
variable {S : TS} {n sb so cap : Nat} {pc : Nat → Option Addr} {ln cp rb : Nat → Nat} {cl : Nat → List Cl}
theorem lplay_all {cs : List Frame} {bc : Frame} {ac : Act} {ops : Array Oper} {q0 : Nat} {rest : List Nat} {oc : Oper} {k0 : List Item} (hoc : ops[q0]? = some oc) {w : World} {T : Trace} {gs : Array Goroutine} {q : Nat → Nat} (sl : Option (Nat × Nat)) (NT : Nat) (A : Alone gs w T q)
    (hg : gs[0]? = some (G ((base 33).at { tmps := #[Pt S.wb 0, .slice (some ⟨sb, so, none⟩) n cap] ++ Array.replicate 21 undef, defers := [] } [.code B31]) (bc.at ac (.inRegion ops (q0 :: rest) :: k0) :: cs)))
    (hm : Mem zn S [] w) (hthr : S.thr = []) (hran : S.ran = false) (hch : S.chg = []) (hbk : Open w S.bk) (t : Asked w S n sb so pc ln cp rb cl) (hn8 : 0 < n ∧ n ≤ 8)
    (hlen : ∀ caps pk N K, S.n + 2 * lens (scrs mcLock 66 caps pk N n K pc ln cp rb cl) ≤ 1000000) (hsl : S.sched.length ≤ 4611686018427387904) (hsc : ∀ x ∈ S.sched, -9223372036854775808 ≤ x ∧ x < 9223372036854775808) (l0 : Nat → Ph)
    (hturn : ∀ (caps : Array Value) (pk : Nat → Option Obj) (N : Nat) (cv : Value) (K : List (Nat × Int)), K.map (·.2) = [0, 0, 0] → ∀ S1 l1, Hires mcLock 0 (scrs mcLock 66 caps pk N n K pc ln cp rb cl) (nv { cellsS S cv 3 with ran := true }) l0 S1 l1 → ∃ m p', m ≤ NT ∧ Turns mcLock m ⟨S1, K, l1⟩ p' ∧ p'.S.n * 40 ≤ 140737488355328) :
    ∃ (N' : Nat) (gs' : Array Goroutine) (w' : World) (sl' : Option (Nat × Nat)) (T' : Trace) (q' : Nat → Nat) (caps : Array Value) (pk : Nat → Option Obj) (N : Nat) (cv : Value) (K : List (Nat × Int)) (S' : TS) (S1 : TS) (l1 : Nat → Ph) (m : Nat) (p' : PSt),
      runNT Try.prog N' (crowd gs w sl) T = (.next (crowd gs' w' sl'), T') ∧ gs'.size = gs.size + n ∧ gs'[0]? = some (G (bc.at (ac.put oc.dst (.tuple #[.slice (some ⟨N + 1, 0, none⟩) n n, I 0])) (.inRegion ops rest :: k0)) cs) ∧
      Alone gs' w' T' q' ∧ K.map (·.2) = [0, 0, 0] ∧ nv S' = p'.S ∧ Hires mcLock 0 (scrs mcLock 66 caps pk N n K pc ln cp rb cl) (nv { cellsS S cv 3 with ran := true }) l0 S1 l1 ∧ Turns mcLock m ⟨S1, K, l1⟩ p' ∧ GOut w S n ln N S' p'.K p'.l w' := by
  refine gplay_all (xs := [0, 0, 0]) (cap := cap) (q0 := q0) pkgLock mineLock sl NT A hg ?_ hm hthr hran hbk t hn8 hlen hsl hsc l0 hturn
  exact lplay_in (some ⟨sb, so, none⟩) n cap hn8 hran hch pc ln cp (fun k hk => (t.len k hk).2) (fun k hk => ⟨sb, so, rfl, t.row k hk⟩) hm cs hoc (Rel.refl w) (fun c hc => hc.elim)
    (fun v' w' bd ad od qd rd oe kd caps pk S1 K hr hn ho hq hoe hback => GoesI.stop fun d => ⟨bd, ad, od, qd, rd, oe, kd, caps, pk, S1, K, ho.same hr.eq hr.os hr.output, hq, hoe, hback, rfl⟩)
end
end Go.Proofs.Ytfjjoohflcchnaa.Gen

namespace Go.Proofs.Ytfjjoohflcchnaa.Gen
open Go Go.Lift Go.Conc Go.RowKit
variable {mc : Mc}

theorem turns_det : ∀ {m m' : Nat} {p p1 p2 : PSt}, Turns mc m p p1 → Turns mc m' p p2 → p1 = p2
  | _, _, _, _, _, .stop h, .stop h' => rfl
  | _, _, _, _, _, .stop h, .step h' _ => by rw [h] at h'; cases h'
  | _, _, _, _, _, .step h _, .stop h' => by rw [h] at h'; cases h'
  | _, _, _, _, _, .step h t, .step h' t' => by
    rw [h] at h'
    cases h'
    exact turns_det t t'
def pt (mc : Mc) (p : PSt) : PSt := (pturn mc p).getD p
def pts (mc : Mc) : Nat → PSt → PSt
  | 0, p => p
  | n + 1, p => pts mc n (pt mc p)
def runs (mc : Mc) : Nat → PSt → Bool
  | 0, p => (pturn mc p).isNone
  | n + 1, p => (pturn mc p).isSome && runs mc n (pt mc p)
theorem turns_of : ∀ (n : Nat) (p : PSt), runs mc n p = true → Turns mc n p (pts mc n p)
  | 0, p, h => by
    refine .stop ?_
    cases hp : pturn mc p with
    | none => rfl
    | some x => unfold runs at h; rw [hp] at h; cases h
  | n + 1, p, h => by
    unfold runs at h
    rw [Bool.and_eq_true] at h
    refine .step ?_ (turns_of n (pt mc p) h.2)
    unfold pt
    cases hp : pturn mc p with
    | none => rw [hp] at h; cases h.1
    | some x => rfl
end Go.Proofs.Ytfjjoohflcchnaa.Gen

namespace Go.Proofs.Ytfjjoohflcchnaa.Gen
open Go Go.Lift Go.Conc Go.RowKit
open Go.ConcN (upd upd_same upd_ne)

def clsL : List Cl := [⟨1, 5, 0, 0⟩, ⟨2, 7, 0, 0⟩]
/-- The world ahead of the hiring. -/
def awS (wb bk base : Nat) (sc cv : Value) (k : Nat) : TS := nv { cellsS (newS wb bk base sc []) cv k with ran := true }
def awP (wb bk base : Nat) (sc cv : Value) (tv0 : Value) (tb0 gc0 : Nat) (c0 c1 gb : Nat) (l0 : Nat → Ph) : PSt :=
  ⟨(flow 0 mcLock clsL 0 false [(0, 0), (0, 0)] (hiredS (awS wb bk base sc cv 3) tv0 tb0 gc0)).1, [(c0, 0), (c1, 0), (gb, 0)], upd l0 0 (flow 0 mcLock clsL 0 false [(0, 0), (0, 0)] (hiredS (awS wb bk base sc cv 3) tv0 tb0 gc0)).2⟩
section
variable (wb bk base : Nat) (sc cv : Value) (tv0 : Value) (tb0 gc0 : Nat) (c0 c1 gb : Nat) (l0 : Nat → Ph)
set_option maxRecDepth 100000
theorem aw_runs : runs mcLock 10 (awP wb bk base sc cv tv0 tb0 gc0 c0 c1 gb l0) = true := by kernel_rfl
theorem aw_n : (pts mcLock 10 (awP wb bk base sc cv tv0 tb0 gc0 c0 c1 gb l0)).S.n = 14 := by kernel_rfl
theorem aw_ans : ((pts mcLock 10 (awP wb bk base sc cv tv0 tb0 gc0 c0 c1 gb l0)).l 0).ans = [(0, 0), (0, 5)] := by kernel_rfl
end
end Go.Proofs.Ytfjjoohflcchnaa.Gen

namespace Go.Proofs.Ytfjjoohflcchnaa.Gen
open Go Go.Lift Go.Conc Go.RowKit

noncomputable def B28 : Code := Try.f30.body.getD .skip
noncomputable def b280 : Code := seq1 B28
noncomputable def b281 : Code := seq1 (seq2 B28)
noncomputable def r282 : Code := seq1 (seq2 (seq2 B28))
noncomputable def T28 : Code := seq2 (seq2 (seq2 B28))
theorem eB28 : B28 = .seq b280 (.seq b281 (.seq r282 T28)) := by kernel_rfl
theorem fine280 : fineCode Try.prog true LV b280 := fineCode_askS callV extT (by kernel_rfl)
theorem fine281 : fineCode Try.prog true LV b281 := fineCode_askS callV extT (by kernel_rfl)
theorem fineT28 : fineCode Try.prog true LV T28 := fineCode_askS callV extT (by kernel_rfl)

set_option maxHeartbeats 2000000 in
set_option maxRecDepth 100000 in
theorem b280_wp {v : World} :
    b280.wp Try.prog (fun e a w' => e = .normal ∧ a = { tmps := #[.bool false] ++ Array.replicate 52 undef, defers := [] } ∧ w'.heap = v.heap ∧ w'.os = v.os ∧ w'.output = v.output)
      { tmps := Array.replicate 53 undef, defers := [] } v := by
  show Code.wp Try.prog (seq1 (Try.f30.body.getD .skip)) _ _ _
  unfold Try.f30 seq1
  simp only [Option.getD_some, Array.replicate_succ, Array.replicate_zero, List.push_toArray, List.append_toArray, List.nil_append, List.cons_append]
  go_wp2_with fail
  try exact ⟨rfl, rfl, rfl⟩

set_option maxHeartbeats 2000000 in
set_option maxRecDepth 100000 in
theorem b281_wp {v : World} :
    b281.wp Try.prog (fun e a w' => e = .normal ∧ ∃ wb bk sc, a = { tmps := #[.bool false, Pt wb 0, undef, undef, Pt wb 0] ++ Array.replicate 48 undef, defers := [] } ∧ IsNew v [] wb bk sc w')
      { tmps := #[.bool false] ++ Array.replicate 52 undef, defers := [] } v := by
  have H7 : Hid (Calls Try.prog 18 #[.slice none 0 0] v _) := ⟨(body70 (v := v) none 0).calls Try.func18 rfl⟩
  show Code.wp Try.prog (seq1 (seq2 (Try.f30.body.getD .skip))) _ _ _
  unfold Try.f30 seq1 seq2
  simp only [Option.getD_some, Array.replicate_succ, Array.replicate_zero, List.push_toArray, List.append_toArray, List.nil_append, List.cons_append]
  go_wp2_with (first
    | (go_at_call 18; refine H7.out.mono ?_; rintro e w1 ⟨_, rfl, wb, bk, sc, rfl, hnew⟩))
  exact ⟨bk, sc, hnew⟩

set_option maxHeartbeats 4000000 in
set_option maxRecDepth 100000 in
theorem T28_wp {v : World} (M A0 : Nat) (m0 : v.cell? ⟨M, 0, none⟩ = some (.slice (some ⟨A0, 0, none⟩) 2 2)) (x1 : v.cell? ⟨A0, 1, none⟩ = some (I 0)) (x2 : v.cell? ⟨A0, 2, none⟩ = some (I 0)) (x3 : v.cell? ⟨A0, 3, none⟩ = some (I 5)) (u1 u4 u5 u6 u7 u8 u9 u10 u11 u12 u13 : Value) :
    T28.wp Try.prog (fun e a w' => e = .ret ∧ ∃ x, (results Try.f30 a.tmps).run Try.prog w' = .ok x w' ∧ x = .bool true ∧ w'.heap = v.heap ∧ w'.os = v.os ∧ w'.output = v.output)
      { tmps := #[.bool false, u1, .slice (some ⟨M, 0, none⟩) 1 1, I 0, u4, u5, u6, u7, u8, u9, u10, u11, u12, u13] ++ Array.replicate 39 undef, defers := [] } v := by
  show Code.wp Try.prog (seq2 (seq2 (seq2 (Try.f30.body.getD .skip)))) _ _ _
  unfold Try.f30 seq2
  simp only [Option.getD_some, Array.replicate_succ, Array.replicate_zero, List.push_toArray, List.append_toArray, List.nil_append, List.cons_append]
  go_wp2_with fail
  exact results_tmp (t := 0) rfl _ _ _

/-- What lies there at lock.Play's entry. -/
structure Set28 (v : World) (wb bk : Nat) (sc : Value) (c : Nat) (u : World) : Prop where
  mem : Mem zn (newS wb bk v.heap.size sc []) [] u
  opn : Open u bk
  calls : u.heap[c]? = some (.cells #[I 1, I 5, I 0, I 0, I 2, I 7, I 0, I 0] 39)
  scr : u.heap[c + 1]? = some (.cells #[.slice (some ⟨c, 0, none⟩) 2 2] 37)
  own : ∀ b, Own (newS wb bk v.heap.size sc []) [] b ∨ b = bk → v.heap.size ≤ b ∧ b < c
  old : Grows v u
theorem Set28.same {v : World} {wb bk : Nat} {sc : Value} {c : Nat} {u u' : World} (h : Set28 v wb bk sc c u) (e : u'.heap = u.heap) (e1 : u'.os = u.os) (e2 : u'.output = u.output) : Set28 v wb bk sc c u' := by
  have g : Grows u u' := ⟨by rw [e]; exact Nat.le_refl _, fun b _ => by rw [e], e1, e2⟩
  refine ⟨(h.mem.grows g).mem, ?_, by rw [e]; exact h.calls, by rw [e]; exact h.scr, h.own, ⟨by rw [e]; exact h.old.size, fun b hb => by rw [e]; exact h.old.old b hb, e1.trans h.old.os, e2.trans h.old.output⟩⟩
  obtain ⟨c, m, hh⟩ := h.opn
  exact ⟨c, m, by rw [e]; exact hh⟩
/-- What lies there behind it. -/
structure Done28 (M A0 : Nat) (u : World) : Prop where
  m0 : u.cell? ⟨M, 0, none⟩ = some (.slice (some ⟨A0, 0, none⟩) 2 2)
  x1 : u.cell? ⟨A0, 1, none⟩ = some (I 0)
  x2 : u.cell? ⟨A0, 2, none⟩ = some (I 0)
  x3 : u.cell? ⟨A0, 3, none⟩ = some (I 5)

set_option maxHeartbeats 4000000 in
set_option maxRecDepth 100000 in
theorem lawake_in {Ch : Nat → Prop} {Stop : Goroutine → World → Prop} {main : Bool} {v w : World} (cs : List Frame) {bc : Frame} {ac : Act} {ops : Array Oper} {q : Nat} {rest : List Nat} {oc : Oper} {k : List Item} (hoc : ops[q]? = some oc)
    (hvw : Rel zn v w) (hn : NoRow Ch v)
    (hk : ∀ v' w' (wb bk : Nat) (sc : Value) (c : Nat) (bd : Frame) (ad : Act) (od : Array Oper) (qd : Nat) (rd : List Nat) (oe : Oper) (kd : List Item), Rel zn v' w' → NoRow Ch v' → Set28 v wb bk sc c v' → od[qd]? = some oe →
      (∀ (Ch : Nat → Prop) (Stop : Goroutine → World → Prop) (M A0 : Nat) (v w : World), Rel zn v w → NoRow Ch v → Done28 M A0 v → (∀ v' w', Rel zn v' w' → NoRow Ch v' → Grows v v' → GoesI Try.prog main (DT (ScZ zn) Ch) Stop (G (bc.at (ac.put oc.dst (.bool true)) (.inRegion ops rest :: k)) cs) w') → GoesI Try.prog main (DT (ScZ zn) Ch) Stop (G (bd.at (ad.put oe.dst (.tuple #[.slice (some ⟨M, 0, none⟩) 1 1, I 0])) (.inRegion od rd :: kd)) (bc.at ac (.inRegion ops (q :: rest) :: k) :: cs)) w) →
      GoesI Try.prog main (DT (ScZ zn) Ch) Stop (G ((base 33).at { tmps := #[Pt wb 0, .slice (some ⟨c + 1, 0, none⟩) 1 1] ++ Array.replicate 21 undef, defers := [] } [.code B31]) (bd.at ad (.inRegion od (qd :: rd) :: kd) :: bc.at ac (.inRegion ops (q :: rest) :: k) :: cs)) w') :
    GoesI Try.prog main (DT (ScZ zn) Ch) Stop (G ((base 30).at { tmps := Array.replicate 53 undef, defers := [] } [.code B28]) (bc.at ac (.inRegion ops (q :: rest) :: k) :: cs)) w := by
  rw [eB28]
  refine goesI_seq (dt_idle _ _) ?_
  refine goesI_plain (z := zn) (wr := true) (L := LV) (I := NoRow Ch) hE fineV noRow_keeps (fun v v' w w' es hi hr ho he => dt_of_z v v' w w' es hi hr ho he) hvw fine280 rfl (by simp [base]) hn
    (Q := fun a w' => a = { tmps := #[.bool false] ++ Array.replicate 52 undef, defers := [] } ∧ w'.heap = v.heap ∧ w'.os = v.os ∧ w'.output = v.output) (fun τ => b280_wp (v := onTape v τ 0)) ?_
  rintro a0 v0 w0 ⟨rfl, e0, o0, u0⟩ hr0 hn0 -
  refine goesI_seq (dt_idle _ _) ?_
  refine goesI_plain (z := zn) (wr := true) (L := LV) (I := NoRow Ch) hE fineV noRow_keeps (fun v v' w w' es hi hr ho he => dt_of_z v v' w w' es hi hr ho he) hr0 fine281 rfl (by simp [base]) hn0
    (Q := fun a w' => ∃ wb bk sc, a = { tmps := #[.bool false, Pt wb 0, undef, undef, Pt wb 0] ++ Array.replicate 48 undef, defers := [] } ∧ IsNew v0 [] wb bk sc w') (fun τ => ?_) ?_
  · refine wp_mono (b281_wp (v := onTape v0 τ 0)) (fun e a w' hq => ⟨hq.1, ?_⟩)
    obtain ⟨_, wb, bk, sc, h1, h2⟩ := hq
    exact ⟨wb, bk, sc, h1, ⟨h2.mem, h2.opn, h2.new, ⟨h2.old.size, h2.old.old, h2.old.os, h2.old.output⟩⟩⟩
  rintro a1 v1 w1 ⟨wb, bk, sc, rfl, hnew⟩ hr1 hn1 -
  have hset : Set28 v wb bk sc v1.heap.size ((v1.alloc (.cells #[I 1, I 5, I 0, I 0, I 2, I 7, I 0, I 0] 39)).alloc (.cells #[.slice (some ⟨v1.heap.size, 0, none⟩) 2 2] 37)) := by
    have g1 : Grows v1 ((v1.alloc (.cells #[I 1, I 5, I 0, I 0, I 2, I 7, I 0, I 0] 39)).alloc (.cells #[.slice (some ⟨v1.heap.size, 0, none⟩) 2 2] 37)) := ⟨by show _ ≤ ((v1.heap.push _).push _).size; simp; omega, fun b hb => by show ((v1.heap.push _).push _)[b]? = _; rw [Array.getElem?_push, if_neg (by simp; omega), Array.getElem?_push, if_neg (by omega)], rfl, rfl⟩
    have hm1 := hnew.mem
    have hnn := hnew.new
    rw [e0] at hm1 hnn
    refine ⟨(hm1.grows g1).mem, ?_, ?_, ?_, fun b hb => ⟨hnn b hb, ?_⟩, ⟨?_, fun b hb => ?_, ?_, ?_⟩⟩
    · obtain ⟨c, m, h⟩ := hnew.opn
      exact ⟨c, m, by rw [g1.old _ (Array.getElem?_eq_some_iff.1 h).1]; exact h⟩
    · show ((v1.heap.push _).push _)[v1.heap.size]? = _
      rw [Array.getElem?_push, if_neg (by simp)]
      exact Array.getElem?_push_size
    · show ((v1.heap.push _).push _)[v1.heap.size + 1]? = _
      rw [Array.getElem?_push, if_pos (by simp)]
    · rcases hb with hb | rfl
      · exact hm1.lt hb
      · obtain ⟨c, m, h⟩ := hnew.opn
        exact (Array.getElem?_eq_some_iff.1 h).1
    · have := hnew.old.size; have := g1.size; rw [e0] at *; omega
    · rw [g1.old b (by have := hnew.old.size; rw [e0] at this; omega), hnew.old.old b (by rw [e0]; exact hb), e0]
    · exact hnew.old.os.trans o0
    · exact hnew.old.output.trans u0
  have hs1 : v1.heap.size = v1.heap.size := rfl
  clear hnew hr0 hn0 e0 o0 u0 hvw hn
  unfold r282 B28 Try.f30 seq1 seq2
  simp only [Option.getD_some, Array.replicate_succ, Array.replicate_zero, List.push_toArray, List.append_toArray, List.nil_append, List.cons_append]
  refine goesI_seq (dt_idle _ _) ?_
  refine goesI_region (dt_idle _ _) ?_
  simp only [List.size_toArray, List.length_cons, List.length_nil, Nat.reduceAdd, Nat.zero_add, List.range, List.range.loop]
  iterate 1
    (refine goesI_oper rfl rfl (by decide) (fun d K hK => ?_)
     go_simp
     refine hK _ _ ⟨dt_reads (fun e he => ?_), GoesI.at ?_ d⟩
     · have hm := mem_listed he
       simp [go_sem, *] at hm
       try exact ⟨_, _, hm⟩
     clear hK K)
  refine goesI_opZ (L := LV) rfl rfl (by decide) (fineOp_ask callV extT (by kernel_rfl)) hr1 hn1 (v' := v1) (x := .agg #[I 1, I 5, I 0, I 0]) (by go_simp) rfl (fun w2 hr2 hn2 => ?_)
  refine goesI_opZ (L := LV) rfl rfl (by decide) (fineOp_ask callV extT (by kernel_rfl)) hr2 hn2 (v' := v1) (x := .agg #[I 2, I 7, I 0, I 0]) (by go_simp) rfl (fun w3 hr3 hn3 => ?_)
  refine goesI_opZ (L := LV) rfl rfl (by decide) (fineOp_ask callV extT (by kernel_rfl)) hr3 hn3 (v' := v1.alloc (.cells #[I 1, I 5, I 0, I 0, I 2, I 7, I 0, I 0] 39)) (x := .slice (some ⟨v1.heap.size, 0, none⟩) 2 2) (by go_simp) rfl (fun w4 hr4 hn4 => ?_)
  refine goesI_opZ (L := LV) rfl rfl (by decide) (fineOp_ask callV extT (by kernel_rfl)) hr4 hn4 (v' := (v1.alloc (.cells #[I 1, I 5, I 0, I 0, I 2, I 7, I 0, I 0] 39)).alloc (.cells #[.slice (some ⟨v1.heap.size, 0, none⟩) 2 2] 37)) (x := .slice (some ⟨v1.heap.size + 1, 0, none⟩) 1 1) (by go_simp) rfl (fun w5 hr5 hn5 => ?_)
  refine goesI_into (f := 33) (fn := Try.f33) (args := #[Pt wb 0, .slice (some ⟨v1.heap.size + 1, 0, none⟩) 1 1]) (dt_idle _ _) rfl rfl (by decide) rfl (by simp [Act.eval, Act.put]) Try.func33 (by decide) rfl ?_
  refine hk _ w5 wb bk sc v1.heap.size _ _ _ _ _ _ _ hr5 hn5 hset rfl (fun Ch Stop M A0 vv ww hvw hn hD hg => ?_)
  clear hk hset hr1 hr2 hr3 hr4 hr5 hn1 hn2 hn3 hn4 hn5
  iterate 5
    (refine goesI_oper rfl rfl (by decide) (fun d K hK => ?_)
     go_simp
     refine hK _ _ ⟨dt_reads (fun e he => ?_), GoesI.at ?_ d⟩
     · have hm := mem_listed he
       simp [go_sem, *] at hm
       try exact ⟨_, _, hm⟩
     clear hK K)
  refine goesI_regionEnd (dt_idle _ _) ?_
  refine goesI_outZ (c := T28) (f := 30) (fn := Try.f30) (L := LV) hE fineV hvw hn Try.func30 fineT28 rfl hoc (R := fun r w' => r = .bool true ∧ w'.heap = vv.heap ∧ w'.os = vv.os ∧ w'.output = vv.output) (fun τ => ?_) (fun r v' w' hR hr' hn' => ?_)
  · have h := T28_wp (v := onTape vv τ 0) M A0 hD.m0 hD.x1 hD.x2 hD.x3 (Pt wb 0) (Pt wb 0) (.tuple #[.slice (some ⟨M, 0, none⟩) 1 1, I 0]) (Pt wb 0) (.agg #[I 1, I 5, I 0, I 0]) (.agg #[I 2, I 7, I 0, I 0]) (.slice (some ⟨v1.heap.size, 0, none⟩) 2 2) (.slice (some ⟨v1.heap.size + 1, 0, none⟩) 1 1) (.tuple #[.slice (some ⟨M, 0, none⟩) 1 1, I 0]) (.slice (some ⟨M, 0, none⟩) 1 1) (I 0)
    simp only [Array.replicate_succ, Array.replicate_zero, List.push_toArray, List.append_toArray, List.nil_append, List.cons_append] at h ⊢
    exact h
  · obtain ⟨rfl, e, e1, e2⟩ := hR
    exact hg v' w' hr' hn' ⟨by rw [e]; exact Nat.le_refl _, fun b _ => by rw [e], e1, e2⟩
end Go.Proofs.Ytfjjoohflcchnaa.Gen

namespace Go.Proofs.Ytfjjoohflcchnaa.Gen
open Go Go.Lift Go.Conc Go.RowKit
open Go.ConcN (upd upd_same upd_ne)

section
variable {wb bk base : Nat} {sc cv : Value} {c0 c1 gb : Nat} {l0 : Nat → Ph}
theorem hires_lok {caps : Array Value} {pk : Nat → Option Obj} {N c : Nat} {S1 : TS} {l1 : Nat → Ph} (h : Hires mcLock 0 (scrs mcLock 66 caps pk N 1 [(c0, 0), (c1, 0), (gb, 0)] (fun _ => some ⟨c, 0, none⟩) (fun _ => 2) (fun _ => 2) (fun _ => c) (fun _ => clsL)) (awS wb bk base sc cv 3) l0 S1 l1) :
    ∃ tv0 tb0 gc0, (⟨S1, [(c0, 0), (c1, 0), (gb, 0)], l1⟩ : PSt) = awP wb bk base sc cv tv0 tb0 gc0 c0 c1 gb l0 := by
  have e : (scrs mcLock 66 caps pk N 1 [(c0, 0), (c1, 0), (gb, 0)] (fun _ => some ⟨c, 0, none⟩) (fun _ => 2) (fun _ => 2) (fun _ => c) (fun _ => clsL)) = [scrOf mcLock 66 caps pk N 1 [c0, c1, gb] (fun _ => some ⟨c, 0, none⟩) (fun _ => 2) (fun _ => 2) (fun _ => c) (fun _ => clsL) 0] := rfl
  rw [e] at h
  cases h with
  | cons tv0 tb0 gc0 h =>
    cases h
    exact ⟨tv0, tb0, gc0, rfl⟩
end

theorem asked28 {v u : World} {wb bk : Nat} {sc : Value} {c : Nat} (s : Set28 v wb bk sc c u) : Asked u (newS wb bk v.heap.size sc []) 1 (c + 1) 0 (fun _ => some ⟨c, 0, none⟩) (fun _ => 2) (fun _ => 2) (fun _ => c) (fun _ => clsL) := by
  refine ⟨fun j hj => ⟨rfl, by decide⟩, fun k hk => ?_, fun h => by have := (s.own _ (.inl h)).2; omega, fun j hj _ => ⟨rfl, fun h => by have := (s.own _ (.inl h)).2; omega⟩, fun j hj k x hx => ?_, fun j hj x hx => ?_⟩
  · obtain rfl : k = 0 := by omega
    exact cell_of s.scr rfl
  · match k, hx with
    | 0, hx =>
      cases hx
      exact ⟨cell_of s.calls rfl, cell_of s.calls rfl, cell_of s.calls rfl, cell_of s.calls rfl⟩
    | 1, hx =>
      cases hx
      exact ⟨cell_of s.calls rfl, cell_of s.calls rfl, cell_of s.calls rfl, cell_of s.calls rfl⟩
    | k + 2, hx => simp [clsL] at hx
  · simp only [clsL, List.mem_cons, List.not_mem_nil, or_false] at hx
    rcases hx with rfl | rfl <;> decide

theorem K_three {K : List (Nat × Int)} (hK : K.map (·.2) = [0, 0, 0]) : ∃ c0 c1 gb, K = [(c0, 0), (c1, 0), (gb, 0)] := by
  match K, hK with
  | [], hK => cases hK
  | [x], hK => simp at hK
  | [x, y], hK => simp at hK
  | [x, y, z], hK =>
    obtain ⟨a, b⟩ := x
    obtain ⟨c, d⟩ := y
    obtain ⟨e, f⟩ := z
    simp only [List.map_cons, List.map_nil, List.cons.injEq, and_true] at hK
    obtain ⟨rfl, rfl, rfl⟩ := hK
    exact ⟨a, c, e, rfl⟩
  | x :: y :: z :: u :: l, hK => simp at hK

set_option maxHeartbeats 1000000 in
theorem lawake_all {cs : List Frame} {bc : Frame} {ac : Act} {ops : Array Oper} {q0 : Nat} {rest : List Nat} {oc : Oper} {k0 : List Item} (hoc : ops[q0]? = some oc) {w : World} {T : Trace} {gs : Array Goroutine} {q : Nat → Nat} (sl : Option (Nat × Nat)) (A : Alone gs w T q)
    (hg : gs[0]? = some (G ((base 30).at { tmps := Array.replicate 53 undef, defers := [] } [.code B28]) (bc.at ac (.inRegion ops (q0 :: rest) :: k0) :: cs))) :
    ∃ (N' : Nat) (gs' : Array Goroutine) (w' : World) (sl' : Option (Nat × Nat)) (T' : Trace) (q' : Nat → Nat),
      runNT Try.prog N' (crowd gs w sl) T = (.next (crowd gs' w' sl'), T') ∧ gs'[0]? = some (G (bc.at (ac.put oc.dst (.bool true)) (.inRegion ops rest :: k0)) cs) ∧ Alone gs' w' T' q' ∧ Grows w w' := by
  have hG : GoesI Try.prog true (DT (ScZ zn) (fun _ => False)) (fun g w' => ∃ (wb bk : Nat) (sc : Value) (c : Nat) (bd : Frame) (ad : Act) (od : Array Oper) (qd : Nat) (rd : List Nat) (oe : Oper) (kd : List Item), Set28 w wb bk sc c w' ∧ od[qd]? = some oe ∧
      (∀ (Ch : Nat → Prop) (Stop : Goroutine → World → Prop) (M A0 : Nat) (v w : World), Rel zn v w → NoRow Ch v → Done28 M A0 v → (∀ v' w', Rel zn v' w' → NoRow Ch v' → Grows v v' → GoesI Try.prog true (DT (ScZ zn) Ch) Stop (G (bc.at (ac.put oc.dst (.bool true)) (.inRegion ops rest :: k0)) cs) w') → GoesI Try.prog true (DT (ScZ zn) Ch) Stop (G (bd.at (ad.put oe.dst (.tuple #[.slice (some ⟨M, 0, none⟩) 1 1, I 0])) (.inRegion od rd :: kd)) (bc.at ac (.inRegion ops (q0 :: rest) :: k0) :: cs)) w) ∧
      g = G ((base 33).at { tmps := #[Pt wb 0, .slice (some ⟨c + 1, 0, none⟩) 1 1] ++ Array.replicate 21 undef, defers := [] } [.code B31]) (bd.at ad (.inRegion od (qd :: rd) :: kd) :: bc.at ac (.inRegion ops (q0 :: rest) :: k0) :: cs)) (G ((base 30).at { tmps := Array.replicate 53 undef, defers := [] } [.code B28]) (bc.at ac (.inRegion ops (q0 :: rest) :: k0) :: cs)) w :=
    lawake_in cs hoc (Rel.refl w) (fun c hc => hc.elim) (fun v' w' wb bk sc c bd ad od qd rd oe kd hr hn hset ho hback => GoesI.stop fun d => ⟨wb, bk, sc, c, bd, ad, od, qd, rd, oe, kd, hset.same hr.eq hr.os hr.output, ho, hback, rfl⟩)
  obtain ⟨N1, gs1, a1, w1, sl1, T1, q1, r1, z1, h1, ⟨wb, bk, sc, c, bd, ad, od, qd, rd, oe, kd, s, hoe, hback, rfl⟩, A1⟩ := alone_goes A hg sl hG
  have l0 : Nat → Ph := fun _ => .done []
  obtain ⟨N2, gs2, w2, sl2, T2, q2, caps, pk, N, cv, K, S', S1, l1, m, p', r2, z2, h2, A2, hK, hnv, hH, hT, O⟩ := lplay_all (S := newS wb bk w.heap.size sc []) (n := 1) (sb := c + 1) (so := 0) (cap := 1) (pc := fun _ => some ⟨c, 0, none⟩) (ln := fun _ => 2) (cp := fun _ => 2) (rb := fun _ => c) (cl := fun _ => clsL) hoe sl1 10 A1 h1 s.mem rfl rfl rfl s.opn (asked28 s) (by decide) (fun caps pk N K => by show 0 + 2 * (2 + 0) ≤ 1000000; decide) (by show 0 ≤ 4611686018427387904; decide) (by show ∀ x ∈ ([] : List Int), _; simp) l0 (fun caps pk N cv K hK S1 l1 hH => by
      obtain ⟨c0, c1, gb, rfl⟩ := K_three hK
      obtain ⟨tv0, tb0, gc0, e⟩ := hires_lok (wb := wb) (bk := bk) (base := w.heap.size) (sc := sc) (cv := cv) hH
      exact ⟨10, _, Nat.le_refl _, by rw [e]; exact turns_of 10 _ (aw_runs wb bk _ sc cv tv0 tb0 gc0 c0 c1 gb l0), by rw [aw_n]; decide⟩)
  obtain ⟨c0, c1, gb, rfl⟩ := K_three hK
  obtain ⟨tv0, tb0, gc0, e⟩ := hires_lok (wb := wb) (bk := bk) (base := w.heap.size) (sc := sc) (cv := cv) hH
  have hT' : Turns mcLock m (⟨S1, [(c0, 0), (c1, 0), (gb, 0)], l1⟩ : PSt) p' := hT
  rw [e] at hT'
  have hp := turns_det hT' (turns_of 10 _ (aw_runs wb bk w.heap.size sc cv tv0 tb0 gc0 c0 c1 gb l0))
  have hans := aw_ans wb bk w.heap.size sc cv tv0 tb0 gc0 c0 c1 gb l0
  rw [← hp] at hans
  have a0 := (O.ans 0 (by decide)).2.1 (by decide)
  rw [hans] at a0
  have hD : Done28 (N + 1) (N + 4 + 3 * 0 + 2) w2 := ⟨O.rows 0 (by decide), cell_of a0 rfl, cell_of a0 rfl, cell_of a0 rfl⟩
  obtain ⟨N3, gs3, a3, w3, sl3, T3, q3, r3, z3, h3, ⟨rfl, hg3⟩, A3⟩ := alone_goes A2 h2 sl2 (hback (fun _ => False) (fun g w' => g = G (bc.at (ac.put oc.dst (.bool true)) (.inRegion ops rest :: k0)) cs ∧ Grows w2 w') (N + 1) _ w2 w2 (Rel.refl w2) (fun c hc => hc.elim) hD (fun v' w' hr hn hgr => GoesI.stop fun d => ⟨rfl, by
      have e : (w'.at d).heap = v'.heap := hr.eq
      exact ⟨by rw [e]; exact hgr.size, fun b hb => by rw [e]; exact hgr.old b hb, hr.os.trans hgr.os, hr.output.trans hgr.output⟩⟩))
  refine ⟨N1 + N2 + N3, gs3, w3, sl3, T3, q3, runNT_then (runNT_then r1 r2) r3, h3, A3, ⟨by have := s.old.size; have := O.size; have := hg3.size; omega, fun b hb => ?_, hg3.os.trans (O.os.trans s.old.os), hg3.output.trans (O.out.trans s.old.output)⟩⟩
  have hs1 := s.old.size
  have hno : ¬ (Own (newS wb bk w.heap.size sc []) [] b ∨ b = bk) := fun h => by have := (s.own b h).1; omega
  have h5 := O.old b (by omega) (fun h => hno (.inl h)) (fun h => hno (.inr h))
  rw [hg3.old b (by have := O.size; omega), h5.1, s.old.old b hb]
end Go.Proofs.Ytfjjoohflcchnaa.Gen
