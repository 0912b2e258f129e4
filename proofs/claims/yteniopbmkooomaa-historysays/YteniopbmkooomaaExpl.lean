/-
  What explained of package history does, over a state that is an int: it tells whether there is an order.
-/
import Derived.Test.YteniopbmkooomaaSearch
namespace Go.Proofs.Yteniopbmkooomaa
open Go.RowKit Hi Go.Deep Go.Maps

theorem callFunc_go {f : Nat} {fn : Func} (hf : Try.prog.funcs[f]? = some fn) (h1 : (fn.name == "runtime.NumGoroutine") = false) (h2 : fn.body.isNone = false) (args : Array Value) (w : World) :
    (callFunc f args).run Try.prog w = .ok (.enter f args) w := by
  have h1' : ¬ fn.name = "runtime.NumGoroutine" := by simpa using h1
  have h2' : ¬ fn.body = none := by intro h; rw [h] at h2; cases h2
  unfold callFunc
  simp [hf, h1', h2']

theorem cf27 : ∀ args w, (callFunc 27 args).run Try.prog w = .ok (.enter 27 args) w := callFunc_go Try.func27 (by kernel_rfl) (by kernel_rfl)
theorem cf30 : ∀ args w, (callFunc 30 args).run Try.prog w = .ok (.enter 30 args) w := callFunc_go Try.func30 (by kernel_rfl) (by kernel_rfl)
theorem cf31 : ∀ args w, (callFunc 31 args).run Try.prog w = .ok (.enter 31 args) w := callFunc_go Try.func31 (by kernel_rfl) (by kernel_rfl)

theorem one_new (w : World) (c : Value) (t : TypeId) : (w.alloc (.cells #[c] t)).cell? ⟨w.heap.size, 0, none⟩ = some c := by
  have := range_new w #[c] t 0 [c] rfl rfl 0 c rfl
  exact this
theorem one_old {w : World} {a : Addr} {c : Value} (h : w.cell? a = some c) (o : Obj) : (w.alloc o).cell? a = some c := by
  rw [World.cell?_alloc_lt (h := World.block_lt_of_cell? _ _ h)]; exact h

/-- The captured variables, as they are laid. -/
theorem env_start (fs : Nat) (fa : Value) (l : List Ev) (w1 : World) (bl ba bk n : Nat) (v : Value) (tb tn tv ts : TypeId) (hn : n = w1.heap.size) (cl : w1.cell? ⟨bl, 0, none⟩ = some v) (ca : w1.cell? ⟨ba, 0, none⟩ = some fa) (hE : Evs w1 v l)
    (hr : w1.rowIs bk 95 l.length (fun i => U (maskOf (aheadB l i) l.length))) :
    Env fs fa l (n + 1) (n + 1 + 1 + 1) bl n ba (n + 1 + 1 + 1 + 1) (n + 1 + 1) bk v
      (((((w1.alloc (.cells #[.slice (some ⟨bk, 0, none⟩) l.length l.length] tb)).alloc (.cells #[U (maskOf (overB l) l.length)] tn)).alloc (.map #[] 0)).alloc (.cells #[.map (some (n + 1 + 1))] tv)).alloc
        (.cells #[.func (.func fs) #[] #[P1 (n + 1), P1 (n + 1 + 1 + 1), P1 bl, P1 n, P1 ba, P1 (n + 1 + 1 + 1 + 1)]] ts)) := by
  subst hn
  have hB := below_alloc (below_alloc (below_alloc (below_alloc (below_alloc (Below.refl w1.heap.size w1) (.cells #[.slice (some ⟨bk, 0, none⟩) l.length l.length] tb)) (.cells #[U (maskOf (overB l) l.length)] tn)) (.map #[] 0)) (.cells #[.map (some (w1.heap.size + 1 + 1))] tv))
    (.cells #[.func (.func fs) #[] #[P1 (w1.heap.size + 1), P1 (w1.heap.size + 1 + 1 + 1), P1 bl, P1 w1.heap.size, P1 ba, P1 (w1.heap.size + 1 + 1 + 1 + 1)]] ts)
  refine ⟨?_, ?_, ?_, ?_, ?_, ?_, hE.later hB, row_later hB hr hr.lt⟩
  · refine one_old (one_old (one_old ?_ _) _) _
    have := one_new (w1.alloc (.cells #[.slice (some ⟨bk, 0, none⟩) l.length l.length] tb)) (U (maskOf (overB l) l.length)) tn
    rw [World.size_alloc] at this
    exact this
  · refine one_old ?_ _
    simpa using one_new (((w1.alloc (.cells #[.slice (some ⟨bk, 0, none⟩) l.length l.length] tb)).alloc (.cells #[U (maskOf (overB l) l.length)] tn)).alloc (.map #[] 0)) (.map (some (w1.heap.size + 1 + 1))) tv
  · exact one_old (one_old (one_old (one_old (one_old cl _) _) _) _) _
  · exact one_old (one_old (one_old (one_old (one_new _ _ _) _) _) _) _
  · exact one_old (one_old (one_old (one_old (one_old ca _) _) _) _) _
  · simpa using one_new ((((w1.alloc (.cells #[.slice (some ⟨bk, 0, none⟩) l.length l.length] tb)).alloc (.cells #[U (maskOf (overB l) l.length)] tn)).alloc (.map #[] 0)).alloc (.cells #[.map (some (w1.heap.size + 1 + 1))] tv))
      (.func (.func fs) #[] #[P1 (w1.heap.size + 1), P1 (w1.heap.size + 1 + 1 + 1), P1 bl, P1 w1.heap.size, P1 ba, P1 (w1.heap.size + 1 + 1 + 1 + 1)]) ts

/-- The map, as it is laid. -/
theorem vain_start (K : TypeId) (Q : Value → Prop) (w1 : World) (n : Nat) (hn : n = w1.heap.size) (A B C D : Obj) :
    Vain K Q (((((w1.alloc A).alloc B).alloc (.map #[] 0)).alloc C).alloc D) (n + 1 + 1) 0 := by
  have h := Vain.made K Q ((w1.alloc A).alloc B)
  have e : ((w1.alloc A).alloc B).heap.size = n + 1 + 1 := by simp [hn]
  rw [e] at h
  exact (h.alloc _).alloc _

theorem frm_below {bm : Nat} {w w1 w2 : World} (h : Below w.heap.size w w1) (f : Frm bm w1 w2) (hb : w.heap.size ≤ bm) : Below w.heap.size w w2 :=
  h.grown f.1 h.size (fun k e => by have := Option.some.inj e; omega)

set_option maxHeartbeats 1000000 in
set_option maxRecDepth 100000 in
theorem explainedI (f : Nat) (hcf : ∀ args w, (callFunc f args).run Try.prog w = .ok (.enter f args) w) (ways : Ways Int) (hask : ∀ (s : Int) (x : Ev) (w : World), Fits s → Calls Try.prog f #[I s, evV x] w fun e w' => ∃ v, e = .returned v ∧ Outs 3 encI w' v (ways s x) ∧ Below w.heap.size w w')
    (hfit : ∀ s x, Fits s → ∀ o ∈ ways s x, Fits o.2) (hlen : ∀ s x, (ways s x).length ≤ 2)
    (l : List Ev) (h12 : l.length ≤ 12) (hh : Hist l) (v : Value) (s : Int) (hs : Fits s) (w : World) (hE : Evs w v l) :
    Calls Try.prog 26 #[v, I s, .func (.func f) #[] #[]] w fun e w' => RetB e (Lin ways s l) ∧ Below w.heap.size w w' := by
  have hmm := @run_makeMap Try.prog
  have hst : ∀ (a : Addr) (fn : Fn) (x y : Array Value) (w : World), (store a (.func fn x y)).run Try.prog w = stored Try.prog w a (.func fn x y) .plain := fun a fn x y w => run_store _ w a _ _ rfl
  have HE : Hid (Evs w v l) := hE
  obtain ⟨p, cap, rfl, hcap, hmax, _⟩ := hE
  unfold maxLen at hmax
  have HS : Hid (∀ (bn bv bl bb ba bs bm bk : Nat) (v : Value) (m T : Nat) (s : Int) (w : World) (cnt : Nat), T < 2 ^ l.length → left T l.length ≤ m → Fits s → cnt + calls m ≤ 1000000000000000000 →
    Env 45 (.func (.func f) #[] #[]) l bn bv bl bb ba bs bm bk v w → Vain 101 (KeyV ways l) w bm cnt →
    Calls Try.prog 45 #[.agg #[U T, I s], P1 bn, P1 bv, P1 bl, P1 bb, P1 ba, P1 bs] w fun e w' => RetB e (GoesH ways l T s) ∧ Vain 101 (KeyV ways l) w' bm (cnt + calls m) ∧ Frm bm w w') := searchI f hcf ways hask hfit hlen l h12
  have HFIT : Hid (Fits s) := hs
  have HH : Hid (Hist l) := hh
  clear hcf hask hfit hlen hs hh
  go_enter Try.func26, Try.ntmps26
  go_wp2_with fail
  refine (ranks_any _ l _ (HE.out.later (below_alloc (below_alloc (Below.refl _ _) _) _)) h12).mono ?_
  rintro e w1 ⟨bk, rfl, hbk, hbk2, hrow, hb1⟩
  have HB1 : Hid (Below _ _ w1) := hb1
  have HROW : Hid (w1.rowIs bk 95 l.length (fun i => U (maskOf (aheadB l i) l.length))) := hrow
  obtain ⟨hc1, hf1⟩ := bcell hb1
  have hz1 : w.heap.size + 1 < w1.heap.size := by have := hb1.size; simp at this; omega
  clear hb1 hrow
  go_wp2_with fail
  refine (HS.out _ _ _ _ _ _ (w1.heap.size + 1 + 1) bk (.slice p l.length cap) 12 0 s _ 0 (Nat.two_pow_pos _) (Nat.le_trans (left_le _ _) h12) HFIT.out (by decide) ?_ ?_).mono ?_
  · refine env_start 45 _ l w1 _ _ bk _ _ _ _ _ _ rfl ?_ ?_ (HE.out.later (below_step (below_alloc (below_alloc (Below.refl _ _) _) _) HB1.out)) HROW.out
    · rw [hc1 _ _ (by simp; omega)]
      exact one_old (one_new _ _ _) _
    · rw [hc1 _ _ (by simp)]
      have := one_new (w.alloc (.cells #[.slice p l.length cap] 22)) (.func (.func f) #[] #[]) 64
      rw [World.size_alloc] at this
      exact this
  · exact vain_start _ _ _ _ rfl _ _ _ _
  rintro e w2 ⟨⟨b, rfl, hb⟩, hV2, hF2⟩
  have HBB : Hid (b = true ↔ GoesH ways l 0 s) := hb
  have HF2 : Hid (Frm _ _ w2) := hF2
  clear hb hF2 hV2
  go_wp2_with fail
  go_ret
  refine ⟨⟨b, rfl, HBB.out.trans (goesH_iff.trans (lin_iff HH.out s).symm)⟩, ?_⟩
  exact frm_below (below_alloc (below_alloc (below_alloc (below_alloc (below_alloc (below_step (below_alloc (below_alloc (Below.refl _ _) _) _) HB1.out) _) _) _) _) _) HF2.out (by omega)

theorem fits_adder (s : Int) (x : Ev) (hs : Fits s) : ∀ o ∈ wayAdder s x, Fits o.2 := by
  intro o ho
  unfold wayAdder at ho
  split at ho
  · simp at ho; subst ho; exact wrap_fits _
  · split at ho
    · simp at ho
      rcases ho with rfl | rfl
      · exact wrap_fits _
      · exact hs
    · simp at ho
theorem fits_counter (s : Int) (x : Ev) (hs : Fits s) : ∀ o ∈ wayCounter s x, Fits o.2 := by
  intro o ho
  unfold wayCounter at ho
  split at ho
  · simp at ho; subst ho; exact wrap_fits _
  · split at ho
    · simp at ho; subst ho; exact hs
    · simp at ho
theorem fits_latch (s : Int) (x : Ev) (hs : Fits s) : ∀ o ∈ wayLatch s x, Fits o.2 := by
  intro o ho
  unfold wayLatch at ho
  split at ho
  · split at ho
    · simp at ho; subst ho; exact hs
    · simp at ho; subst ho; exact wrap_fits _
  · split at ho
    · split at ho
      · simp at ho; subst ho; exact hs
      · simp at ho
    · simp at ho
theorem len_adder (s : Int) (x : Ev) : (wayAdder s x).length ≤ 2 := by unfold wayAdder; split <;> (try split) <;> simp
theorem len_counter (s : Int) (x : Ev) : (wayCounter s x).length ≤ 2 := by unfold wayCounter; split <;> (try split) <;> simp
theorem len_latch (s : Int) (x : Ev) : (wayLatch s x).length ≤ 2 := by
  unfold wayLatch
  repeat' split
  all_goals simp

theorem explained_adder (l : List Ev) (h12 : l.length ≤ 12) (hh : Hist l) (v : Value) (s : Int) (hs : Fits s) (w : World) (hE : Evs w v l) :
    Calls Try.prog 26 #[v, I s, .func (.func 27) #[] #[]] w fun e w' => RetB e (Lin wayAdder s l) ∧ Below w.heap.size w w' :=
  explainedI 27 cf27 wayAdder (fun s x w _ => askAdder_any s x w) fits_adder len_adder l h12 hh v s hs w hE
theorem explained_counter (l : List Ev) (h12 : l.length ≤ 12) (hh : Hist l) (v : Value) (s : Int) (hs : Fits s) (w : World) (hE : Evs w v l) :
    Calls Try.prog 26 #[v, I s, .func (.func 30) #[] #[]] w fun e w' => RetB e (Lin wayCounter s l) ∧ Below w.heap.size w w' :=
  explainedI 30 cf30 wayCounter (fun s x w _ => askCounter_any s x w) fits_counter len_counter l h12 hh v s hs w hE
theorem explained_latch (l : List Ev) (h12 : l.length ≤ 12) (hh : Hist l) (v : Value) (s : Int) (hs : Fits s) (w : World) (hE : Evs w v l) :
    Calls Try.prog 26 #[v, I s, .func (.func 31) #[] #[]] w fun e w' => RetB e (Lin wayLatch s l) ∧ Below w.heap.size w w' :=
  explainedI 31 cf31 wayLatch (fun s x w _ => askLatch_any s x w) fits_latch len_latch l h12 hh v s hs w hE

end Go.Proofs.Yteniopbmkooomaa
