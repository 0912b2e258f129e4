/-
  What isHistory, ranks, mayStart of package history do.
-/
import Derived.Test.YteniopbmkooomaaBase
namespace Go.Proofs.Yteniopbmkooomaa
open Go.RowKit Hi

/-- A slice holds events. -/
def Evs (w : World) (v : Value) (l : List Ev) : Prop :=
  ∃ p cap, v = .slice p l.length cap ∧ l.length ≤ cap ∧ cap ≤ maxLen ∧ ∀ i, i < l.length → ∃ blk off, p = some ⟨blk, off, none⟩ ∧ w.rangeAt blk (off + i * 8) (evC (l.getD i ev0)).toList

theorem range_later {w w' : World} {n b o : Nat} {cs : List Value} (hb : Below n w w') (h : w.rangeAt b o cs) (hn : b < n) : w'.rangeAt b o cs := fun j v hj => by
  rw [hb.cell (p := ⟨b, o + j, none⟩) hn]; exact h j v hj

theorem range_lt {w : World} {b o : Nat} {c : Value} {cs : List Value} (h : w.rangeAt b o (c :: cs)) : b < w.heap.size :=
  World.block_lt_of_cell? _ _ (h 0 c rfl)

theorem Evs.later {w w' : World} {v : Value} {l : List Ev} (hb : Below w.heap.size w w') (h : Evs w v l) : Evs w' v l := by
  obtain ⟨p, cap, rfl, h1, h2, h3⟩ := h
  refine ⟨p, cap, rfl, h1, h2, fun i hi => ?_⟩
  obtain ⟨blk, off, e, hr⟩ := h3 i hi
  exact ⟨blk, off, e, range_later hb hr (range_lt hr)⟩

theorem size33 : (Try.prog.info? 33).map (·.size) = some 8 := by kernel_rfl

theorem load_ev {w : World} {b o : Nat} {e : Ev} (h : w.rangeAt b o (evC e).toList) :
    (Instr.loadAt 33 (.pointer (some ⟨b, o, none⟩))).run Try.prog w = .ok (evV e) w :=
  run_loadAt_mid (P := Try.prog) w b o 33 _ _ h Try.underlying33 rfl size33

/-- The load of an event, at the operation. -/
theorem wp_load33 {ops : Array Oper} {rest : List Oper} {op : Oper} {a : Act} {w : World} {Q : Exit → Act → World → Prop} (x : Operand) (ho : op.op = .load 33 x) (hgd : op.guard = none)
    (b o : Nat) (hx : a.eval x = .pointer (some ⟨b, o, none⟩)) (e : Ev) (hc : w.rangeAt b o (evC e).toList)
    (h : wpList Try.prog ops Q rest (a.put op.dst (evV e)) w) : wpList Try.prog ops Q (op :: rest) a w :=
  wpList_load_mid (P := Try.prog) hgd 33 x ho b o hx _ _ hc Try.underlying33 rfl size33 h

/-- The cells of an event, one by one. -/
theorem box8 {w : World} {b : Nat} {x : Ev} (h : w.rangeAt b 0 (evC x).toList) : w.cell? ⟨b, 0, none⟩ = some (I x.thr) ∧ w.cell? ⟨b, 1, none⟩ = some (I x.op) ∧ w.cell? ⟨b, 2, none⟩ = some (I x.a) ∧ w.cell? ⟨b, 3, none⟩ = some (I x.b) ∧
    w.cell? ⟨b, 4, none⟩ = some (I x.beg) ∧ w.cell? ⟨b, 5, none⟩ = some (I x.fin) ∧ w.cell? ⟨b, 6, none⟩ = some (I x.code) ∧ w.cell? ⟨b, 7, none⟩ = some (I x.val) := by
  refine ⟨?_, ?_, ?_, ?_, ?_, ?_, ?_, ?_⟩
  · simpa using h 0 _ rfl
  · simpa using h 1 _ rfl
  · simpa using h 2 _ rfl
  · simpa using h 3 _ rfl
  · simpa using h 4 _ rfl
  · simpa using h 5 _ rfl
  · simpa using h 6 _ rfl
  · simpa using h 7 _ rfl

/-- It answers a bool: whether p. -/
def RetB (e : Ending) (p : Prop) : Prop := ∃ b, e = .returned (.bool b) ∧ (b = true ↔ p)

theorem retB_yes {e : Ending} {p : Prop} (he : e = .returned (.bool true)) (h : p) : RetB e p := ⟨true, he, by simp [h]⟩
theorem retB_no {e : Ending} {p : Prop} (he : e = .returned (.bool false)) (h : ¬ p) : RetB e p := ⟨false, he, by simp [h]⟩

/-- May an object start so? -/
def Starts (ob st : Int) : Prop := ob = 1 ∨ ob = 3 ∨ (ob = 2 ∧ st = 0) ∨ (ob = 4 ∧ 0 ≤ st) ∨ (ob = 5 ∧ 1 ≤ st ∧ st ≤ 1000)

set_option maxHeartbeats 400000 in
theorem mayStart_any (ob st : Int) (w : World) :
    Calls Try.prog 24 #[I ob, I st] w fun e w' => RetB e (Starts ob st) ∧ w' = w := by
  go_enter Try.func24, Try.ntmps24
  go_wp2
  all_goals
    go_ret
    first
      | exact ⟨retB_yes rfl (by unfold Starts; simp at *; omega), rfl⟩
      | exact ⟨retB_no rfl (by unfold Starts; simp at *; omega), rfl⟩
      | exact ⟨⟨_, rfl, by unfold Starts; simp at *; omega⟩, rfl⟩

theorem below_step {a b c : World} (h : Below a.heap.size a b) (k : Below b.heap.size b c) : Below a.heap.size a c := h.trans (k.mono h.size)
theorem below_alloc {a b : World} (h : Below a.heap.size a b) (o : Obj) : Below a.heap.size a (b.alloc o) := h.alloc h.size o

theorem hist_not {l : List Ev} {k : Nat} (hk : k < l.length) {x : Ev} (hx : l.getD k ev0 = x) (h : ¬ Timed x) : ¬ Hist l := fun hh => h (hx ▸ (hh k hk).1)
theorem hist_not2 {l : List Ev} {k j : Nat} (hk : k < l.length) (hj : j < k) {x y : Ev} (hx : l.getD k ev0 = x) (hy : l.getD j ev0 = y) (ht : x.thr = y.thr) (h1 : evAhead x y = false) (h2 : evAhead y x = false) : ¬ Hist l := fun hh => by
  have := (hh k hk).2 j hj
  rw [hx, hy] at this
  rcases this ht with h | h
  · rw [h1] at h; cases h
  · rw [h2] at h; cases h
theorem upto_succ {p : Nat → Prop} {k : Nat} (h : ∀ i, i < k → p i) (hk : p k) : ∀ i, i < k + 1 → p i := fun i hi => by
  by_cases e : i = k
  · subst e; exact hk
  · exact h i (by omega)

theorem bcell {W w1 : World} (hb : Below W.heap.size W w1) : (∀ b o, b < W.heap.size → w1.cell? ⟨b, o, none⟩ = W.cell? ⟨b, o, none⟩) ∧ (∀ b o, b < W.heap.size → w1.frozen? ⟨b, o, none⟩ = W.frozen? ⟨b, o, none⟩) :=
  ⟨fun b o h => hb.cell (p := ⟨b, o, none⟩) h, fun b o h => hb.frozen (p := ⟨b, o, none⟩) h⟩

set_option maxHeartbeats 6000000 in
set_option maxRecDepth 100000 in
theorem isHistory_any (v : Value) (l : List Ev) (w : World) (h : Evs w v l) :
    Calls Try.prog 25 #[v] w fun e w' => RetB e (Hist l) ∧ Below w.heap.size w w' := by
  obtain ⟨p, cap, rfl, hc, hm, hE⟩ := h
  unfold maxLen at hm
  go_enter Try.func25, Try.ntmps25
  go_wp2
  go_loopw [9] (fun i u => ∃ k : Nat, k ≤ l.length ∧ i = .int .i64 k ∧ (∀ i, i < k → Timed (l.getD i ev0) ∧ ∀ j, j < i → Two (l.getD i ev0) (l.getD j ev0)) ∧ Below w.heap.size w u) (fun i _ => l.length - (intOf i).toNat)
  case atStart => exact ⟨0, Nat.zero_le _, rfl, fun i hi => absurd hi (Nat.not_lt_zero _), Below.refl _ _⟩
  case round =>
    obtain ⟨k, hk, rfl, hso, hb⟩ := hrel
    obtain ⟨wo, hwo⟩ : ∃ wo, wo = wr := ⟨wr, rfl⟩
    subst hwo
    by_cases hlt : k < l.length
    · obtain ⟨blk, off, rfl, hr⟩ := hE k hlt
      have hld := range_later hb hr (range_lt hr)
      have HB : Hid (Below w.heap.size w wo) := hb
      have HS : Hid (w.heap.size ≤ wo.heap.size) := hb.size
      have HSO : Hid (∀ i, i < k → Timed (l.getD i ev0) ∧ ∀ j, j < i → Two (l.getD i ev0) (l.getD j ev0)) := hso
      have HE : Hid (∀ i, i < l.length → ∃ blk' off', some (⟨blk, off, none⟩ : Addr) = some ⟨blk', off', none⟩ ∧ w.rangeAt blk' (off' + i * 8) (evC (l.getD i ev0)).toList) := hE
      generalize hx : l.getD k ev0 = x at hld hr
      have HL : Hid (wo.rangeAt blk (off + k * 8) (evC x).toList) := hld
      have HX : Hid (l.getD k ev0 = x) := hx
      have HBL : Hid (blk < w.heap.size) := range_lt hr
      clear hb hso hE hx hr hld
      have HEQ : Hid (∀ i, i < k → ∀ b o, some (⟨blk, off, none⟩ : Addr) = some ⟨b, o, none⟩ → b = blk ∧ o = off) := fun i _ b o h => by cases h; exact ⟨rfl, rfl⟩
      by_cases ho : Timed x
      · have HO : Hid (Timed x) := ho
        obtain ⟨o1, o2⟩ := ho
        rcases (show ((x.fin != -1) = false) ∨ ((x.fin != -1) = true ∧ x.beg < x.fin) by
          by_cases e : x.fin = -1
          · left; rw [e]; rfl
          · right; exact ⟨by simpa using e, by omega⟩) with hfin' | ⟨hfin', o2'⟩
        all_goals
          clear o2
          go_wp2_with ((with_reducible refine wp_load33 (.tmp 12) ?_ ?_ blk (off + k * 8) ?_ x ?_ ?_); rfl; rfl; rfl; exact HL.out)
          go_loopw [33] (fun i u => ∃ j : Nat, j ≤ k ∧ i = .int .i64 j ∧ (∀ i, i < j → Two x (l.getD i ev0)) ∧ u.rangeAt wo.heap.size 0 (evC x).toList ∧ wo.heap.size < u.heap.size ∧ Below w.heap.size w u) (fun i _ => k - (intOf i).toNat)
          case atStart =>
            refine ⟨0, Nat.zero_le _, rfl, fun i hi => absurd hi (Nat.not_lt_zero _), ?_, ?_, ?_⟩
            · exact range_new _ _ _ _ _ rfl rfl
            · simp
            · exact HB.out.alloc HS.out _
          case round =>
            obtain ⟨j, hj, rfl, hso2, hbx, hsz, hb2⟩ := hrel
            by_cases hjk : j < k
            · obtain ⟨b', o', e', hry0⟩ := HE.out j (by omega)
              obtain ⟨rfl, rfl⟩ := HEQ.out j hjk _ _ e'
              have hry := range_later hb2 hry0 HBL.out
              have HX2 : Hid (∀ i, i < j → Two x (l.getD i ev0)) := hso2
              generalize hy : l.getD j ev0 = y at hry hry0
              have HY : Hid (l.getD j ev0 = y) := hy
              have HB2 : Hid (Below w.heap.size w wr) := hb2
              have HRY : Hid (wr.rangeAt b' (o' + j * 8) (evC y).toList) := hry
              have HBX : Hid (wr.rangeAt wo.heap.size 0 (evC x).toList) := hbx
              have HSZ : Hid (w.heap.size ≤ wr.heap.size) := hb2.size
              obtain ⟨x0, x1, x2, x3, x4, x5, x6, x7⟩ := box8 hbx
              clear hso2 hy hb2 hry hry0 e' hbx
              by_cases hth : x.thr = y.thr
              · have HTH : Hid (x.thr = y.thr) := hth
                have hth' : (x.thr == y.thr) = true := by simpa using hth
                clear hth
                cases h1 : evAhead x y
                · have H1 : Hid (evAhead x y = false) := h1
                  clear h1
                  cases h2 : evAhead y x
                  · have H2 : Hid (evAhead y x = false) := h2
                    clear h2
                    go_wp2_with ((with_reducible refine wp_load33 (.tmp 35) ?_ ?_ b' (o' + j * 8) ?_ y ?_ ?_); rfl; rfl; rfl; exact HRY.out)
                    refine (ahead_any x y _).mono ?_
                    rintro e w3 ⟨rfl, hb3⟩
                    rw [H1.out]
                    obtain ⟨hc3, hf3⟩ := bcell hb3
                    have HB3 : Hid (Below _ _ w3) := hb3
                    clear hb3
                    go_wp2_with fail
                    refine (ahead_any y x _).mono ?_
                    rintro e w4 ⟨rfl, hb4⟩
                    rw [H2.out]
                    have HB4 : Hid (Below _ _ w4) := hb4
                    clear hb4
                    go_wp2_with fail
                    go_ret
                    exact ⟨retB_no rfl (hist_not2 hlt hjk HX.out HY.out HTH.out H1.out H2.out), below_step (below_step (below_alloc HB2.out _) HB3.out) HB4.out⟩
                  · have H2 : Hid (evAhead y x = true) := h2
                    clear h2
                    go_wp2_with ((with_reducible refine wp_load33 (.tmp 35) ?_ ?_ b' (o' + j * 8) ?_ y ?_ ?_); rfl; rfl; rfl; exact HRY.out)
                    refine (ahead_any x y _).mono ?_
                    rintro e w3 ⟨rfl, hb3⟩
                    rw [H1.out]
                    obtain ⟨hc3, hf3⟩ := bcell hb3
                    have HB3 : Hid (Below _ _ w3) := hb3
                    have hsz3 : wr.heap.size + 1 ≤ w3.heap.size := by have := hb3.size; simpa using this
                    clear hb3
                    go_wp2_with fail
                    refine (ahead_any y x _).mono ?_
                    rintro e w4 ⟨rfl, hb4⟩
                    rw [H2.out]
                    have HB4 : Hid (Below _ _ w4) := hb4
                    clear hb4
                    go_wp2_with fail
                    go_roundw
                    case rel =>
                      have hbb := below_step (below_step (below_alloc HB2.out _) HB3.out) HB4.out
                      refine ⟨j + 1, by omega, by go_num, upto_succ HX2.out (by rw [HY.out]; exact fun _ => .inr H2.out), ?_, ?_, hbb⟩
                      · exact range_later (below_step (below_step (below_alloc (Below.refl _ _) _) HB3.out) HB4.out) HBX.out hsz
                      · have := HB4.out.size; omega
                    case measure => simp [intOf]; omega
                · have H1 : Hid (evAhead x y = true) := h1
                  clear h1
                  go_wp2_with ((with_reducible refine wp_load33 (.tmp 35) ?_ ?_ b' (o' + j * 8) ?_ y ?_ ?_); rfl; rfl; rfl; exact HRY.out)
                  refine (ahead_any x y _).mono ?_
                  rintro e w3 ⟨rfl, hb3⟩
                  rw [H1.out]
                  have HB3 : Hid (Below _ _ w3) := hb3
                  have hsz3 : wr.heap.size + 1 ≤ w3.heap.size := by have := hb3.size; simpa using this
                  clear hb3
                  go_wp2_with fail
                  go_roundw
                  case rel =>
                    have hbb := below_step (below_alloc HB2.out _) HB3.out
                    refine ⟨j + 1, by omega, by go_num, upto_succ HX2.out (by rw [HY.out]; exact fun _ => .inl H1.out), ?_, ?_, hbb⟩
                    · exact range_later (below_step (below_alloc (Below.refl _ _) _) HB3.out) HBX.out hsz
                    · omega
                  case measure => simp [intOf]; omega
              · have HTH : Hid (¬ x.thr = y.thr) := hth
                have hth' : (x.thr == y.thr) = false := by simpa using hth
                clear hth
                go_wp2_with ((with_reducible refine wp_load33 (.tmp 35) ?_ ?_ b' (o' + j * 8) ?_ y ?_ ?_); rfl; rfl; rfl; exact HRY.out)
                go_roundw
                case rel =>
                  refine ⟨j + 1, by omega, by go_num, upto_succ HX2.out (by rw [HY.out]; exact fun h => absurd h HTH.out), ?_, ?_, below_alloc HB2.out _⟩
                  · exact range_later (below_alloc (Below.refl _ _) _) HBX.out hsz
                  · simp; omega
                case measure => simp [intOf]; omega
            · have : j = k := by omega
              subst this
              have HX2 : Hid (∀ i, i < j → Two x (l.getD i ev0)) := hso2
              have HB2 : Hid (Below w.heap.size w wr) := hb2
              clear hso2 hb2 hbx
              go_wp2_with fail
              go_roundw
              case rel =>
                exact ⟨j + 1, by omega, by go_num, upto_succ HSO.out (by rw [HX.out]; exact ⟨HO.out, HX2.out⟩), HB2.out⟩
              case measure => simp [intOf]; omega
      · have HO : Hid (¬ Timed x) := ho
        have : x.beg < 0 ∨ (0 ≤ x.beg ∧ x.fin ≠ -1 ∧ x.fin ≤ x.beg) := by unfold Timed at ho; omega
        clear ho
        rcases this with hb0 | ⟨hb0, hf0, hf1⟩
        · go_wp2_with ((with_reducible refine wp_load33 (.tmp 12) ?_ ?_ blk (off + k * 8) ?_ x ?_ ?_); rfl; rfl; rfl; exact HL.out)
          go_ret
          exact ⟨retB_no rfl (hist_not hlt HX.out HO.out), below_alloc HB.out _⟩
        · have hf0' : (x.fin != -1) = true := by simpa using hf0
          clear hf0
          go_wp2_with ((with_reducible refine wp_load33 (.tmp 12) ?_ ?_ blk (off + k * 8) ?_ x ?_ ?_); rfl; rfl; rfl; exact HL.out)
          go_ret
          exact ⟨retB_no rfl (hist_not hlt HX.out HO.out), below_alloc HB.out _⟩
    · have : k = l.length := by omega
      subst this
      go_wp2_with fail
      go_ret
      exact ⟨retB_yes rfl hso, hb⟩

end Go.Proofs.Yteniopbmkooomaa
